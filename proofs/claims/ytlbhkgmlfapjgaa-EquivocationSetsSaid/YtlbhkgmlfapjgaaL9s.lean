/- EquivocationSets. -/
import Derived.Test.YtlbhkgmlfapjgaaL9r
import Derived.Test.YtlbhkgmlfapjgaaSo
set_option linter.unusedVariables false

set_option linter.unusedSimpArgs false
namespace Go.Proofs.Ytlbhkgmlfapjgaa
open Go.RowKit

set_option maxRecDepth 100000

theorem guiV_set {T : List Bool} {j : Nat} (hj : j < T.length) (y : Int) : guiV (T.set j true) y = true ↔ y = j ∨ guiV T y = true := by
  unfold guiV
  simp only [Bool.and_eq_true, decide_eq_true_eq]
  constructor
  · rintro ⟨h1, h2⟩
    by_cases e : y.toNat = j
    · exact .inl (by omega)
    · refine .inr ⟨h1, ?_⟩
      simpa [List.getD, List.getElem?_set_ne (Ne.symm e)] using h2
  · rintro (rfl | ⟨h1, h2⟩)
    · exact ⟨by omega, by simp [List.getD, hj]⟩
    · refine ⟨h1, ?_⟩
      by_cases e : y.toNat = j
      · rw [e]; simp [List.getD, hj]
      · simpa [List.getD, List.getElem?_set_ne (Ne.symm e)] using h2

theorem memS_sorted (gs : List Bool) : (memS gs).Pairwise (· < ·) := memK_sorted gs _

theorem punL_mem {gs : List Bool} {l : List Int} (h : ∀ i, i < l.length → 0 ≤ l.getD i 0 ∧ l.getD i 0 < gs.length) : ∀ k, k ≤ l.length → memS (punL gs l k).1 = punK (memS gs) l k ∧ (punL gs l k).2 = ((punK (memS gs) l k).length : Int) - ((memS gs).length : Int)
  | 0, _ => ⟨rfl, by rw [punL_zero, punK_zero]; simp⟩
  | k + 1, hk => by
    obtain ⟨h1, h2⟩ := punL_mem h k (by omega)
    have hl := punL_len gs l k (by omega)
    obtain ⟨x0, x1⟩ := h k (by omega)
    rw [punL_succ (by omega), punK_succ (by omega), ← h1]
    rw [← h1] at h2
    obtain ⟨x, hx⟩ : ∃ x, l.getD k 0 = x := ⟨_, rfl⟩
    rw [hx] at x0 x1 ⊢
    obtain ⟨⟨T, n⟩, hT⟩ : ∃ P, punL gs l k = P := ⟨_, rfl⟩
    rw [hT] at h2 hl ⊢
    simp only at h2 hl ⊢
    obtain ⟨j, rfl⟩ : ∃ j : Nat, x = j := ⟨x.toNat, by omega⟩
    unfold punT
    simp only [Int.toNat_natCast]
    by_cases hg : T.getD j false = true
    · rw [if_pos hg]
      have hm : (j : Int) ∈ memS T := by rw [memS_mem, guiV_nat]; exact hg
      rw [insI_has (memS_sorted T) hm]
      exact ⟨rfl, h2⟩
    · rw [if_neg hg]
      have hm : (j : Int) ∉ memS T := by rw [memS_mem, guiV_nat]; exact hg
      have e : memS (T.set j true) = insI (memS T) j := by
        refine sorted_ext (memS_sorted _) (insI_sorted (memS_sorted T)) (fun y => ?_)
        rw [memS_mem, insI_mem, memS_mem, guiV_set (by omega)]
      refine ⟨e, ?_⟩
      show n + 1 = _
      rw [insI_new (memS_sorted T) hm, h2]
      push_cast
      omega

/-- What a punishment does to the members. -/
theorem punR_yes {gs : List Bool} {l : List Int} (hv : vlE l gs.length = 0) : ∃ (G : List Bool) (c : Int), punR gs l = (G, c) ∧ G.length = gs.length ∧ memS G = punI (memS gs) l ∧ c = ((punI (memS gs) l).length : Int) - ((memS gs).length : Int) ∧ ∀ y, guiV gs y = true → guiV G y = true := by
  have hg := vl_good hv
  obtain ⟨h1, h2⟩ := punL_mem (gs := gs) (l := l) (fun i hi => ⟨(hg.2 i hi).1, (hg.2 i hi).2.1⟩) l.length (Nat.le_refl _)
  rw [punK_all] at h1 h2
  have e : punR gs l = punL gs l l.length := by unfold punR; rw [if_pos hv]
  refine ⟨(punL gs l l.length).1, (punL gs l l.length).2, by rw [e], punL_len _ _ _ (Nat.le_refl _), h1, h2, fun y hy => ?_⟩
  rw [← memS_mem] at hy ⊢
  rw [h1]
  unfold punI
  exact foldl_insI_mem.2 (.inl hy)

theorem punR_no {gs : List Bool} {l : List Int} (hv : vlE l gs.length ≠ 0) : punR gs l = (gs, 0) := by unfold punR; rw [if_neg hv]

theorem has_mem (v : Value) (gs : List Bool) (y : Int) (w : World) (h : IntsV w v (memS gs)) :
    Calls Try.prog 17 #[v, .int .i64 y] w fun e w' => e = .returned (.bool (guiV gs y)) ∧ Below w.heap.size w w' := by
  have e : decide (y ∈ memS gs) = guiV gs y := by
    rw [Bool.eq_iff_iff]; simp only [decide_eq_true_eq]; exact memS_mem
  rw [← e]
  exact has_any v _ y w h

theorem members_ints (b g : Nat) (gs : List Bool) (w : World) (hV : SetI w b g gs) :
    Calls Try.prog 23 #[.pointer (some ⟨b, 0, none⟩)] w fun e w' => ∃ v', e = .returned v' ∧ IntsV w' v' (memS gs) ∧ Below w.heap.size w w' := by
  refine (members_any b g gs w hV).mono ?_
  rintro e w' ⟨v', rfl, h1, h2⟩
  have := memK_len gs gs.length
  have := hV.len
  exact ⟨v', rfl, ⟨h1.ints (by unfold memS maxLen; omega), mem_rng gs hV.len⟩, h2⟩

theorem IntsV.call {w w' : World} {v : Value} {l : List Int} (h : IntsV w v l) (hb : Below w.heap.size w w') : IntsV w' v l := ⟨h.1.below hb, h.2⟩

theorem IntsV.off {w w' : World} {v : Value} {l : List Int} {g : Nat} (h : IntsV w v l) (hg : w.grownBy w' (some g)) (ho : Off g v) : IntsV w' v l := ⟨h.1.grownOff hg (fun g e => by cases e; exact ho), h.2⟩

theorem memS_len {gs : List Bool} {n : Nat} (h : gs.length = n) : (memS gs).length ≤ n := by
  have := memK_len gs gs.length
  unfold memS; omega

/-- The set and the list hold the same. -/
def SetsI (w : World) (n : Nat) (v : Value) (wr : World) : Prop :=
  ∃ gs : List Bool, gs.length = n ∧ SetI wr (w.heap.size + 1) w.heap.size gs ∧ IntsV wr v (memS gs) ∧ New (w.heap.size + 2) v ∧ Below w.heap.size w wr

set_option maxHeartbeats 16000000 in
theorem walk_EquivocationSets (a0 : Option Addr) (len0 cap0 : Nat) (z0 : List Int) (a1 : Int) (w : World) (w0 : IsRow .i64 w a0 len0 cap0 z0) (w1 : (Lit.int .i64 a1).wf = true) :
    Calls Try.prog 6 #[.slice a0 len0 cap0, .int .i64 a1] w fun e w' => e = .returned (.bool true) ∧ Below w.heap.size w w' := by
  have HROW := Lib.hid w0.ints.1
  have hmx : len0 ≤ maxLen := by obtain ⟨a, n, c, e, _, hm, _⟩ := HROW.out; cases e; exact hm
  unfold maxLen at hmx
  clear w0 w1
  obtain ⟨N, hN7, hN⟩ := i64_and7_nat a1
  have HA := Lib.hid awake9_any
  have HNT := Lib.hid (snew_ok N w (by omega))
  have HI := Lib.hid info_int
  go_enter Try.func6, Try.ntmps6
  go_wp2_with (first
    | (go_at_call 18; refine HNT.out.mono ?_; rintro e w1 ⟨rfl, hk1, hb1⟩; have HK1 := Lib.hid hk1; have HB1 := Lib.hid hb1; clear hk1 hb1))
  have HI0 : Hid (SetsI w N (.slice none 0 0) w1) := ⟨List.replicate N false, by simp, HK1.out, by rw [memS_rep]; exact ⟨⟨none, 0, 0, rfl, rfl, by unfold maxLen; omega, .inl rfl⟩, by simp⟩, New.nil _, HB1.out⟩
  clear HK1 HB1
  go_loopw [7, 8] (fun v i wr => ∃ k : Nat, k ≤ 12 ∧ i = .int .i64 k ∧ SetsI w N v wr) (fun _ i _ => 12 - (intOf i).toNat)
  case atStart => exact ⟨0, Nat.zero_le _, rfl, HI0.out⟩
  case round =>
    obtain ⟨k, hk, rfl, gs, hvn, hV, hW, hNw, hBl⟩ := hrel
    have HV := Lib.hid hV
    have HW := Lib.hid hW
    have HNW := Lib.hid hNw
    have HBL := Lib.hid hBl
    have HVN := Lib.hid hvn
    have hblt := hV.blk.lt
    clear HI0 hV hW hNw hBl hvn
    by_cases h12 : k < 12
    case neg =>
      obtain rfl : k = 12 := by omega
      by_cases hlen : (12 : Int) < (len0 : Int)
      · go_wp2_with (go_at_call 10; refine (HA.out _).mono ?_; rintro e w9 ⟨rfl, hb9⟩; have HB9 := Lib.hid (HBL.out.trans (hb9.mono HBL.out.size)); clear hb9)
        go_ret
        exact ⟨rfl, HB9.out⟩
      · go_wp2_with (go_at_call 10; refine (HA.out _).mono ?_; rintro e w9 ⟨rfl, hb9⟩; have HB9 := Lib.hid (HBL.out.trans (hb9.mono HBL.out.size)); clear hb9)
        go_ret
        exact ⟨rfl, HB9.out⟩
    by_cases hlen : k < len0
    case neg =>
      have hlen' : ¬ (k : Int) < (len0 : Int) := by omega
      go_wp2_with (go_at_call 10; refine (HA.out _).mono ?_; rintro e w9 ⟨rfl, hb9⟩; have HB9 := Lib.hid (HBL.out.trans (hb9.mono HBL.out.size)); clear hb9)
      go_ret
      exact ⟨rfl, HB9.out⟩
    have hlen' : (k : Int) < (len0 : Int) := by omega
    have h12' : (k : Int) < 12 := by omega
    obtain ⟨rb, ro, x, rfl, hcx⟩ : ∃ rb ro x, a0 = some ⟨rb, ro, none⟩ ∧ wr.cell? ⟨rb, ro + k, none⟩ = some (.int .i64 x) := by
      obtain ⟨a, n, c, e, _, _, hr⟩ := HROW.out.below HBL.out
      cases e
      rcases hr with h0 | ⟨b, off, rfl, _, hc⟩
      · omega
      · exact ⟨b, off, _, rfl, hc k hlen⟩
    have HCX := Lib.hid hcx
    clear hcx
    obtain ⟨K, hK⟩ : ∃ K, bits .and .i64 x 16777215 = K := ⟨_, rfl⟩
    have HLA := Lib.hid (fun k u => some_any N k u (by omega))
    obtain ⟨Y, hY7, hY⟩ := i64_and7_nat (K / 2048)
    obtain ⟨q, hq⟩ : ∃ q : Bool, (bits .and .i64 (K / 256) 7 == 7) = q := ⟨_, rfl⟩
    cases q
    case false =>
      go_wp2_with (first
        | ((with_reducible refine at_load (.tmp 42) ?_); refine wpList_load_1 3 (.tmp 42) rfl rb (ro + k) (.int .i64 x) HCX.out rfl _ Try.underlying3 rfl rfl ?_)
        | (go_at_call 19; refine (HLA.out _ _).mono ?_; rintro e w3 ⟨lv, l, rfl, ho3, hl3, hr3, hb3⟩; obtain ⟨va, vc, rfl⟩ := ho3.shapeL; have HO3 := Lib.hid ho3; have HL3 := Lib.hid hl3; have HR3 := Lib.hid hr3; have HV3 := Lib.hid (HV.out.call hb3); have HW3 := Lib.hid (HW.out.call hb3); have HB3 := Lib.hid (HBL.out.trans (hb3.mono HBL.out.size)); have HS3 := Lib.hid hb3.size; have HB3W := Lib.hid hb3; clear ho3 hl3 hr3 hb3))
      have HLi : Hid (IntsV w3 (.slice va l.length vc) l) := Lib.hid ⟨HO3.out.ints (by have := HL3.out; unfold maxLen; omega), fun z hz => by have := HR3.out z hz; omega⟩
      have HLo : Hid (Off w.heap.size (.slice va l.length vc)) := Lib.hid (HO3.out.new.off (by omega))
      have HLl : Hid (l.length ≤ 9) := by show _ ≤ _; have := HL3.out; omega
      have HVa := HV3; have HWa := HW3; have HBa := HB3
      clear HV3 HW3 HB3 HB3W
      by_cases hok : vlE l N = 0
      · have hvE : vlE l gs.length = 0 := by rw [HVN.out]; exact hok
        obtain ⟨G, c, hR, hGl, hGm, hc, hmon⟩ := punR_yes hvE
        have HGM := Lib.hid hGm
        have HGL : Hid (G.length = N) := by show G.length = N; rw [hGl]; exact HVN.out
        have HC := Lib.hid hc
        have HMON := Lib.hid hmon
        have hcc : (c != c) = false := by simp
        have HSL := Lib.hid (memS_len HVN.out)
        clear hGl hGm hc hmon hq hY hK
        go_wp2_with (first
          | (go_at_call 20; have hpu := punish_code (w.heap.size + 1) w.heap.size gs (.slice va l.length vc) l w3 HVa.out HLi.out HLo.out; refine hpu.mono ?_; rintro e w6 ⟨rfl, hv6, hg6⟩; rw [hR] at hv6; rw [hR, hvE]; have HV6 := Lib.hid hv6; have HW6 := Lib.hid (HWa.out.off hg6 (HNW.out.off (by omega))); have HL6 := Lib.hid (HLi.out.off hg6 HLo.out); have HB6 := Lib.hid (below_rowS HBa.out hg6 (Nat.le_refl _) HBa.out.size); clear hpu hv6 hg6)
          | (go_at_call 21; refine (rvlist_any (.slice va l.length vc) l N w6 HL6.out (by omega) (by omega)).mono ?_; rintro e w7 ⟨rfl, hb7⟩; rw [hok]; have HV7 := Lib.hid (HV6.out.call hb7); have HW7 := Lib.hid (HW6.out.call hb7); have HL7 := Lib.hid (HL6.out.call hb7); have HB7 := Lib.hid (HB6.out.trans (hb7.mono HB6.out.size)); clear hb7)
          | (go_at_call 22; have hrp := punish_any _ (memS gs) (.slice va l.length vc) l w7 HW7.out HL7.out (by have := HSL.out; omega) (by have := HLl.out; omega); refine hrp.mono ?_; rintro e w8 ⟨v8, rfl, hi8, hc8, hn8, hb8⟩; rw [← HC.out]; rw [← HGM.out] at hi8; have HX8 := Lib.hid hi8; have HN8 := Lib.hid hn8; have HW8 := Lib.hid (HW7.out.call hb8); have HV8 := Lib.hid (HV7.out.call hb8); have HB8 := Lib.hid (HB7.out.trans (hb8.mono HB7.out.size)); have hlt8 := HV7.out.blk.lt; clear hrp hi8 hc8 hn8 hb8)
          | (go_at_call 23; refine (members_ints (w.heap.size + 1) w.heap.size G w8 HV8.out).mono ?_; rintro e w9 ⟨v9, rfl, hi9, hb9⟩; have HI9 := Lib.hid hi9; have HV9 := Lib.hid (HV8.out.call hb9); have HX9 := Lib.hid (HX8.out.call hb9); have HW9 := Lib.hid (HW8.out.call hb9); have HB9 := Lib.hid (HB8.out.trans (hb9.mono HB8.out.size)); clear hi9 hb9)
          | (go_at_call 13; refine (same_yes _ _ (memS G) w9 HI9.out HX9.out).mono ?_; rintro e w10 ⟨rfl, hb10⟩; have HV10 := Lib.hid (HV9.out.call hb10); have HX10 := Lib.hid (HX9.out.call hb10); have HW10 := Lib.hid (HW9.out.call hb10); have HB10 := Lib.hid (HB9.out.trans (hb10.mono HB9.out.size)); clear hb10))
        go_loopw [16] (fun i wy => ∃ y : Int, -1 ≤ y ∧ y ≤ (N : Int) + 1 ∧ i = .int .i64 y ∧ SetI wy (w.heap.size + 1) w.heap.size G ∧ IntsV wy v8 (memS G) ∧ IntsV wy u7 (memS gs) ∧ Below w.heap.size w wy) (fun i _ => ((N : Int) + 1 - intOf i).toNat)
        case atStart => exact ⟨-1, by omega, by omega, rfl, HV10.out, HX10.out, HW10.out, HB10.out⟩
        case round =>
          obtain ⟨y, hy0, hy1, rfl, hvj, hxj, hwj, hbj⟩ := hrel
          have HVJ := Lib.hid hvj
          have HXJ := Lib.hid hxj
          have HWJ := Lib.hid hwj
          have HBJ := Lib.hid hbj
          clear hvj hxj hwj hbj
          by_cases hyN : y ≤ (N : Int)
          case neg =>
            go_wp2_with fail
            go_roundw
            case rel => exact ⟨k + 1, by omega, by go_num, G, HGL.out, HVJ.out, HXJ.out, HN8.out.mono (by omega), HBJ.out⟩
            case measure => simp [intOf]; omega
          have HQ1 := Lib.hid (fun u (hu : SetI u (w.heap.size + 1) w.heap.size G) => guilty_any (w.heap.size + 1) w.heap.size G y u hu (by omega))
          have HQ2 := Lib.hid (fun u (hu : IntsV u v8 (memS G)) => has_mem v8 G y u hu)
          have HQ3 := Lib.hid (fun u (hu : IntsV u u7 (memS gs)) => has_mem u7 gs y u hu)
          have HM := Lib.hid (HMON.out y)
          obtain ⟨q1, hq1⟩ : ∃ q, guiV G y = q := ⟨_, rfl⟩
          obtain ⟨q2, hq2⟩ : ∃ q, guiV gs y = q := ⟨_, rfl⟩
          rw [hq1] at HQ1 HQ2 HM
          rw [hq2] at HQ3
          try rw [hq2] at HM
          have e1 : IntKind.i64.wrap (y + 1) = y + 1 := IntWalk.i64_in _ (by omega)
          cases q1
          · have hq20 : q2 = false := by cases q2; rfl; exact absurd (HM.out rfl) (by simp)
            subst hq20
            clear hq1 hq2
            have tok1 : True := trivial
            have tok2 : True := trivial
            go_wp2_with (first
              | (go_at_call 24; have _t := tok1; refine (HQ1.out _ HVJ.out).mono ?_; rintro e w11 ⟨rfl, rfl⟩; clear tok1)
              | (go_at_call 17; have _t := tok2; refine (HQ2.out _ HXJ.out).mono ?_; rintro e w12 ⟨rfl, hb12⟩; have Hv82 := Lib.hid (HVJ.out.call hb12); have HX12 := Lib.hid (HXJ.out.call hb12); have HW12 := Lib.hid (HWJ.out.call hb12); have HB12 := Lib.hid (HBJ.out.trans (hb12.mono HBJ.out.size)); clear hb12 tok2)
              | (go_at_call 17; have _t := Hv82; refine (HQ3.out _ HW12.out).mono ?_; rintro e w13 ⟨rfl, hb13⟩; have Hv83 := Lib.hid (Hv82.out.call hb13); have HX13 := Lib.hid (HX12.out.call hb13); have HW13 := Lib.hid (HW12.out.call hb13); have HB13 := Lib.hid (HB12.out.trans (hb13.mono HB12.out.size)); clear hb13))
            go_roundw
            case rel => exact ⟨y + 1, by omega, by omega, by go_num, Hv83.out, HX13.out, HW13.out, HB13.out⟩
            case measure => simp [intOf]; omega
          · cases q2
            · clear hq1 hq2
              have tok1 : True := trivial
              have tok2 : True := trivial
              go_wp2_with (first
                | (go_at_call 24; have _t := tok1; refine (HQ1.out _ HVJ.out).mono ?_; rintro e w11 ⟨rfl, rfl⟩; clear tok1)
                | (go_at_call 17; have _t := tok2; refine (HQ2.out _ HXJ.out).mono ?_; rintro e w12 ⟨rfl, hb12⟩; have Hv82 := Lib.hid (HVJ.out.call hb12); have HX12 := Lib.hid (HXJ.out.call hb12); have HW12 := Lib.hid (HWJ.out.call hb12); have HB12 := Lib.hid (HBJ.out.trans (hb12.mono HBJ.out.size)); clear hb12 tok2)
                | (go_at_call 17; have _t := Hv82; refine (HQ3.out _ HW12.out).mono ?_; rintro e w13 ⟨rfl, hb13⟩; have Hv83 := Lib.hid (Hv82.out.call hb13); have HX13 := Lib.hid (HX12.out.call hb13); have HW13 := Lib.hid (HW12.out.call hb13); have HB13 := Lib.hid (HB12.out.trans (hb13.mono HB12.out.size)); clear hb13))
              go_roundw
              case rel => exact ⟨y + 1, by omega, by omega, by go_num, Hv83.out, HX13.out, HW13.out, HB13.out⟩
              case measure => simp [intOf]; omega
            · clear hq1 hq2
              have tok1 : True := trivial
              have tok2 : True := trivial
              go_wp2_with (first
                | (go_at_call 24; have _t := tok1; refine (HQ1.out _ HVJ.out).mono ?_; rintro e w11 ⟨rfl, rfl⟩; clear tok1)
                | (go_at_call 17; have _t := tok2; refine (HQ2.out _ HXJ.out).mono ?_; rintro e w12 ⟨rfl, hb12⟩; have Hv82 := Lib.hid (HVJ.out.call hb12); have HX12 := Lib.hid (HXJ.out.call hb12); have HW12 := Lib.hid (HWJ.out.call hb12); have HB12 := Lib.hid (HBJ.out.trans (hb12.mono HBJ.out.size)); clear hb12 tok2)
                | (go_at_call 17; have _t := Hv82; refine (HQ3.out _ HW12.out).mono ?_; rintro e w13 ⟨rfl, hb13⟩; have Hv83 := Lib.hid (Hv82.out.call hb13); have HX13 := Lib.hid (HX12.out.call hb13); have HW13 := Lib.hid (HW12.out.call hb13); have HB13 := Lib.hid (HB12.out.trans (hb13.mono HB12.out.size)); clear hb13)
                | (go_at_call 24; refine (HQ1.out _ Hv83.out).mono ?_; rintro e w14 ⟨rfl, rfl⟩))
              go_roundw
              case rel => exact ⟨y + 1, by omega, by omega, by go_num, Hv83.out, HX13.out, HW13.out, HB13.out⟩
              case measure => simp [intOf]; omega
      · obtain ⟨er, her⟩ : ∃ er, vlE l N = er := ⟨_, rfl⟩
        have hvE : vlE l gs.length = er := by rw [HVN.out]; exact her
        have hR : punR gs l = (gs, 0) := punR_no (by rw [hvE, ← her]; exact hok)
        have he0 : (er == 0) = false := by simp; rw [← her]; exact hok
        have hee : (er != er) = false := by simp
        have hok := her
        have HMON : Hid (∀ y, guiV gs y = true → guiV gs y = true) := fun _ h => h
        clear her hq hY hK
        obtain ⟨V7, hV7⟩ : ∃ v, u7 = v := ⟨_, rfl⟩
        rw [hV7] at HWa HNW ⊢
        clear hV7
        go_wp2_with (first
          | (go_at_call 20; have hpu := punish_code (w.heap.size + 1) w.heap.size gs (.slice va l.length vc) l w3 HVa.out HLi.out HLo.out; refine hpu.mono ?_; rintro e w6 ⟨rfl, hv6, hg6⟩; rw [hR] at hv6; rw [hR, hvE]; have HV6 := Lib.hid hv6; have HW6 := Lib.hid (HWa.out.off hg6 (HNW.out.off (by omega))); have HL6 := Lib.hid (HLi.out.off hg6 HLo.out); have HB6 := Lib.hid (below_rowS HBa.out hg6 (Nat.le_refl _) HBa.out.size); clear hpu hv6 hg6)
          | (go_at_call 21; refine (rvlist_any (.slice va l.length vc) l N w6 HL6.out (by omega) (by omega)).mono ?_; rintro e w7 ⟨rfl, hb7⟩; rw [hok]; have HV7 := Lib.hid (HV6.out.call hb7); have HW7 := Lib.hid (HW6.out.call hb7); have HB7 := Lib.hid (HB6.out.trans (hb7.mono HB6.out.size)); clear hb7)
          | (go_at_call 23; refine (members_ints (w.heap.size + 1) w.heap.size gs w7 HV7.out).mono ?_; rintro e w9 ⟨v9, rfl, hi9, hb9⟩; have HI9 := Lib.hid hi9; have HV9 := Lib.hid (HV7.out.call hb9); have HW9 := Lib.hid (HW7.out.call hb9); have HB9 := Lib.hid (HB7.out.trans (hb9.mono HB7.out.size)); clear hi9 hb9)
          | (go_at_call 13; refine (same_yes _ _ (memS gs) w9 HI9.out HW9.out).mono ?_; rintro e w10 ⟨rfl, hb10⟩; have HV10 := Lib.hid (HV9.out.call hb10); have HW10 := Lib.hid (HW9.out.call hb10); have HB10 := Lib.hid (HB9.out.trans (hb10.mono HB9.out.size)); clear hb10))
        go_loopw [16] (fun i wy => ∃ y : Int, -1 ≤ y ∧ y ≤ (N : Int) + 1 ∧ i = .int .i64 y ∧ SetI wy (w.heap.size + 1) w.heap.size gs ∧ IntsV wy V7 (memS gs) ∧ IntsV wy V7 (memS gs) ∧ Below w.heap.size w wy) (fun i _ => ((N : Int) + 1 - intOf i).toNat)
        case atStart => exact ⟨-1, by omega, by omega, rfl, HV10.out, HW10.out, HW10.out, HB10.out⟩
        case round =>
          obtain ⟨y, hy0, hy1, rfl, hvj, hxj, hwj, hbj⟩ := hrel
          have HVJ := Lib.hid hvj
          have HXJ := Lib.hid hxj
          have HWJ := Lib.hid hwj
          have HBJ := Lib.hid hbj
          clear hvj hxj hwj hbj
          by_cases hyN : y ≤ (N : Int)
          case neg =>
            go_wp2_with fail
            go_roundw
            case rel => exact ⟨k + 1, by omega, by go_num, gs, HVN.out, HVJ.out, HXJ.out, HNW.out, HBJ.out⟩
            case measure => simp [intOf]; omega
          have HQ1 := Lib.hid (fun u (hu : SetI u (w.heap.size + 1) w.heap.size gs) => guilty_any (w.heap.size + 1) w.heap.size gs y u hu (by omega))
          have HQ2 := Lib.hid (fun u (hu : IntsV u V7 (memS gs)) => has_mem V7 gs y u hu)
          have HQ3 := Lib.hid (fun u (hu : IntsV u V7 (memS gs)) => has_mem V7 gs y u hu)
          have HM := Lib.hid (HMON.out y)
          obtain ⟨q1, hq1⟩ : ∃ q, guiV gs y = q := ⟨_, rfl⟩
          rw [hq1] at HQ1 HQ2 HM
          rw [hq1] at HQ3
          have e1 : IntKind.i64.wrap (y + 1) = y + 1 := IntWalk.i64_in _ (by omega)
          cases q1
          · clear hq1
            have tok1 : True := trivial
            have tok2 : True := trivial
            go_wp2_with (first
              | (go_at_call 24; have _t := tok1; refine (HQ1.out _ HVJ.out).mono ?_; rintro e w11 ⟨rfl, rfl⟩; clear tok1)
              | (go_at_call 17; have _t := tok2; refine (HQ2.out _ HXJ.out).mono ?_; rintro e w12 ⟨rfl, hb12⟩; have HV72 := Lib.hid (HVJ.out.call hb12); have HX12 := Lib.hid (HXJ.out.call hb12); have HW12 := Lib.hid (HWJ.out.call hb12); have HB12 := Lib.hid (HBJ.out.trans (hb12.mono HBJ.out.size)); clear hb12 tok2)
              | (go_at_call 17; have _t := HV72; refine (HQ3.out _ HW12.out).mono ?_; rintro e w13 ⟨rfl, hb13⟩; have HV73 := Lib.hid (HV72.out.call hb13); have HX13 := Lib.hid (HX12.out.call hb13); have HW13 := Lib.hid (HW12.out.call hb13); have HB13 := Lib.hid (HB12.out.trans (hb13.mono HB12.out.size)); clear hb13))
            go_roundw
            case rel => exact ⟨y + 1, by omega, by omega, by go_num, HV73.out, HX13.out, HW13.out, HB13.out⟩
            case measure => simp [intOf]; omega
          · clear hq1
            have tok1 : True := trivial
            have tok2 : True := trivial
            go_wp2_with (first
              | (go_at_call 24; have _t := tok1; refine (HQ1.out _ HVJ.out).mono ?_; rintro e w11 ⟨rfl, rfl⟩; clear tok1)
              | (go_at_call 17; have _t := tok2; refine (HQ2.out _ HXJ.out).mono ?_; rintro e w12 ⟨rfl, hb12⟩; have HV72 := Lib.hid (HVJ.out.call hb12); have HX12 := Lib.hid (HXJ.out.call hb12); have HW12 := Lib.hid (HWJ.out.call hb12); have HB12 := Lib.hid (HBJ.out.trans (hb12.mono HBJ.out.size)); clear hb12 tok2)
              | (go_at_call 17; have _t := HV72; refine (HQ3.out _ HW12.out).mono ?_; rintro e w13 ⟨rfl, hb13⟩; have HV73 := Lib.hid (HV72.out.call hb13); have HX13 := Lib.hid (HX12.out.call hb13); have HW13 := Lib.hid (HW12.out.call hb13); have HB13 := Lib.hid (HB12.out.trans (hb13.mono HB12.out.size)); clear hb13)
              | (go_at_call 24; refine (HQ1.out _ HV73.out).mono ?_; rintro e w14 ⟨rfl, rfl⟩))
            go_roundw
            case rel => exact ⟨y + 1, by omega, by omega, by go_num, HV73.out, HX13.out, HW13.out, HB13.out⟩
            case measure => simp [intOf]; omega
    case true =>
      go_wp2_with (first
        | ((with_reducible refine at_load (.tmp 42) ?_); refine wpList_load_1 3 (.tmp 42) rfl rb (ro + k) (.int .i64 x) HCX.out rfl _ Try.underlying3 rfl rfl ?_)
        | (go_at_call 19; refine (HLA.out _ _).mono ?_; rintro e w3 ⟨lv, l, rfl, ho3, hl3, hr3, hb3⟩; obtain ⟨va, vc, rfl⟩ := ho3.shapeL; have HO3 := Lib.hid ho3; have HL3 := Lib.hid hl3; have HR3 := Lib.hid hr3; have HV3 := Lib.hid (HV.out.call hb3); have HW3 := Lib.hid (HW.out.call hb3); have HB3 := Lib.hid (HBL.out.trans (hb3.mono HBL.out.size)); have HS3 := Lib.hid hb3.size; have HB3W := Lib.hid hb3; clear ho3 hl3 hr3 hb3)
        | ((with_reducible refine at_app (.tmp 52) (.tmp 56) ?_); refine wpList_app1 HI.out (by omega) Try.underlying25 (.tmp 52) (.tmp 56) rfl rfl wr.heap.size _ l rfl (HO3.out.grown (World.grownBy_alloc _ (.cells #[.int .i64 (Y : Int)] 3) none) (fun n _ => by simp)) w3.heap.size 1 (Y : Int) rfl ((Blk.new rfl).cell 0) (by have := HL3.out; omega) (by have := HS3.out; simp; omega) ?_; intro v4 w4 h4 g4 o4; have HO4 := Lib.hid h4; have HG4 := Lib.hid g4; clear h4 g4 o4))
      have hbw0 : Below wr.heap.size wr (w3.alloc (.cells #[.int .i64 (Y : Int)] 3)) := HB3W.out.alloc HB3W.out.size _
      have hbw : Below wr.heap.size wr w4 := hbw0.grown HG4.out hbw0.size (fun n e => (HO3.out.lt n e).1)
      have HBa : Hid (Below w.heap.size w w4) := HBL.out.trans (hbw.mono HBL.out.size)
      have HVa : Hid (SetI w4 (w.heap.size + 1) w.heap.size gs) := HV.out.call hbw
      have HWa : Hid (IntsV w4 u7 (memS gs)) := HW.out.call hbw
      have HLi : Hid (IntsV w4 v4 (l ++ [(Y : Int)])) := Lib.hid ⟨HO4.out.ints (by have := HL3.out; rw [List.length_append]; simp; unfold maxLen; omega), fun z hz => by rcases List.mem_append.1 hz with h | h; have := HR3.out z h; omega; rw [List.mem_singleton.1 h]; omega⟩
      have HLo : Hid (Off w.heap.size v4) := Lib.hid (HO4.out.new.off (by omega))
      have HLl : Hid ((l ++ [(Y : Int)]).length ≤ 9) := by show _ ≤ _; have := HL3.out; rw [List.length_append]; simp; omega
      obtain ⟨L4, hL4⟩ : ∃ L, l ++ [(Y : Int)] = L := ⟨_, rfl⟩
      rw [hL4] at HLi HLl
      clear hL4 hbw hbw0 HO4 HG4 HO3 HV3 HW3 HB3 HB3W
      by_cases hok : vlE L4 N = 0
      · have hvE : vlE L4 gs.length = 0 := by rw [HVN.out]; exact hok
        obtain ⟨G, c, hR, hGl, hGm, hc, hmon⟩ := punR_yes hvE
        have HGM := Lib.hid hGm
        have HGL : Hid (G.length = N) := by show G.length = N; rw [hGl]; exact HVN.out
        have HC := Lib.hid hc
        have HMON := Lib.hid hmon
        have hcc : (c != c) = false := by simp
        have HSL := Lib.hid (memS_len HVN.out)
        clear hGl hGm hc hmon hq hY hK
        go_wp2_with (first
          | (go_at_call 20; have hpu := punish_code (w.heap.size + 1) w.heap.size gs v4 L4 w4 HVa.out HLi.out HLo.out; refine hpu.mono ?_; rintro e w6 ⟨rfl, hv6, hg6⟩; rw [hR] at hv6; rw [hR, hvE]; have HV6 := Lib.hid hv6; have HW6 := Lib.hid (HWa.out.off hg6 (HNW.out.off (by omega))); have HL6 := Lib.hid (HLi.out.off hg6 HLo.out); have HB6 := Lib.hid (below_rowS HBa.out hg6 (Nat.le_refl _) HBa.out.size); clear hpu hv6 hg6)
          | (go_at_call 21; refine (rvlist_any v4 L4 N w6 HL6.out (by omega) (by omega)).mono ?_; rintro e w7 ⟨rfl, hb7⟩; rw [hok]; have HV7 := Lib.hid (HV6.out.call hb7); have HW7 := Lib.hid (HW6.out.call hb7); have HL7 := Lib.hid (HL6.out.call hb7); have HB7 := Lib.hid (HB6.out.trans (hb7.mono HB6.out.size)); clear hb7)
          | (go_at_call 22; have hrp := punish_any _ (memS gs) v4 L4 w7 HW7.out HL7.out (by have := HSL.out; omega) (by have := HLl.out; omega); refine hrp.mono ?_; rintro e w8 ⟨v8, rfl, hi8, hc8, hn8, hb8⟩; rw [← HC.out]; rw [← HGM.out] at hi8; have HX8 := Lib.hid hi8; have HN8 := Lib.hid hn8; have HW8 := Lib.hid (HW7.out.call hb8); have HV8 := Lib.hid (HV7.out.call hb8); have HB8 := Lib.hid (HB7.out.trans (hb8.mono HB7.out.size)); have hlt8 := HV7.out.blk.lt; clear hrp hi8 hc8 hn8 hb8)
          | (go_at_call 23; refine (members_ints (w.heap.size + 1) w.heap.size G w8 HV8.out).mono ?_; rintro e w9 ⟨v9, rfl, hi9, hb9⟩; have HI9 := Lib.hid hi9; have HV9 := Lib.hid (HV8.out.call hb9); have HX9 := Lib.hid (HX8.out.call hb9); have HW9 := Lib.hid (HW8.out.call hb9); have HB9 := Lib.hid (HB8.out.trans (hb9.mono HB8.out.size)); clear hi9 hb9)
          | (go_at_call 13; refine (same_yes _ _ (memS G) w9 HI9.out HX9.out).mono ?_; rintro e w10 ⟨rfl, hb10⟩; have HV10 := Lib.hid (HV9.out.call hb10); have HX10 := Lib.hid (HX9.out.call hb10); have HW10 := Lib.hid (HW9.out.call hb10); have HB10 := Lib.hid (HB9.out.trans (hb10.mono HB9.out.size)); clear hb10))
        go_loopw [16] (fun i wy => ∃ y : Int, -1 ≤ y ∧ y ≤ (N : Int) + 1 ∧ i = .int .i64 y ∧ SetI wy (w.heap.size + 1) w.heap.size G ∧ IntsV wy v8 (memS G) ∧ IntsV wy u7 (memS gs) ∧ Below w.heap.size w wy) (fun i _ => ((N : Int) + 1 - intOf i).toNat)
        case atStart => exact ⟨-1, by omega, by omega, rfl, HV10.out, HX10.out, HW10.out, HB10.out⟩
        case round =>
          obtain ⟨y, hy0, hy1, rfl, hvj, hxj, hwj, hbj⟩ := hrel
          have HVJ := Lib.hid hvj
          have HXJ := Lib.hid hxj
          have HWJ := Lib.hid hwj
          have HBJ := Lib.hid hbj
          clear hvj hxj hwj hbj
          by_cases hyN : y ≤ (N : Int)
          case neg =>
            go_wp2_with fail
            go_roundw
            case rel => exact ⟨k + 1, by omega, by go_num, G, HGL.out, HVJ.out, HXJ.out, HN8.out.mono (by omega), HBJ.out⟩
            case measure => simp [intOf]; omega
          have HQ1 := Lib.hid (fun u (hu : SetI u (w.heap.size + 1) w.heap.size G) => guilty_any (w.heap.size + 1) w.heap.size G y u hu (by omega))
          have HQ2 := Lib.hid (fun u (hu : IntsV u v8 (memS G)) => has_mem v8 G y u hu)
          have HQ3 := Lib.hid (fun u (hu : IntsV u u7 (memS gs)) => has_mem u7 gs y u hu)
          have HM := Lib.hid (HMON.out y)
          obtain ⟨q1, hq1⟩ : ∃ q, guiV G y = q := ⟨_, rfl⟩
          obtain ⟨q2, hq2⟩ : ∃ q, guiV gs y = q := ⟨_, rfl⟩
          rw [hq1] at HQ1 HQ2 HM
          rw [hq2] at HQ3
          try rw [hq2] at HM
          have e1 : IntKind.i64.wrap (y + 1) = y + 1 := IntWalk.i64_in _ (by omega)
          cases q1
          · have hq20 : q2 = false := by cases q2; rfl; exact absurd (HM.out rfl) (by simp)
            subst hq20
            clear hq1 hq2
            have tok1 : True := trivial
            have tok2 : True := trivial
            go_wp2_with (first
              | (go_at_call 24; have _t := tok1; refine (HQ1.out _ HVJ.out).mono ?_; rintro e w11 ⟨rfl, rfl⟩; clear tok1)
              | (go_at_call 17; have _t := tok2; refine (HQ2.out _ HXJ.out).mono ?_; rintro e w12 ⟨rfl, hb12⟩; have Hv82 := Lib.hid (HVJ.out.call hb12); have HX12 := Lib.hid (HXJ.out.call hb12); have HW12 := Lib.hid (HWJ.out.call hb12); have HB12 := Lib.hid (HBJ.out.trans (hb12.mono HBJ.out.size)); clear hb12 tok2)
              | (go_at_call 17; have _t := Hv82; refine (HQ3.out _ HW12.out).mono ?_; rintro e w13 ⟨rfl, hb13⟩; have Hv83 := Lib.hid (Hv82.out.call hb13); have HX13 := Lib.hid (HX12.out.call hb13); have HW13 := Lib.hid (HW12.out.call hb13); have HB13 := Lib.hid (HB12.out.trans (hb13.mono HB12.out.size)); clear hb13))
            go_roundw
            case rel => exact ⟨y + 1, by omega, by omega, by go_num, Hv83.out, HX13.out, HW13.out, HB13.out⟩
            case measure => simp [intOf]; omega
          · cases q2
            · clear hq1 hq2
              have tok1 : True := trivial
              have tok2 : True := trivial
              go_wp2_with (first
                | (go_at_call 24; have _t := tok1; refine (HQ1.out _ HVJ.out).mono ?_; rintro e w11 ⟨rfl, rfl⟩; clear tok1)
                | (go_at_call 17; have _t := tok2; refine (HQ2.out _ HXJ.out).mono ?_; rintro e w12 ⟨rfl, hb12⟩; have Hv82 := Lib.hid (HVJ.out.call hb12); have HX12 := Lib.hid (HXJ.out.call hb12); have HW12 := Lib.hid (HWJ.out.call hb12); have HB12 := Lib.hid (HBJ.out.trans (hb12.mono HBJ.out.size)); clear hb12 tok2)
                | (go_at_call 17; have _t := Hv82; refine (HQ3.out _ HW12.out).mono ?_; rintro e w13 ⟨rfl, hb13⟩; have Hv83 := Lib.hid (Hv82.out.call hb13); have HX13 := Lib.hid (HX12.out.call hb13); have HW13 := Lib.hid (HW12.out.call hb13); have HB13 := Lib.hid (HB12.out.trans (hb13.mono HB12.out.size)); clear hb13))
              go_roundw
              case rel => exact ⟨y + 1, by omega, by omega, by go_num, Hv83.out, HX13.out, HW13.out, HB13.out⟩
              case measure => simp [intOf]; omega
            · clear hq1 hq2
              have tok1 : True := trivial
              have tok2 : True := trivial
              go_wp2_with (first
                | (go_at_call 24; have _t := tok1; refine (HQ1.out _ HVJ.out).mono ?_; rintro e w11 ⟨rfl, rfl⟩; clear tok1)
                | (go_at_call 17; have _t := tok2; refine (HQ2.out _ HXJ.out).mono ?_; rintro e w12 ⟨rfl, hb12⟩; have Hv82 := Lib.hid (HVJ.out.call hb12); have HX12 := Lib.hid (HXJ.out.call hb12); have HW12 := Lib.hid (HWJ.out.call hb12); have HB12 := Lib.hid (HBJ.out.trans (hb12.mono HBJ.out.size)); clear hb12 tok2)
                | (go_at_call 17; have _t := Hv82; refine (HQ3.out _ HW12.out).mono ?_; rintro e w13 ⟨rfl, hb13⟩; have Hv83 := Lib.hid (Hv82.out.call hb13); have HX13 := Lib.hid (HX12.out.call hb13); have HW13 := Lib.hid (HW12.out.call hb13); have HB13 := Lib.hid (HB12.out.trans (hb13.mono HB12.out.size)); clear hb13)
                | (go_at_call 24; refine (HQ1.out _ Hv83.out).mono ?_; rintro e w14 ⟨rfl, rfl⟩))
              go_roundw
              case rel => exact ⟨y + 1, by omega, by omega, by go_num, Hv83.out, HX13.out, HW13.out, HB13.out⟩
              case measure => simp [intOf]; omega
      · obtain ⟨er, her⟩ : ∃ er, vlE L4 N = er := ⟨_, rfl⟩
        have hvE : vlE L4 gs.length = er := by rw [HVN.out]; exact her
        have hR : punR gs L4 = (gs, 0) := punR_no (by rw [hvE, ← her]; exact hok)
        have he0 : (er == 0) = false := by simp; rw [← her]; exact hok
        have hee : (er != er) = false := by simp
        have hok := her
        have HMON : Hid (∀ y, guiV gs y = true → guiV gs y = true) := fun _ h => h
        clear her hq hY hK
        obtain ⟨V7, hV7⟩ : ∃ v, u7 = v := ⟨_, rfl⟩
        rw [hV7] at HWa HNW ⊢
        clear hV7
        go_wp2_with (first
          | (go_at_call 20; have hpu := punish_code (w.heap.size + 1) w.heap.size gs v4 L4 w4 HVa.out HLi.out HLo.out; refine hpu.mono ?_; rintro e w6 ⟨rfl, hv6, hg6⟩; rw [hR] at hv6; rw [hR, hvE]; have HV6 := Lib.hid hv6; have HW6 := Lib.hid (HWa.out.off hg6 (HNW.out.off (by omega))); have HL6 := Lib.hid (HLi.out.off hg6 HLo.out); have HB6 := Lib.hid (below_rowS HBa.out hg6 (Nat.le_refl _) HBa.out.size); clear hpu hv6 hg6)
          | (go_at_call 21; refine (rvlist_any v4 L4 N w6 HL6.out (by omega) (by omega)).mono ?_; rintro e w7 ⟨rfl, hb7⟩; rw [hok]; have HV7 := Lib.hid (HV6.out.call hb7); have HW7 := Lib.hid (HW6.out.call hb7); have HB7 := Lib.hid (HB6.out.trans (hb7.mono HB6.out.size)); clear hb7)
          | (go_at_call 23; refine (members_ints (w.heap.size + 1) w.heap.size gs w7 HV7.out).mono ?_; rintro e w9 ⟨v9, rfl, hi9, hb9⟩; have HI9 := Lib.hid hi9; have HV9 := Lib.hid (HV7.out.call hb9); have HW9 := Lib.hid (HW7.out.call hb9); have HB9 := Lib.hid (HB7.out.trans (hb9.mono HB7.out.size)); clear hi9 hb9)
          | (go_at_call 13; refine (same_yes _ _ (memS gs) w9 HI9.out HW9.out).mono ?_; rintro e w10 ⟨rfl, hb10⟩; have HV10 := Lib.hid (HV9.out.call hb10); have HW10 := Lib.hid (HW9.out.call hb10); have HB10 := Lib.hid (HB9.out.trans (hb10.mono HB9.out.size)); clear hb10))
        go_loopw [16] (fun i wy => ∃ y : Int, -1 ≤ y ∧ y ≤ (N : Int) + 1 ∧ i = .int .i64 y ∧ SetI wy (w.heap.size + 1) w.heap.size gs ∧ IntsV wy V7 (memS gs) ∧ IntsV wy V7 (memS gs) ∧ Below w.heap.size w wy) (fun i _ => ((N : Int) + 1 - intOf i).toNat)
        case atStart => exact ⟨-1, by omega, by omega, rfl, HV10.out, HW10.out, HW10.out, HB10.out⟩
        case round =>
          obtain ⟨y, hy0, hy1, rfl, hvj, hxj, hwj, hbj⟩ := hrel
          have HVJ := Lib.hid hvj
          have HXJ := Lib.hid hxj
          have HWJ := Lib.hid hwj
          have HBJ := Lib.hid hbj
          clear hvj hxj hwj hbj
          by_cases hyN : y ≤ (N : Int)
          case neg =>
            go_wp2_with fail
            go_roundw
            case rel => exact ⟨k + 1, by omega, by go_num, gs, HVN.out, HVJ.out, HXJ.out, HNW.out, HBJ.out⟩
            case measure => simp [intOf]; omega
          have HQ1 := Lib.hid (fun u (hu : SetI u (w.heap.size + 1) w.heap.size gs) => guilty_any (w.heap.size + 1) w.heap.size gs y u hu (by omega))
          have HQ2 := Lib.hid (fun u (hu : IntsV u V7 (memS gs)) => has_mem V7 gs y u hu)
          have HQ3 := Lib.hid (fun u (hu : IntsV u V7 (memS gs)) => has_mem V7 gs y u hu)
          have HM := Lib.hid (HMON.out y)
          obtain ⟨q1, hq1⟩ : ∃ q, guiV gs y = q := ⟨_, rfl⟩
          rw [hq1] at HQ1 HQ2 HM
          rw [hq1] at HQ3
          have e1 : IntKind.i64.wrap (y + 1) = y + 1 := IntWalk.i64_in _ (by omega)
          cases q1
          · clear hq1
            have tok1 : True := trivial
            have tok2 : True := trivial
            go_wp2_with (first
              | (go_at_call 24; have _t := tok1; refine (HQ1.out _ HVJ.out).mono ?_; rintro e w11 ⟨rfl, rfl⟩; clear tok1)
              | (go_at_call 17; have _t := tok2; refine (HQ2.out _ HXJ.out).mono ?_; rintro e w12 ⟨rfl, hb12⟩; have HV72 := Lib.hid (HVJ.out.call hb12); have HX12 := Lib.hid (HXJ.out.call hb12); have HW12 := Lib.hid (HWJ.out.call hb12); have HB12 := Lib.hid (HBJ.out.trans (hb12.mono HBJ.out.size)); clear hb12 tok2)
              | (go_at_call 17; have _t := HV72; refine (HQ3.out _ HW12.out).mono ?_; rintro e w13 ⟨rfl, hb13⟩; have HV73 := Lib.hid (HV72.out.call hb13); have HX13 := Lib.hid (HX12.out.call hb13); have HW13 := Lib.hid (HW12.out.call hb13); have HB13 := Lib.hid (HB12.out.trans (hb13.mono HB12.out.size)); clear hb13))
            go_roundw
            case rel => exact ⟨y + 1, by omega, by omega, by go_num, HV73.out, HX13.out, HW13.out, HB13.out⟩
            case measure => simp [intOf]; omega
          · clear hq1
            have tok1 : True := trivial
            have tok2 : True := trivial
            go_wp2_with (first
              | (go_at_call 24; have _t := tok1; refine (HQ1.out _ HVJ.out).mono ?_; rintro e w11 ⟨rfl, rfl⟩; clear tok1)
              | (go_at_call 17; have _t := tok2; refine (HQ2.out _ HXJ.out).mono ?_; rintro e w12 ⟨rfl, hb12⟩; have HV72 := Lib.hid (HVJ.out.call hb12); have HX12 := Lib.hid (HXJ.out.call hb12); have HW12 := Lib.hid (HWJ.out.call hb12); have HB12 := Lib.hid (HBJ.out.trans (hb12.mono HBJ.out.size)); clear hb12 tok2)
              | (go_at_call 17; have _t := HV72; refine (HQ3.out _ HW12.out).mono ?_; rintro e w13 ⟨rfl, hb13⟩; have HV73 := Lib.hid (HV72.out.call hb13); have HX13 := Lib.hid (HX12.out.call hb13); have HW13 := Lib.hid (HW12.out.call hb13); have HB13 := Lib.hid (HB12.out.trans (hb13.mono HB12.out.size)); clear hb13)
              | (go_at_call 24; refine (HQ1.out _ HV73.out).mono ?_; rintro e w14 ⟨rfl, rfl⟩))
            go_roundw
            case rel => exact ⟨y + 1, by omega, by omega, by go_num, HV73.out, HX13.out, HW13.out, HB13.out⟩
            case measure => simp [intOf]; omega
end Go.Proofs.Ytlbhkgmlfapjgaa
