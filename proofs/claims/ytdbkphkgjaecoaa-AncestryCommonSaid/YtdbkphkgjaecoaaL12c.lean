/- AncestryCommon. (Written by gen/l12c-gen.py.) -/
import Derived.Test.YtdbkphkgjaecoaaAnF
set_option linter.unusedVariables false

set_option linter.unusedSimpArgs false
namespace Go.Proofs.Ytdbkphkgjaecoaa
open Go.RowKit

set_option maxRecDepth 100000

theorem OwnK.slice {k : IntKind} {e : TypeId} {w : World} {B : Nat} {v : Value} {xs : List Int} (h : OwnK k e w B v xs) (hl : 0 < xs.length) : ∃ g c, v = .slice (some ⟨g, 0, none⟩) xs.length c ∧ B ≤ g := by
  rcases h.2 with ⟨_, h0⟩ | ⟨g, cap, cur, rfl, hb, _⟩
  · omega
  · exact ⟨g, cap, rfl, hb⟩

/-- The list so far. -/
def CoI (w : World) (bt B : Nat) (s : Value) (ns : List NdD) (n : Nat) (xv iv : Value) (wr : World) : Prop :=
  ∃ (k : Nat) (xs : List Int), k ≤ n ∧ iv = .int .i64 k ∧ xs.length = k ∧ (∀ x ∈ xs, -2 ≤ x ∧ x ≤ 65535) ∧ OwnK .i64 3 wr B xv xs ∧ AnS w bt s ns wr

theorem CoI.ints {xs : List Int} {wr : World} {B : Nat} {v : Value} (h : OwnK .i64 3 wr B v xs) (hl : xs.length ≤ 10) (hr : ∀ x ∈ xs, -2 ≤ x ∧ x ≤ 65535) : IntsV wr v xs :=
  ⟨h.ints (by unfold maxLen; omega), fun x hx => by have := hr x hx; omega⟩

set_option maxHeartbeats 32000000 in
theorem walk_AncestryCommon (a0 : Option Addr) (len0 cap0 : Nat) (z0 : List Int) (a1 : Option Addr) (len1 cap1 : Nat) (z1 : List Int) (w : World) (w0 : IsRow .i64 w a0 len0 cap0 z0) (w1 : IsRow .i64 w a1 len1 cap1 z1) :
    Calls Try.prog 5 #[.slice a0 len0 cap0, .slice a1 len1 cap1] w fun e w' => e = .returned (.bool true) ∧ Below w.heap.size w w' := by
  have HTR := Lib.hid (fun u (hu : Below w.heap.size w u) => tree_any (.slice a0 len0 cap0) _ u ((rowInts w0).below hu))
  have HAW := Lib.hid awake12_any
  have hi1 : (Try.prog.info? 25).map (·.size) = some 1 := by kernel_rfl
  obtain ⟨hz1, hst1⟩ := zero_array (P := Try.prog) (t := 25) (n := 1) #[.slice none 0 0] (by kernel_rfl) rfl (by kernel_rfl)
  have HPK := Lib.hid (rowInts w1)
  clear w0 hst1 w1
  go_enter Try.func5, Try.ntmps5
  go_upto_region 2 with (first
    | (go_at_call 9; refine (HTR.out _ (Below.refl _ _)).mono ?_; rintro e w1 ⟨v1, ns, rfl, hn1, hc1, hok, hl9, hb1⟩; obtain ⟨va, vc, rfl, _⟩ := hn1.shape; have HN1 := Lib.hid hn1; have HOK := Lib.hid hok; have HL9 := Lib.hid hl9; have HB1 := Lib.hid hb1; clear hn1 hc1 hok hl9 hb1)
    | ((with_reducible refine at_store (.tmp 5) ?_); refine wpList_store_blk rfl 25 (.tmp 5) _ rfl w1.heap.size #[.slice va ns.length vc] rfl rfl #[.slice none 0 0] (Blk.new rfl) rfl hi1 (by simp [Value.oneCell']) ?_; intro w2 U2 B2; have hb2 := U2.below ((Below.refl w1.heap.size w1).alloc (Nat.le_refl _) (.cells #[.slice none 0 0] 25)) (Nat.le_refl _); have S2 : Hid (AnS w w1.heap.size (.slice va ns.length vc) ns w2) := ⟨B2, HN1.out.call hb2, HB1.out.trans (hb2.mono HB1.out.size)⟩; clear U2 B2 hb2))
  obtain ⟨bt, hbt⟩ : ∃ x, w1.heap.size = x := ⟨_, rfl⟩
  rw [hbt] at S2 ⊢
  have hnl : ns.length ≤ 100000 := by have := HL9.out; omega
  have HNL := Lib.hid hnl
  have HMP : Hid (0 < ns.length) := HOK.out.pos
  have HOFF : Hid (∀ g, bt + 1 ≤ g → Off g (.slice va ns.length vc)) := fun g hg => HN1.out.off (by rw [hbt]; omega)
  have HWB : Hid (w.heap.size ≤ bt + 1) := by have := HB1.out.size; show _ ≤ _; omega
  have HCO := Lib.hid (fun (l : List Int) (lv : Value) u (hu : AnS w bt (.slice va ns.length vc) ns u) (hl : IntsV u lv l) => anco_any ns HOK.out l (.slice va ns.length vc) lv u hu.n hl)
  have HRCO := Lib.hid (fun (l : List Int) (lv : Value) u (hu : AnS w bt (.slice va ns.length vc) ns u) (hl : IntsV u lv l) => common_any ns HOK.out HNL.out l (.slice va ns.length vc) lv u hu.n hl)
  obtain ⟨m, hm⟩ : ∃ m, Hid (ns.length = m) := ⟨_, Lib.hid rfl⟩
  rw [hm.out] at HOFF S2 HL9 HMP HCO HRCO ⊢
  have hm9 : m ≤ 9 := HL9.out
  have hm1 : 0 < m := HMP.out
  clear hbt HN1 HB1 hnl
  (try simp only [Act.put])
  have hlen1 := HPK.out.len.1
  have HLN1 := Lib.hid hlen1
  have HII := Lib.hid info_int
  have HP1 : Hid (len1 ≤ maxLen) := by have := HPK.out.len; show _ ≤ _; omega
  have hpx := HP1.out
  unfold maxLen at hpx
  obtain ⟨zl, hzl⟩ : ∃ z, z1.take len1 = z := ⟨_, rfl⟩
  rw [hzl] at HPK HLN1
  clear hlen1 hzl
  by_cases hbig : 10 < len1
  · have hbig' : (10 : Int) < (len1 : Int) := by omega
    go_wp2_with (first
      | (go_at_call 19; refine (HAW.out _).mono ?_; rintro e w9 ⟨rfl, hb⟩; have S9 := Lib.hid (S2.out.call hb); clear hb))
    go_ret
    exact ⟨rfl, S9.out.b⟩
  have hbig' : ((10 : Int) < (len1 : Int)) = False := eq_false (by omega)
  have hl10 : len1 ≤ 10 := by omega
  clear hbig
  go_wp2_with fail
  go_loopw [6, 7] (fun xv iv wr => CoI w bt (bt + 1) (.slice va m vc) ns len1 xv iv wr) (fun _ iv _ => len1 - (intOf iv).toNat)
  case atStart => exact ⟨0, [], by omega, rfl, rfl, by simp, OwnK.nil _ _ _ _, S2.out⟩
  case round =>
    obtain ⟨k, xs, hk, rfl, hxl, hxr, hown, hs⟩ := hrel
    have S3 := Lib.hid hs
    have HOW := Lib.hid hown
    have HXR := Lib.hid hxr
    have HXL := Lib.hid hxl
    clear hs hown hxr hxl
    by_cases hlt : k < len1
    case neg =>
      obtain rfl : k = len1 := by omega
      have HI := Lib.hid (CoI.ints HOW.out (by rw [HXL.out]; exact hl10) HXR.out)
      obtain ⟨xa, xc, rfl, _⟩ := HOW.out.cap
      obtain ⟨c, hc⟩ : ∃ c, comN ns xs = c := ⟨_, rfl⟩
      have H1 := Lib.hid (fun lv u hu hl => HCO.out xs lv u hu hl)
      have H2 := Lib.hid (fun lv u hu hl => HRCO.out xs lv u hu hl)
      rw [hc] at H1 H2
      have hcc : (c == c) = true := by simp
      clear hc hlt
      go_upto_region 12 with fail
      refine wp_region_fam2 (by kernel_rfl) (by kernel_rfl) ?_
      intro T F hT hF hG
      have c0 : ∀ t, (F t).cell? ⟨bt, 0, none⟩ = some (.slice va m vc) := fun t => (S3.out.call (hF t)).t.cell 0
      have CT := Lib.hid (show ∀ u, (∃ t, u = F t) → Blk u bt #[.slice va m vc] by rintro _ ⟨t, rfl⟩; exact (S3.out.call (hF t)).t)
      have CX : Hid (∀ t, IntsV (F t) (.slice xa xs.length xc) xs) := fun t => HI.out.below (hF t)
      repeat (first
        | ((with_reducible refine at_qload (.tmp 5) ?_); refine wpQuiet_load 25 _ rfl bt rfl #[.slice va m vc] CT.out Try.underlying25 rfl hi1 (by kernel_rfl) ?_; simp only [Act.put, List.setIfInBounds_toArray, List.set_cons_succ, List.set_cons_zero])
        | (go_big_quiet_step ((first | (go_at_call 22; exact fam_call hF hG (Nat.le_refl _) (H1.out _ (F _) (S3.out.call (hF _)) (CX.out _))) | (go_at_call 23; exact fam_call hF hG (Nat.le_refl _) (H2.out _ (F _) (S3.out.call (hF _)) (CX.out _))) | (go_at_call 19; exact fam_call hF hG (Nat.le_refl _) (HAW.out (F _)))))))
      refine wpQuiet_nil ?_
      rintro _ ⟨t, rfl⟩
      have S4 := Lib.hid (S3.out.call (hF t))
      obtain ⟨uS4, hu⟩ : ∃ z, F t = z := ⟨_, rfl⟩
      rw [hu] at S4 ⊢
      clear c0 CT hG hu hF hT CX
      clear t F T
      go_wp2_with fail
      go_ret
      exact ⟨rfl, S4.out.b⟩
    have hlt' : (k : Int) < len1 := by omega
    obtain ⟨pb, po, rfl, hpb, hce⟩ := HPK.out.at (k := k) (by rw [HLN1.out]; exact hlt)
    have HCE := Lib.hid ((S3.out.b.cell (p := ⟨pb, po + k, none⟩) hpb).trans hce)
    obtain ⟨y, hy⟩ : ∃ y, zl.getD k 0 = y := ⟨_, rfl⟩
    rw [hy] at HCE
    obtain ⟨K, hK16, hK⟩ := i64_and16_nat y
    obtain ⟨r, hr⟩ : ∃ r, K % m = r := ⟨_, rfl⟩
    have hrr : Int.tmod (K : Int) (m : Int) = (r : Int) := by rw [tmod_nat, hr]
    have hrm : r < m := by rw [← hr]; exact Nat.mod_lt _ hm1
    have hm0 : ((m : Int) == 0) = false := by simp; omega
    have hm0' : ¬ (m : Int) = 0 := by omega
    obtain ⟨E, hE31, hE⟩ := i64_and31_nat ((K : Int) / 256)
    obtain ⟨D, hD31, hD⟩ := i64_and31_nat ((K : Int) / 16)
    have HXK : Hid (xs.length ≤ 10) := by show _ ≤ _; rw [HXL.out]; omega
    have HX1 : Hid (∀ x ∈ xs ++ [(r : Int)], -2 ≤ x ∧ x ≤ 65535) := fun x hx => by
      rcases List.mem_append.1 hx with h | h
      · exact HXR.out x h
      · rw [List.mem_singleton.1 h]; omega
    have HXS : Hid (∀ x ∈ (xs ++ [(r : Int)]).set k ((D : Int) - 2), -2 ≤ x ∧ x ≤ 65535) := fun x hx => by
      rcases List.mem_or_eq_of_mem_set hx with h | h
      · exact HX1.out x h
      · rw [h]; omega
    have HL1 : Hid ((xs ++ [(r : Int)]).length = k + 1) := by show _ = _; rw [List.length_append, HXL.out]; rfl
    clear hy hr hce
    by_cases hE1 : E = 31
    · subst hE1
      have HWR : Hid (bt + 1 ≤ wr.heap.size) := S3.out.t.lt
      go_wp2_with (first
        | ((with_reducible refine at_load (.tmp 23) ?_); refine wpList_load_1 3 (.tmp 23) rfl pb (po + k) (.int .i64 y) HCE.out rfl _ Try.underlying3 rfl rfl ?_)
        | ((with_reducible refine at_load (.tmp 28) ?_); refine wpList_load_1 23 (.tmp 28) rfl bt 0 (.slice va m vc) (S3.out.t.cell 0) rfl _ Try.underlying23 rfl rfl ?_)
        | ((with_reducible refine at_app (.tmp 26) (.tmp 32) ?_); refine wpList_app1 HII.out (by omega) Try.underlying22 (.tmp 26) (.tmp 32) rfl rfl (bt + 1) _ _ rfl (HOW.out.grown (World.grownBy_alloc _ (.cells #[.int .i64 (r : Int)] 3) none) (fun n _ => by simp)) wr.heap.size 1 (r : Int) rfl ((Blk.new rfl).cell 0) (by have := HXK.out; omega) (by have := HWR.out; simp; omega) ?_; intro v4 w4 h4 g4 o4; have HO4 := Lib.hid h4; have S4 := Lib.hid ((S3.out.call ((Below.refl wr.heap.size wr).alloc (Nat.le_refl _) (.cells #[.int .i64 (r : Int)] 3))).grown g4 (fun j hj => (HOW.out.lt j hj).1) (Nat.lt_succ_self bt) HWB.out HOFF.out); obtain ⟨b4, c4, rfl, hg4⟩ := h4.slice (by rw [HL1.out]; omega); have HO5 := Lib.hid h4; have HG4 := Lib.hid hg4; (try rw [HL1.out]); clear hg4; clear h4 g4 o4)
        | ((with_reducible refine at_store (.tmp 44) ?_); refine wpList_store_own rfl 3 (.tmp 44) _ rfl .i64 3 (bt + 1) b4 c4 k (xs ++ [(r : Int)]) ((D : Int) - 2) HO5.out (by rw [HL1.out]; omega) rfl rfl rfl ?_; intro w5 g5 h5; have HO6 := Lib.hid h5; have S5 := Lib.hid (S4.out.grown g5 (fun j hj => by cases hj; exact HG4.out) (Nat.lt_succ_self bt) HWB.out HOFF.out); clear g5 h5))
      go_roundw
      case rel => exact ⟨k + 1, _, by omega, by go_num, by rw [List.length_set]; exact HL1.out, HXS.out, by have h := HO6.out; rw [List.length_set, HL1.out] at h; exact h, S5.out⟩
      case measure => simp [intOf]; omega
    · have hE2 : ((E : Int) == 31) = false := by simp; omega
      clear hE1
      have HWR : Hid (bt + 1 ≤ wr.heap.size) := S3.out.t.lt
      go_wp2_with (first
        | ((with_reducible refine at_load (.tmp 23) ?_); refine wpList_load_1 3 (.tmp 23) rfl pb (po + k) (.int .i64 y) HCE.out rfl _ Try.underlying3 rfl rfl ?_)
        | ((with_reducible refine at_load (.tmp 28) ?_); refine wpList_load_1 23 (.tmp 28) rfl bt 0 (.slice va m vc) (S3.out.t.cell 0) rfl _ Try.underlying23 rfl rfl ?_)
        | ((with_reducible refine at_app (.tmp 26) (.tmp 32) ?_); refine wpList_app1 HII.out (by omega) Try.underlying22 (.tmp 26) (.tmp 32) rfl rfl (bt + 1) _ _ rfl (HOW.out.grown (World.grownBy_alloc _ (.cells #[.int .i64 (r : Int)] 3) none) (fun n _ => by simp)) wr.heap.size 1 (r : Int) rfl ((Blk.new rfl).cell 0) (by have := HXK.out; omega) (by have := HWR.out; simp; omega) ?_; intro v4 w4 h4 g4 o4; have HO4 := Lib.hid h4; have S4 := Lib.hid ((S3.out.call ((Below.refl wr.heap.size wr).alloc (Nat.le_refl _) (.cells #[.int .i64 (r : Int)] 3))).grown g4 (fun j hj => (HOW.out.lt j hj).1) (Nat.lt_succ_self bt) HWB.out HOFF.out); clear h4 g4 o4))
      go_roundw
      case rel => exact ⟨k + 1, _, by omega, by go_num, HL1.out, HX1.out, HO4.out, S4.out⟩
      case measure => simp [intOf]; omega
end Go.Proofs.Ytdbkphkgjaecoaa
