/- EquivocationBuilt. -/
import Derived.Test.YtlbhkgmlfapjgaaL9e
set_option linter.unusedVariables false

set_option linter.unusedSimpArgs false
namespace Go.Proofs.Ytlbhkgmlfapjgaa
open Go.RowKit

set_option maxRecDepth 100000

theorem vsE_zero {x y : ClD} {l m : List Int} {n : Int} (h : vsE x y l m n = 0) : culI l m ≠ [] := by
  intro hc
  unfold vsE at h
  split at h
  · rename_i h1; exact h1 h
  split at h
  · rename_i h1; exact h1 h
  split at h
  · cases h
  split at h
  · cases h
  · rename_i h1; exact h1 (.inr hc)

theorem has_yes (v : Value) (l : List Int) (c : Int) (w : World) (h : IntsV w v l) (hc : c ∈ l) :
    Calls Try.prog 17 #[v, .int .i64 c] w fun e w' => e = .returned (.bool true) ∧ Below w.heap.size w w' := by
  have := has_any v l c w h
  rw [decide_eq_true hc] at this
  exact this

/-- What the law's loop holds: b: the slashing's block. -/
def BuiI (w w2 : World) (a : Option Addr) (n c : Nat) (C : List Int) (i : Value) (wy : World) : Prop :=
  ∃ k : Nat, k ≤ n ∧ i = .int .i64 k ∧ IntsV wy (.slice a n c) C ∧ Below w2.heap.size w2 wy ∧ Below w.heap.size w wy

set_option maxHeartbeats 16000000 in
theorem walk_EquivocationBuilt (a0 a1 : Int) (w : World) (w0 : (Lit.int .i64 a0).wf = true) (w1 : (Lit.int .i64 a1).wf = true) :
    Calls Try.prog 5 #[.int .i64 a0, .int .i64 a1] w fun e w' => e = .returned (.bool true) ∧ Below w.heap.size w w' := by
  clear w0 w1
  have HA := Lib.hid awake9_any
  obtain ⟨N, hN7, hN⟩ := i64_and7_nat a0
  obtain ⟨M, hM⟩ : ∃ M : Nat, M = N + 1 := ⟨_, rfl⟩
  have e1 : IntKind.i64.wrap (1 + (N : Int)) = (M : Int) := by rw [IntWalk.i64_in _ (by omega)]; omega
  have hM8 : M ≤ 8 := by omega
  have HSA := Lib.hid (fun k u => slashing_any M k u (by omega))
  obtain ⟨K, hK⟩ : ∃ K, bits .and .i64 a1 16777215 = K := ⟨_, rfl⟩
  obtain ⟨Z, hZ⟩ : ∃ Z, flatP [zeClP.flatten, zeClP.flatten] = Z := ⟨_, rfl⟩
  have hszZ : Z.size = 70 := by rw [← hZ]; rfl
  obtain ⟨hz70, hst⟩ := zero_array (P := Try.prog) (t := 31) (n := 70) Z (by rw [← hZ]; kernel_rfl) hszZ (by rw [← hZ]; kernel_rfl)
  clear hst hZ hM
  have h70 : (Try.prog.info? 31).map (·.size) = some 70 := by kernel_rfl
  go_enter Try.func5, Try.ntmps5
  go_wp2_with (first
    | (go_at_call 16; refine (HSA.out _ _).mono ?_; rintro e w1 ⟨v, rfl, hs, hb1⟩; obtain ⟨x, y, l, m, rfl, hx, hy, h1, h2, hl, hm⟩ := hs; obtain ⟨XL, hXL⟩ : ∃ XL, [x.cells, y.cells].flatten = XL := ⟨_, rfl⟩; have hX : flatP [x.cells, y.cells] = XL.toArray := (by rw [← hXL]; rfl); have HX := Lib.hid hX; have HSZ : Hid (XL.toArray.size = 70) := (by show _ = 70; rw [← hX]; exact fmt_sl hx hy); have HON : Hid (∀ v ∈ XL.toArray, v.oneCell' = true) := (by show ∀ v ∈ XL.toArray, _; rw [← hX]; exact fun v hv => flatP_one (ps := [x.cells, y.cells]) (by intro p hp; rcases List.mem_cons.1 hp with rfl | hp; exact ClD.one (one_sl h1).2; rw [List.mem_singleton.1 hp]; exact ClD.one (one_sl h2).2) v hv); have HXO := Lib.hid hx; have HYO := Lib.hid hy; have H1 := Lib.hid h1; have H2 := Lib.hid h2; have HL := Lib.hid hl; have HM := Lib.hid hm; have HB1 := Lib.hid hb1; rw [hX]; clear hX hXL hx hy h1 h2 hl hm hb1)
    | ((with_reducible refine at_store (.tmp 5) ?_); refine wpList_store_blk rfl 31 (.tmp 5) _ rfl w1.heap.size XL.toArray rfl rfl Z (Blk.new rfl) (by rw [hszZ]; exact HSZ.out.symm) (by rw [HSZ.out]; exact h70) HON.out ?_; intro w2 U B; have hb2 := U.below ((Below.refl w1.heap.size w1).alloc (Nat.le_refl _) (.cells Z 31)) (Nat.le_refl _); have HK2 := Lib.hid B; have HB2 := Lib.hid (HB1.out.trans (hb2.mono HB1.out.size)); have HI1 := Lib.hid (H1.out.below hb2); have HI2 := Lib.hid (H2.out.below hb2); have hlt2 := B.lt; clear U B hb2)
    | ((with_reducible refine at_load (.tmp 5) ?_); refine wpList_load_g 31 (.tmp 5) rfl w1.heap.size rfl XL.toArray _ HK4.out Try.underlying31 rfl (by rw [HSZ.out]; exact h70) rfl ?_)
    | ((with_reducible refine at_load (.tmp 5) ?_); refine wpList_load_g 31 (.tmp 5) rfl w1.heap.size rfl XL.toArray _ HK3.out Try.underlying31 rfl (by rw [HSZ.out]; exact h70) rfl ?_)
    | ((with_reducible refine at_load (.tmp 5) ?_); refine wpList_load_g 31 (.tmp 5) rfl w1.heap.size rfl XL.toArray _ HK2.out Try.underlying31 rfl (by rw [HSZ.out]; exact h70) rfl ?_)
    | (go_at_call 11; have hv := val_any x y l m M w2 HXO.out HYO.out HI1.out HI2.out (by have := HL.out; omega) (by have := HM.out; omega) (by omega); rw [HX.out] at hv; refine hv.mono ?_; rintro e w3 ⟨rfl, hb3⟩; clear hv; have HK3 := Lib.hid (HK2.out.call hb3); have HC3 := Lib.hid hb3; have HB3 := Lib.hid (HB2.out.trans (hb3.mono HB2.out.size)); clear hb3)
    | (go_at_call 14; have hv := cul_code_ints x y l m w3 HXO.out HYO.out (HI1.out.below HC3.out) (HI2.out.below HC3.out) (by have := HL.out; omega) (by have := HM.out; omega); rw [HX.out] at hv; refine hv.mono ?_; rintro e w4 ⟨ea, en, ec, rfl, hi4, hb4⟩; clear hv; have HI4 := Lib.hid hi4; have HK4 := Lib.hid (HK3.out.call hb4); have HC4 := Lib.hid (HC3.out.trans (hb4.mono HC3.out.size)); have HB4 := Lib.hid (HB3.out.trans (hb4.mono HB3.out.size)); clear hi4 hb4)
    | fail)
  obtain ⟨E, hE⟩ : ∃ E, vsE x y l m M = E := ⟨_, rfl⟩
  have HE := Lib.hid hE
  have HZE : Hid (E = 0 → culI l m ≠ []) := fun h => vsE_zero (hE.trans h)
  obtain ⟨C, hC⟩ : ∃ C, culI l m = C := ⟨_, rfl⟩
  have HCU := Lib.hid hC
  have HCM : Hid (∀ c ∈ C, c ∈ l ∧ c ∈ m) := by show ∀ c ∈ C, _; rw [← hC]; exact fun c hc => culI_mem.1 hc
  rw [hE]
  rw [hC] at HZE HI4
  have HPV : Hid (∀ u, Blk u w1.heap.size XL.toArray → u.cell? ⟨w1.heap.size, 34, none⟩ = some x.v ∧ u.cell? ⟨w1.heap.size, 69, none⟩ = some y.v) := fun u hu => by
    rw [← HX.out] at hu
    obtain ⟨h1, h2⟩ := sl_at hu HXO.out
    have e1 := (cl_at h1 HXO.out).2.2.2
    have e2 := (cl_at h2 HYO.out).2.2.2
    rw [Nat.zero_add] at e1
    exact ⟨e1, e2⟩
  have HCL := Lib.hid HI4.out.len.1
  have hen := HI4.out.len.2
  unfold maxLen at hen
  obtain ⟨a1', n1, c1, hv1⟩ := ints_shape' HI1.out.1
  obtain ⟨a2', n2, c2, hv2⟩ := ints_shape' HI2.out.1
  rw [hv1, hv2] at HPV
  rw [hv1] at HI1
  rw [hv2] at HI2
  have HV1 := Lib.hid hv1
  have HV2 := Lib.hid hv2
  clear hE hC hv1 hv2 H1 H2
  have hEE : (E != E) = false := by simp
  by_cases hE0 : E = 0
  case neg =>
    have hE1 : (E == 0) = false := by simpa using hE0
    clear hE0
    go_wp2_with (first
      | ((with_reducible refine at_load (.tmp 5) ?_); refine wpList_load_g 31 (.tmp 5) rfl w1.heap.size rfl XL.toArray _ HK5.out Try.underlying31 rfl (by rw [HSZ.out]; exact h70) rfl ?_)
      | ((with_reducible refine at_load (.tmp 5) ?_); refine wpList_load_g 31 (.tmp 5) rfl w1.heap.size rfl XL.toArray _ HK4.out Try.underlying31 rfl (by rw [HSZ.out]; exact h70) rfl ?_)
      | (go_at_call 12; have hv := vslash_any x y l m M w4 HXO.out HYO.out (by rw [HV1.out]; exact HI1.out.below HC4.out) (by rw [HV2.out]; exact HI2.out.below HC4.out) (by have := HL.out; omega) (by omega); rw [HX.out, HE.out] at hv; refine hv.mono ?_; rintro e w5 ⟨rfl, hb5⟩; clear hv; have HI5 := Lib.hid (HI4.out.below hb5); have HK5 := Lib.hid (HK4.out.call hb5); have HC5 := Lib.hid (HC4.out.trans (hb5.mono HC4.out.size)); have HB5 := Lib.hid (HB4.out.trans (hb5.mono HB4.out.size)); clear hb5)
      | (go_at_call 15; have hv := cul_ref_ints x y l m w5 HXO.out HYO.out (by rw [HV1.out]; exact HI1.out.below HC5.out) (by rw [HV2.out]; exact HI2.out.below HC5.out) (by have := HL.out; omega); rw [HX.out, HCU.out] at hv; refine hv.mono ?_; rintro e w6 ⟨ra, rn, rc, rfl, hi6, hb6⟩; clear hv; have HJ6 := Lib.hid hi6; have HI6 := Lib.hid (HI5.out.below hb6); have HC6 := Lib.hid (HC5.out.trans (hb6.mono HC5.out.size)); have HB6 := Lib.hid (HB5.out.trans (hb6.mono HB5.out.size)); clear hi6 hb6)
      | (go_at_call 13; refine (same_yes _ _ C w6 HI6.out HJ6.out).mono ?_; rintro e w7 ⟨rfl, hb7⟩; have HI7 := Lib.hid (HI6.out.below hb7); have HC7 := Lib.hid (HC6.out.trans (hb7.mono HC6.out.size)); have HB7 := Lib.hid (HB6.out.trans (hb7.mono HB6.out.size)); clear hb7)
      | fail)
    go_loopw [8] (fun i wy => BuiI w w2 ea en ec C i wy) (fun i _ => en - (intOf i).toNat)
    case atStart => exact ⟨0, Nat.zero_le _, rfl, HI7.out, HC7.out, HB7.out⟩
    case round =>
      obtain ⟨k, hk, rfl, hi, hc, hb⟩ := hrel
      have HI := Lib.hid hi
      have HC := Lib.hid hc
      have HB := Lib.hid hb
      clear hi hc hb
      by_cases hlt : k < en
      case neg =>
        obtain rfl : k = en := by omega
        go_wp2_with (go_at_call 10; refine (HA.out _).mono ?_; rintro e w9 ⟨rfl, hb9⟩; have HB9 := Lib.hid (HB.out.trans (hb9.mono HB.out.size)); clear hb9)
        go_ret
        exact ⟨rfl, HB9.out⟩
      have hlt' : (k : Int) < en := by omega
      have hkC : k < C.length := by rw [HCL.out]; exact hlt
      obtain ⟨g, off, rfl, hg, hce⟩ := HI.out.at hkC
      have hmem := getD_mem (l := C) (k := k) hkC
      obtain ⟨c, hcc⟩ : ∃ c, C.getD k 0 = c := ⟨_, rfl⟩
      rw [hcc] at hce hmem
      have HM1 := Lib.hid ((HCM.out c hmem).1)
      have HM2 := Lib.hid ((HCM.out c hmem).2)
      have HKY := Lib.hid (HK2.out.call HC.out)
      have s0 : wr.cell? ⟨w1.heap.size, 34, none⟩ = some (.slice a1' n1 c1) := (HPV.out _ HKY.out).1
      have s1 : wr.cell? ⟨w1.heap.size, 69, none⟩ = some (.slice a2' n2 c2) := (HPV.out _ HKY.out).2
      have s2 : wr.cell? ⟨g, off + k, none⟩ = some (.int .i64 c) := hce
      have HH1 := Lib.hid (fun u (hu : Below w2.heap.size w2 u) => has_yes _ l c u (HI1.out.below hu) HM1.out)
      have HH2 := Lib.hid (fun u (hu : Below w2.heap.size w2 u) => has_yes _ m c u (HI2.out.below hu) HM2.out)
      have HCD := Lib.hid HC.out.drew
      have HBD := Lib.hid HB.out.drew
      have HID : Hid (IntsV wr.drew (.slice (some ⟨g, off, none⟩) en ec) C) := HI.out.below (Below.refl wr.heap.size wr).drew
      have HG := Lib.hid hg
      clear hkC hcc hmem HM1 HM2 HKY
      have tok1 : True := trivial
      have tok2 : True := trivial
      go_wp2_with fail
      go_region_held3 (fun u => u.cell? ⟨w1.heap.size, 34, none⟩ = some (.slice a1' n1 c1) ∧ u.cell? ⟨w1.heap.size, 69, none⟩ = some (.slice a2' n2 c2) ∧ u.cell? ⟨g, off + k, none⟩ = some (.int .i64 c))
        (first | assumption | (refine ⟨?_, ?_, ?_⟩ <;> assumption))
        ((first
          | (go_at_call 17; have _t := tok1; refine (HH1.out _ HCD.out).mono ?_; rintro e w8 ⟨rfl, hb8⟩
             have HC8 := Lib.hid (HCD.out.trans (hb8.mono HCD.out.size))
             have HB8 := Lib.hid (HBD.out.trans (hb8.mono HBD.out.size))
             have HI8 := Lib.hid (HID.out.below hb8)
             have t0 : w8.cell? ⟨w1.heap.size, 34, none⟩ = some (.slice a1' n1 c1) := (HPV.out _ (HK2.out.call HC8.out)).1
             have t1 : w8.cell? ⟨w1.heap.size, 69, none⟩ = some (.slice a2' n2 c2) := (HPV.out _ (HK2.out.call HC8.out)).2
             have t2 : w8.cell? ⟨g, off + k, none⟩ = some (.int .i64 c) := (hb8.cell (p := ⟨g, off + k, none⟩) HG.out).trans s2
             have HG8 := Lib.hid (Nat.lt_of_lt_of_le HG.out hb8.size)
             clear hb8 tok1)
          | (go_at_call 17; have _t := tok2; refine (HH2.out _ HC8.out).mono ?_; rintro e w9 ⟨rfl, hb9⟩
             have HC9 := Lib.hid (HC8.out.trans (hb9.mono HC8.out.size))
             have HB9 := Lib.hid (HB8.out.trans (hb9.mono HB8.out.size))
             have HI9 := Lib.hid (HI8.out.below hb9)
             have r0 : w9.cell? ⟨w1.heap.size, 34, none⟩ = some (.slice a1' n1 c1) := (HPV.out _ (HK2.out.call HC9.out)).1
             have r1 : w9.cell? ⟨w1.heap.size, 69, none⟩ = some (.slice a2' n2 c2) := (HPV.out _ (HK2.out.call HC9.out)).2
             have r2 : w9.cell? ⟨g, off + k, none⟩ = some (.int .i64 c) := (hb9.cell (p := ⟨g, off + k, none⟩) HG8.out).trans t2
             clear hb9 tok2)))
      go_wp2_with fail
      go_roundw
      case rel => exact ⟨k + 1, by omega, by go_num, HI9.out, HC9.out, HB9.out⟩
      case measure => simp [intOf]; omega
  have HNE : Hid (en ≠ 0) := fun h => HZE.out hE0 (List.eq_nil_of_length_eq_zero (by rw [HCL.out]; exact h))
  have hn0 : ((en : Int) == 0) = false := by simp; exact HNE.out
  subst hE0
  go_wp2_with (first
    | ((with_reducible refine at_load (.tmp 5) ?_); refine wpList_load_g 31 (.tmp 5) rfl w1.heap.size rfl XL.toArray _ HK5.out Try.underlying31 rfl (by rw [HSZ.out]; exact h70) rfl ?_)
    | ((with_reducible refine at_load (.tmp 5) ?_); refine wpList_load_g 31 (.tmp 5) rfl w1.heap.size rfl XL.toArray _ HK4.out Try.underlying31 rfl (by rw [HSZ.out]; exact h70) rfl ?_)
    | (go_at_call 12; have hv := vslash_any x y l m M w4 HXO.out HYO.out (by rw [HV1.out]; exact HI1.out.below HC4.out) (by rw [HV2.out]; exact HI2.out.below HC4.out) (by have := HL.out; omega) (by omega); rw [HX.out, HE.out] at hv; refine hv.mono ?_; rintro e w5 ⟨rfl, hb5⟩; clear hv; have HI5 := Lib.hid (HI4.out.below hb5); have HK5 := Lib.hid (HK4.out.call hb5); have HC5 := Lib.hid (HC4.out.trans (hb5.mono HC4.out.size)); have HB5 := Lib.hid (HB4.out.trans (hb5.mono HB4.out.size)); clear hb5)
    | (go_at_call 15; have hv := cul_ref_ints x y l m w5 HXO.out HYO.out (by rw [HV1.out]; exact HI1.out.below HC5.out) (by rw [HV2.out]; exact HI2.out.below HC5.out) (by have := HL.out; omega); rw [HX.out, HCU.out] at hv; refine hv.mono ?_; rintro e w6 ⟨ra, rn, rc, rfl, hi6, hb6⟩; clear hv; have HJ6 := Lib.hid hi6; have HI6 := Lib.hid (HI5.out.below hb6); have HC6 := Lib.hid (HC5.out.trans (hb6.mono HC5.out.size)); have HB6 := Lib.hid (HB5.out.trans (hb6.mono HB5.out.size)); clear hi6 hb6)
    | (go_at_call 13; refine (same_yes _ _ C w6 HI6.out HJ6.out).mono ?_; rintro e w7 ⟨rfl, hb7⟩; have HI7 := Lib.hid (HI6.out.below hb7); have HC7 := Lib.hid (HC6.out.trans (hb7.mono HC6.out.size)); have HB7 := Lib.hid (HB6.out.trans (hb7.mono HB6.out.size)); clear hb7)
    | fail)
  go_loopw [8] (fun i wy => BuiI w w2 ea en ec C i wy) (fun i _ => en - (intOf i).toNat)
  case atStart => exact ⟨0, Nat.zero_le _, rfl, HI7.out, HC7.out, HB7.out⟩
  case round =>
    obtain ⟨k, hk, rfl, hi, hc, hb⟩ := hrel
    have HI := Lib.hid hi
    have HC := Lib.hid hc
    have HB := Lib.hid hb
    clear hi hc hb
    by_cases hlt : k < en
    case neg =>
      obtain rfl : k = en := by omega
      go_wp2_with (go_at_call 10; refine (HA.out _).mono ?_; rintro e w9 ⟨rfl, hb9⟩; have HB9 := Lib.hid (HB.out.trans (hb9.mono HB.out.size)); clear hb9)
      go_ret
      exact ⟨rfl, HB9.out⟩
    have hlt' : (k : Int) < en := by omega
    have hkC : k < C.length := by rw [HCL.out]; exact hlt
    obtain ⟨g, off, rfl, hg, hce⟩ := HI.out.at hkC
    have hmem := getD_mem (l := C) (k := k) hkC
    obtain ⟨c, hcc⟩ : ∃ c, C.getD k 0 = c := ⟨_, rfl⟩
    rw [hcc] at hce hmem
    have HM1 := Lib.hid ((HCM.out c hmem).1)
    have HM2 := Lib.hid ((HCM.out c hmem).2)
    have HKY := Lib.hid (HK2.out.call HC.out)
    have s0 : wr.cell? ⟨w1.heap.size, 34, none⟩ = some (.slice a1' n1 c1) := (HPV.out _ HKY.out).1
    have s1 : wr.cell? ⟨w1.heap.size, 69, none⟩ = some (.slice a2' n2 c2) := (HPV.out _ HKY.out).2
    have s2 : wr.cell? ⟨g, off + k, none⟩ = some (.int .i64 c) := hce
    have HH1 := Lib.hid (fun u (hu : Below w2.heap.size w2 u) => has_yes _ l c u (HI1.out.below hu) HM1.out)
    have HH2 := Lib.hid (fun u (hu : Below w2.heap.size w2 u) => has_yes _ m c u (HI2.out.below hu) HM2.out)
    have HCD := Lib.hid HC.out.drew
    have HBD := Lib.hid HB.out.drew
    have HID : Hid (IntsV wr.drew (.slice (some ⟨g, off, none⟩) en ec) C) := HI.out.below (Below.refl wr.heap.size wr).drew
    have HG := Lib.hid hg
    clear hkC hcc hmem HM1 HM2 HKY
    have tok1 : True := trivial
    have tok2 : True := trivial
    go_wp2_with fail
    go_region_held3 (fun u => u.cell? ⟨w1.heap.size, 34, none⟩ = some (.slice a1' n1 c1) ∧ u.cell? ⟨w1.heap.size, 69, none⟩ = some (.slice a2' n2 c2) ∧ u.cell? ⟨g, off + k, none⟩ = some (.int .i64 c))
      (first | assumption | (refine ⟨?_, ?_, ?_⟩ <;> assumption))
      ((first
        | (go_at_call 17; have _t := tok1; refine (HH1.out _ HCD.out).mono ?_; rintro e w8 ⟨rfl, hb8⟩
           have HC8 := Lib.hid (HCD.out.trans (hb8.mono HCD.out.size))
           have HB8 := Lib.hid (HBD.out.trans (hb8.mono HBD.out.size))
           have HI8 := Lib.hid (HID.out.below hb8)
           have t0 : w8.cell? ⟨w1.heap.size, 34, none⟩ = some (.slice a1' n1 c1) := (HPV.out _ (HK2.out.call HC8.out)).1
           have t1 : w8.cell? ⟨w1.heap.size, 69, none⟩ = some (.slice a2' n2 c2) := (HPV.out _ (HK2.out.call HC8.out)).2
           have t2 : w8.cell? ⟨g, off + k, none⟩ = some (.int .i64 c) := (hb8.cell (p := ⟨g, off + k, none⟩) HG.out).trans s2
           have HG8 := Lib.hid (Nat.lt_of_lt_of_le HG.out hb8.size)
           clear hb8 tok1)
        | (go_at_call 17; have _t := tok2; refine (HH2.out _ HC8.out).mono ?_; rintro e w9 ⟨rfl, hb9⟩
           have HC9 := Lib.hid (HC8.out.trans (hb9.mono HC8.out.size))
           have HB9 := Lib.hid (HB8.out.trans (hb9.mono HB8.out.size))
           have HI9 := Lib.hid (HI8.out.below hb9)
           have r0 : w9.cell? ⟨w1.heap.size, 34, none⟩ = some (.slice a1' n1 c1) := (HPV.out _ (HK2.out.call HC9.out)).1
           have r1 : w9.cell? ⟨w1.heap.size, 69, none⟩ = some (.slice a2' n2 c2) := (HPV.out _ (HK2.out.call HC9.out)).2
           have r2 : w9.cell? ⟨g, off + k, none⟩ = some (.int .i64 c) := (hb9.cell (p := ⟨g, off + k, none⟩) HG8.out).trans t2
           clear hb9 tok2)))
    go_wp2_with fail
    go_roundw
    case rel => exact ⟨k + 1, by omega, by go_num, HI9.out, HC9.out, HB9.out⟩
    case measure => simp [intOf]; omega
end Go.Proofs.Ytlbhkgmlfapjgaa
