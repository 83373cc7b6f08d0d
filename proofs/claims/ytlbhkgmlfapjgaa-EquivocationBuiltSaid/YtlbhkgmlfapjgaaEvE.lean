/- The reference's ValidateSlashing. -/
import Derived.Test.YtlbhkgmlfapjgaaEvD
set_option linter.unusedVariables false

set_option linter.unusedSimpArgs false
namespace Go.Proofs.Ytlbhkgmlfapjgaa
open Go.RowKit

set_option maxRecDepth 100000

/-- The error of a slashing. -/
def vsE (x y : ClD) (l m : List Int) (n : Int) : Int :=
  if vlE l n ≠ 0 then vlE l n else if vlE m n ≠ 0 then vlE m n else if x.target < x.source ∨ y.target < y.source then 2 else if ¬ SlaP x y ∨ culI l m = [] then 20 else 0

theorem beq_len_nil {C : List Int} {n : Nat} (h : C.length = n) (hc : C = []) : ((n : Int) == 0) = true := by subst hc; simp at h; subst h; rfl

theorem beq_len_ne {C : List Int} {n : Nat} (h : C.length = n) (hc : ¬ C = []) : ((n : Int) == 0) = false := by simp; intro h0; exact hc (List.eq_nil_of_length_eq_zero (by omega))

theorem fmt_sl {x y : ClD} (hx : x.ok) (hy : y.ok) : (flatP [x.cells, y.cells]).size = 70 := by rw [flatP_size]; simp [ClD.len hx, ClD.len hy]

set_option maxHeartbeats 8000000 in
theorem vslash_any (x y : ClD) (l m : List Int) (n : Int) (w : World) (hx : x.ok) (hy : y.ok) (h1 : IntsV w x.v l) (h2 : IntsV w y.v m) (hl : l.length ≤ 100000) (hn : -9223372036854775808 ≤ n ∧ n ≤ 9223372036854775807) :
    Calls Try.prog 12 #[.agg (flatP [x.cells, y.cells]), .int .i64 n] w fun e w' => e = .returned (.int .i64 (vsE x y l m n)) ∧ Below w.heap.size w w' := by
  obtain ⟨q, hq⟩ : ∃ q, vsE x y l m n = q := ⟨_, rfl⟩
  rw [hq]
  unfold vsE at hq
  have hsz := fmt_sl hx hy
  have HSLA := Lib.hid (fun u => slashable_any x y u hx hy)
  have HCUL := Lib.hid (fun u (hu : Below w.heap.size w u) => culprits_any x y l m u hx hy (h1.below hu) (h2.below hu) hl)
  obtain ⟨X, hX⟩ : ∃ X, flatP [x.cells, y.cells] = X := ⟨_, rfl⟩
  have HP : Hid (∀ u, Blk u w.heap.size X → u.cell? ⟨w.heap.size, 34, none⟩ = some x.v ∧ u.cell? ⟨w.heap.size, 69, none⟩ = some y.v ∧ u.cell? ⟨w.heap.size, 0, none⟩ = some (.int .u64 x.source) ∧ u.cell? ⟨w.heap.size, 1, none⟩ = some (.int .u64 x.target) ∧ u.cell? ⟨w.heap.size, 35, none⟩ = some (.int .u64 y.source) ∧ u.cell? ⟨w.heap.size, 36, none⟩ = some (.int .u64 y.target) ∧ u.rangeAt w.heap.size 0 x.cells ∧ u.rangeAt w.heap.size 35 y.cells) := fun u hu => by
    rw [← hX] at hu
    obtain ⟨h1, h2⟩ := sl_at hu hx
    obtain ⟨a1, a2, a3, a4⟩ := cl_at h1 hx
    obtain ⟨b1, b2, b3, b4⟩ := cl_at h2 hy
    simp only [Nat.zero_add] at a2 a3 a4
    exact ⟨a4, b4, a1, a2, b1, b2, h1, h2⟩
  rw [hX] at HCUL hsz ⊢
  have hiX : (Try.prog.info? 31).map (·.size) = some X.size := by rw [hsz]; kernel_rfl
  have hi1 : (Try.prog.info? 27).map (·.size) = some x.cells.length := by rw [ClD.len hx]; kernel_rfl
  have hi2 : (Try.prog.info? 27).map (·.size) = some y.cells.length := by rw [ClD.len hy]; kernel_rfl
  have HV1 := Lib.hid (fun u (hu : Below w.heap.size w u) => rvlist_any x.v l n u (h1.below hu) hn.1 hn.2)
  have HV2 := Lib.hid (fun u (hu : Below w.heap.size w u) => rvlist_any y.v m n u (h2.below hu) hn.1 hn.2)
  have HBA := Lib.hid ((Below.refl w.heap.size w).alloc (Nat.le_refl _) (.cells X 31))
  have HK0 : Hid (Blk (w.alloc (.cells X 31)) w.heap.size X) := Blk.new rfl
  obtain ⟨qs, hqs⟩ : ∃ q : Bool, decide (SlaP x y) = q := ⟨_, rfl⟩
  have hqe : (¬ SlaP x y) ↔ qs = false := by rw [← hqs]; simp
  rw [hqs] at HSLA
  simp only [hqe] at hq
  obtain ⟨C, hC⟩ : ∃ C, culI l m = C := ⟨_, rfl⟩
  rw [hC] at HCUL hq
  obtain ⟨C1, h⟩ : ∃ z, x.cells = z := ⟨_, rfl⟩; rw [h] at HP HSLA hi1; clear h
  obtain ⟨C2, h⟩ : ∃ z, y.cells = z := ⟨_, rfl⟩; rw [h] at HP HSLA hi2; clear h
  obtain ⟨s1, h⟩ : ∃ z, x.source = z := ⟨_, rfl⟩; rw [h] at HP hq; clear h
  obtain ⟨s2, h⟩ : ∃ z, y.source = z := ⟨_, rfl⟩; rw [h] at HP hq; clear h
  obtain ⟨t1, h⟩ : ∃ z, x.target = z := ⟨_, rfl⟩; rw [h] at HP hq; clear h
  obtain ⟨t2, h⟩ : ∃ z, y.target = z := ⟨_, rfl⟩; rw [h] at HP hq; clear h
  obtain ⟨v1, h⟩ : ∃ z, x.v = z := ⟨_, rfl⟩; rw [h] at HP HV1 h1; clear h
  obtain ⟨v2, h⟩ : ∃ z, y.v = z := ⟨_, rfl⟩; rw [h] at HP HV2 h2; clear h
  obtain ⟨e1, he1⟩ : ∃ z, vlE l n = z := ⟨_, rfl⟩
  obtain ⟨e2, he2⟩ : ∃ z, vlE m n = z := ⟨_, rfl⟩
  rw [he1] at HV1 hq
  rw [he2] at HV2 hq
  have P0 := Lib.hid (HP.out _ HK0.out)
  clear he1 he2 hqs hqe hC hX hx hy hsz h1 h2
  by_cases h : e1 ≠ 0
  · skip
    have hqv : q = e1 := by rw [← hq]; rw [if_pos h]
    clear hq
    have HQ := Lib.hid hqv
    clear hqv
    have hne : (e1 == 0) = false := by simpa using h
    clear h
    go_enter Try.func12, Try.ntmps12
    go_wp2_with (first
      | ((with_reducible refine at_load (.tmp 8) ?_); refine wpList_load_1 25 (.tmp 8) rfl w.heap.size (34) (v1) (P0.out.1) rfl _ Try.underlying25 rfl rfl ?_)
      | (go_at_call 21; refine (HV1.out _ HBA.out).mono ?_; rintro e w1 ⟨rfl, hb1⟩; have HB1 := Lib.hid (HBA.out.trans (hb1.mono HBA.out.size)); have HK1 := Lib.hid (HK0.out.call hb1); have P1 := Lib.hid (HP.out _ HK1.out); clear hb1)
      | fail)
    go_ret
    exact ⟨by rw [HQ.out]; rfl, HB1.out⟩
  have hz1 : e1 = 0 := by simpa using h
  clear h
  by_cases h : e2 ≠ 0
  · skip
    subst hz1
    have hz1 : (0 : Int) = 0 := rfl
    have hqv : q = e2 := by rw [← hq]; rw [if_neg (by simp), if_pos h]
    clear hq
    have HQ := Lib.hid hqv
    clear hqv
    have hne : (e2 == 0) = false := by simpa using h
    clear h
    go_enter Try.func12, Try.ntmps12
    go_wp2_with (first
      | ((with_reducible refine at_load (.tmp 8) ?_); refine wpList_load_1 25 (.tmp 8) rfl w.heap.size (34) (v1) (P0.out.1) rfl _ Try.underlying25 rfl rfl ?_)
      | ((with_reducible refine at_load (.tmp 16) ?_); refine wpList_load_1 25 (.tmp 16) rfl w.heap.size (69) (v2) (P1.out.2.1) rfl _ Try.underlying25 rfl rfl ?_)
      | (go_at_call 21; refine (HV2.out _ HB1.out).mono ?_; rintro e w2 ⟨rfl, hb2⟩; have HB2 := Lib.hid (HB1.out.trans (hb2.mono HB1.out.size)); have HK2 := Lib.hid (HK1.out.call hb2); have P2 := Lib.hid (HP.out _ HK2.out); clear hb2)
      | (go_at_call 21; refine (HV1.out _ HBA.out).mono ?_; rintro e w1 ⟨rfl, hb1⟩; have HB1 := Lib.hid (HBA.out.trans (hb1.mono HBA.out.size)); have HK1 := Lib.hid (HK0.out.call hb1); have P1 := Lib.hid (HP.out _ HK1.out); clear hb1)
      | fail)
    go_ret
    exact ⟨by rw [HQ.out]; rfl, HB2.out⟩
  have hz2 : e2 = 0 := by simpa using h
  clear h
  subst hz1 hz2
  have hz1 : (0 : Int) = 0 := rfl
  have hz2 : (0 : Int) = 0 := rfl
  by_cases hst1 : t1 < s1
  · skip
    have hqv : q = 2 := by rw [← hq]; rw [if_neg (by simp), if_neg (by simp), if_pos (.inl (by omega))]
    clear hq
    have HQ := Lib.hid hqv
    clear hqv
    go_enter Try.func12, Try.ntmps12
    go_wp2_with (first
      | ((with_reducible refine at_load (.tmp 8) ?_); refine wpList_load_1 25 (.tmp 8) rfl w.heap.size (34) (v1) (P0.out.1) rfl _ Try.underlying25 rfl rfl ?_)
      | ((with_reducible refine at_load (.tmp 16) ?_); refine wpList_load_1 25 (.tmp 16) rfl w.heap.size (69) (v2) (P1.out.2.1) rfl _ Try.underlying25 rfl rfl ?_)
      | (go_at_call 21; refine (HV2.out _ HB1.out).mono ?_; rintro e w2 ⟨rfl, hb2⟩; have HB2 := Lib.hid (HB1.out.trans (hb2.mono HB1.out.size)); have HK2 := Lib.hid (HK1.out.call hb2); have P2 := Lib.hid (HP.out _ HK2.out); clear hb2)
      | (go_at_call 21; refine (HV1.out _ HBA.out).mono ?_; rintro e w1 ⟨rfl, hb1⟩; have HB1 := Lib.hid (HBA.out.trans (hb1.mono HBA.out.size)); have HK1 := Lib.hid (HK0.out.call hb1); have P1 := Lib.hid (HP.out _ HK1.out); clear hb1)
      | ((with_reducible refine at_load (.tmp 24) ?_); refine wpList_load_1 22 (.tmp 24) rfl w.heap.size (0) (.int .u64 s1) (P2.out.2.2.1) rfl _ Try.underlying22 rfl rfl ?_)
      | ((with_reducible refine at_load (.tmp 27) ?_); refine wpList_load_1 22 (.tmp 27) rfl w.heap.size (1) (.int .u64 t1) (P2.out.2.2.2.1) rfl _ Try.underlying22 rfl rfl ?_)
      | fail)
    go_ret
    exact ⟨by rw [HQ.out]; rfl, HB2.out⟩
  by_cases hst2 : t2 < s2
  · skip
    have hqv : q = 2 := by rw [← hq]; rw [if_neg (by simp), if_neg (by simp), if_pos (.inr (by omega))]
    clear hq
    have HQ := Lib.hid hqv
    clear hqv
    have hst1 : (t1 < s1) = False := eq_false hst1
    go_enter Try.func12, Try.ntmps12
    go_wp2_with (first
      | ((with_reducible refine at_load (.tmp 8) ?_); refine wpList_load_1 25 (.tmp 8) rfl w.heap.size (34) (v1) (P0.out.1) rfl _ Try.underlying25 rfl rfl ?_)
      | ((with_reducible refine at_load (.tmp 16) ?_); refine wpList_load_1 25 (.tmp 16) rfl w.heap.size (69) (v2) (P1.out.2.1) rfl _ Try.underlying25 rfl rfl ?_)
      | (go_at_call 21; refine (HV2.out _ HB1.out).mono ?_; rintro e w2 ⟨rfl, hb2⟩; have HB2 := Lib.hid (HB1.out.trans (hb2.mono HB1.out.size)); have HK2 := Lib.hid (HK1.out.call hb2); have P2 := Lib.hid (HP.out _ HK2.out); clear hb2)
      | (go_at_call 21; refine (HV1.out _ HBA.out).mono ?_; rintro e w1 ⟨rfl, hb1⟩; have HB1 := Lib.hid (HBA.out.trans (hb1.mono HBA.out.size)); have HK1 := Lib.hid (HK0.out.call hb1); have P1 := Lib.hid (HP.out _ HK1.out); clear hb1)
      | ((with_reducible refine at_load (.tmp 24) ?_); refine wpList_load_1 22 (.tmp 24) rfl w.heap.size (0) (.int .u64 s1) (P2.out.2.2.1) rfl _ Try.underlying22 rfl rfl ?_)
      | ((with_reducible refine at_load (.tmp 27) ?_); refine wpList_load_1 22 (.tmp 27) rfl w.heap.size (1) (.int .u64 t1) (P2.out.2.2.2.1) rfl _ Try.underlying22 rfl rfl ?_)
      | ((with_reducible refine at_load (.tmp 32) ?_); refine wpList_load_1 22 (.tmp 32) rfl w.heap.size (35) (.int .u64 s2) (P2.out.2.2.2.2.1) rfl _ Try.underlying22 rfl rfl ?_)
      | ((with_reducible refine at_load (.tmp 35) ?_); refine wpList_load_1 22 (.tmp 35) rfl w.heap.size (36) (.int .u64 t2) (P2.out.2.2.2.2.2.1) rfl _ Try.underlying22 rfl rfl ?_)
      | fail)
    go_ret
    exact ⟨by rw [HQ.out]; rfl, HB2.out⟩
  cases qs
  · skip
    have hqv : q = 20 := by rw [← hq]; rw [if_neg (by simp), if_neg (by simp), if_neg (by omega), if_pos (.inl rfl)]
    clear hq
    have HQ := Lib.hid hqv
    clear hqv
    have hst1 : (t1 < s1) = False := eq_false hst1
    have hst2 : (t2 < s2) = False := eq_false hst2
    go_enter Try.func12, Try.ntmps12
    go_wp2_with (first
      | ((with_reducible refine at_load (.tmp 8) ?_); refine wpList_load_1 25 (.tmp 8) rfl w.heap.size (34) (v1) (P0.out.1) rfl _ Try.underlying25 rfl rfl ?_)
      | ((with_reducible refine at_load (.tmp 16) ?_); refine wpList_load_1 25 (.tmp 16) rfl w.heap.size (69) (v2) (P1.out.2.1) rfl _ Try.underlying25 rfl rfl ?_)
      | (go_at_call 21; refine (HV2.out _ HB1.out).mono ?_; rintro e w2 ⟨rfl, hb2⟩; have HB2 := Lib.hid (HB1.out.trans (hb2.mono HB1.out.size)); have HK2 := Lib.hid (HK1.out.call hb2); have P2 := Lib.hid (HP.out _ HK2.out); clear hb2)
      | (go_at_call 21; refine (HV1.out _ HBA.out).mono ?_; rintro e w1 ⟨rfl, hb1⟩; have HB1 := Lib.hid (HBA.out.trans (hb1.mono HBA.out.size)); have HK1 := Lib.hid (HK0.out.call hb1); have P1 := Lib.hid (HP.out _ HK1.out); clear hb1)
      | ((with_reducible refine at_load (.tmp 24) ?_); refine wpList_load_1 22 (.tmp 24) rfl w.heap.size (0) (.int .u64 s1) (P2.out.2.2.1) rfl _ Try.underlying22 rfl rfl ?_)
      | ((with_reducible refine at_load (.tmp 27) ?_); refine wpList_load_1 22 (.tmp 27) rfl w.heap.size (1) (.int .u64 t1) (P2.out.2.2.2.1) rfl _ Try.underlying22 rfl rfl ?_)
      | ((with_reducible refine at_load (.tmp 32) ?_); refine wpList_load_1 22 (.tmp 32) rfl w.heap.size (35) (.int .u64 s2) (P2.out.2.2.2.2.1) rfl _ Try.underlying22 rfl rfl ?_)
      | ((with_reducible refine at_load (.tmp 35) ?_); refine wpList_load_1 22 (.tmp 35) rfl w.heap.size (36) (.int .u64 t2) (P2.out.2.2.2.2.2.1) rfl _ Try.underlying22 rfl rfl ?_)
      | ((with_reducible refine at_load (.tmp 39) ?_); refine wpList_load_rng 27 (.tmp 39) rfl w.heap.size (0) (C1) (P2.out.2.2.2.2.2.2.1) rfl _ Try.underlying27 rfl (hi1) rfl ?_)
      | ((with_reducible refine at_load (.tmp 41) ?_); refine wpList_load_rng 27 (.tmp 41) rfl w.heap.size (35) (C2) (P2.out.2.2.2.2.2.2.2) rfl _ Try.underlying27 rfl (hi2) rfl ?_)
      | (go_at_call 9; refine (HSLA.out _).mono ?_; rintro e w3 ⟨rfl, hb3⟩; have HB3 := Lib.hid (HB2.out.trans (hb3.mono HB2.out.size)); have HK3 := Lib.hid (HK2.out.call hb3); clear hb3)
      | fail)
    go_ret
    exact ⟨by rw [HQ.out]; rfl, HB3.out⟩
  by_cases hcn : C = []
  · skip
    have hqv : q = 20 := by rw [← hq]; rw [if_neg (by simp), if_neg (by simp), if_neg (by omega), if_pos (.inr hcn)]
    clear hq
    have HQ := Lib.hid hqv
    clear hqv
    have hst1 : (t1 < s1) = False := eq_false hst1
    have hst2 : (t2 < s2) = False := eq_false hst2
    have HCN := Lib.hid hcn
    clear hcn
    go_enter Try.func12, Try.ntmps12
    go_wp2_with (first
      | ((with_reducible refine at_load (.tmp 8) ?_); refine wpList_load_1 25 (.tmp 8) rfl w.heap.size (34) (v1) (P0.out.1) rfl _ Try.underlying25 rfl rfl ?_)
      | ((with_reducible refine at_load (.tmp 16) ?_); refine wpList_load_1 25 (.tmp 16) rfl w.heap.size (69) (v2) (P1.out.2.1) rfl _ Try.underlying25 rfl rfl ?_)
      | (go_at_call 21; refine (HV2.out _ HB1.out).mono ?_; rintro e w2 ⟨rfl, hb2⟩; have HB2 := Lib.hid (HB1.out.trans (hb2.mono HB1.out.size)); have HK2 := Lib.hid (HK1.out.call hb2); have P2 := Lib.hid (HP.out _ HK2.out); clear hb2)
      | (go_at_call 21; refine (HV1.out _ HBA.out).mono ?_; rintro e w1 ⟨rfl, hb1⟩; have HB1 := Lib.hid (HBA.out.trans (hb1.mono HBA.out.size)); have HK1 := Lib.hid (HK0.out.call hb1); have P1 := Lib.hid (HP.out _ HK1.out); clear hb1)
      | ((with_reducible refine at_load (.tmp 24) ?_); refine wpList_load_1 22 (.tmp 24) rfl w.heap.size (0) (.int .u64 s1) (P2.out.2.2.1) rfl _ Try.underlying22 rfl rfl ?_)
      | ((with_reducible refine at_load (.tmp 27) ?_); refine wpList_load_1 22 (.tmp 27) rfl w.heap.size (1) (.int .u64 t1) (P2.out.2.2.2.1) rfl _ Try.underlying22 rfl rfl ?_)
      | ((with_reducible refine at_load (.tmp 32) ?_); refine wpList_load_1 22 (.tmp 32) rfl w.heap.size (35) (.int .u64 s2) (P2.out.2.2.2.2.1) rfl _ Try.underlying22 rfl rfl ?_)
      | ((with_reducible refine at_load (.tmp 35) ?_); refine wpList_load_1 22 (.tmp 35) rfl w.heap.size (36) (.int .u64 t2) (P2.out.2.2.2.2.2.1) rfl _ Try.underlying22 rfl rfl ?_)
      | ((with_reducible refine at_load (.tmp 39) ?_); refine wpList_load_rng 27 (.tmp 39) rfl w.heap.size (0) (C1) (P2.out.2.2.2.2.2.2.1) rfl _ Try.underlying27 rfl (hi1) rfl ?_)
      | ((with_reducible refine at_load (.tmp 41) ?_); refine wpList_load_rng 27 (.tmp 41) rfl w.heap.size (35) (C2) (P2.out.2.2.2.2.2.2.2) rfl _ Try.underlying27 rfl (hi2) rfl ?_)
      | (go_at_call 9; refine (HSLA.out _).mono ?_; rintro e w3 ⟨rfl, hb3⟩; have HB3 := Lib.hid (HB2.out.trans (hb3.mono HB2.out.size)); have HK3 := Lib.hid (HK2.out.call hb3); clear hb3)
      | ((with_reducible refine at_load (.tmp 2) ?_); refine wpList_load_g 31 (.tmp 2) rfl w.heap.size rfl X _ HK3.out Try.underlying31 rfl hiX rfl ?_)
      | (go_at_call 15; refine (HCUL.out _ HB3.out).mono ?_; rintro e w4 ⟨v4, rfl, hi4, hc4, hn4, hb4⟩; obtain ⟨a4, n4, c4, rfl⟩ := ints_shape' hi4.1; have hl4 := hi4.len.1; have HB4 := Lib.hid (HB3.out.trans (hb4.mono HB3.out.size)); have hz4 := beq_len_nil hl4 HCN.out; clear hl4 hi4 hc4 hn4 hb4)
      | fail)
    go_ret
    exact ⟨by rw [HQ.out]; rfl, HB4.out⟩
  have hqv : q = 0 := by rw [← hq]; rw [if_neg (by simp), if_neg (by simp), if_neg (by omega), if_neg (by rintro (h | h); cases h; exact hcn h)]
  clear hq
  have HQ := Lib.hid hqv
  clear hqv
  have hst1 : (t1 < s1) = False := eq_false hst1
  have hst2 : (t2 < s2) = False := eq_false hst2
  have HCN := Lib.hid hcn
  clear hcn
  go_enter Try.func12, Try.ntmps12
  go_wp2_with (first
    | ((with_reducible refine at_load (.tmp 8) ?_); refine wpList_load_1 25 (.tmp 8) rfl w.heap.size (34) (v1) (P0.out.1) rfl _ Try.underlying25 rfl rfl ?_)
    | ((with_reducible refine at_load (.tmp 16) ?_); refine wpList_load_1 25 (.tmp 16) rfl w.heap.size (69) (v2) (P1.out.2.1) rfl _ Try.underlying25 rfl rfl ?_)
    | (go_at_call 21; refine (HV2.out _ HB1.out).mono ?_; rintro e w2 ⟨rfl, hb2⟩; have HB2 := Lib.hid (HB1.out.trans (hb2.mono HB1.out.size)); have HK2 := Lib.hid (HK1.out.call hb2); have P2 := Lib.hid (HP.out _ HK2.out); clear hb2)
    | (go_at_call 21; refine (HV1.out _ HBA.out).mono ?_; rintro e w1 ⟨rfl, hb1⟩; have HB1 := Lib.hid (HBA.out.trans (hb1.mono HBA.out.size)); have HK1 := Lib.hid (HK0.out.call hb1); have P1 := Lib.hid (HP.out _ HK1.out); clear hb1)
    | ((with_reducible refine at_load (.tmp 24) ?_); refine wpList_load_1 22 (.tmp 24) rfl w.heap.size (0) (.int .u64 s1) (P2.out.2.2.1) rfl _ Try.underlying22 rfl rfl ?_)
    | ((with_reducible refine at_load (.tmp 27) ?_); refine wpList_load_1 22 (.tmp 27) rfl w.heap.size (1) (.int .u64 t1) (P2.out.2.2.2.1) rfl _ Try.underlying22 rfl rfl ?_)
    | ((with_reducible refine at_load (.tmp 32) ?_); refine wpList_load_1 22 (.tmp 32) rfl w.heap.size (35) (.int .u64 s2) (P2.out.2.2.2.2.1) rfl _ Try.underlying22 rfl rfl ?_)
    | ((with_reducible refine at_load (.tmp 35) ?_); refine wpList_load_1 22 (.tmp 35) rfl w.heap.size (36) (.int .u64 t2) (P2.out.2.2.2.2.2.1) rfl _ Try.underlying22 rfl rfl ?_)
    | ((with_reducible refine at_load (.tmp 39) ?_); refine wpList_load_rng 27 (.tmp 39) rfl w.heap.size (0) (C1) (P2.out.2.2.2.2.2.2.1) rfl _ Try.underlying27 rfl (hi1) rfl ?_)
    | ((with_reducible refine at_load (.tmp 41) ?_); refine wpList_load_rng 27 (.tmp 41) rfl w.heap.size (35) (C2) (P2.out.2.2.2.2.2.2.2) rfl _ Try.underlying27 rfl (hi2) rfl ?_)
    | (go_at_call 9; refine (HSLA.out _).mono ?_; rintro e w3 ⟨rfl, hb3⟩; have HB3 := Lib.hid (HB2.out.trans (hb3.mono HB2.out.size)); have HK3 := Lib.hid (HK2.out.call hb3); clear hb3)
    | ((with_reducible refine at_load (.tmp 2) ?_); refine wpList_load_g 31 (.tmp 2) rfl w.heap.size rfl X _ HK3.out Try.underlying31 rfl hiX rfl ?_)
    | (go_at_call 15; refine (HCUL.out _ HB3.out).mono ?_; rintro e w4 ⟨v4, rfl, hi4, hc4, hn4, hb4⟩; obtain ⟨a4, n4, c4, rfl⟩ := ints_shape' hi4.1; have hl4 := hi4.len.1; have HB4 := Lib.hid (HB3.out.trans (hb4.mono HB3.out.size)); have hz4 := beq_len_ne hl4 HCN.out; clear hl4 hi4 hc4 hn4 hb4)
    | fail)
  go_ret
  exact ⟨by rw [HQ.out]; rfl, HB4.out⟩
end Go.Proofs.Ytlbhkgmlfapjgaa
