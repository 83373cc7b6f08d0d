/- The code's isDouble, surrounds, Slashable. -/
import Derived.Test.YtlbhkgmlfapjgaaEvC
set_option linter.unusedVariables false

set_option linter.unusedSimpArgs false
namespace Go.Proofs.Ytlbhkgmlfapjgaa
open Go.RowKit

set_option maxRecDepth 100000

def DblP (x y : ClD) : Prop := x.target = y.target ∧ (x.source ≠ y.source ∨ x.root ≠ y.root)
instance (x y : ClD) : Decidable (DblP x y) := by unfold DblP; infer_instance

def SurP (x y : ClD) : Prop := x.source < y.source ∧ y.target < x.target
instance (x y : ClD) : Decidable (SurP x y) := by unfold SurP; infer_instance

theorem sla_or (x y : ClD) : decide (SlaP x y) = (decide (DblP x y) || decide (SurP x y) || decide (SurP y x)) := by
  rw [Bool.eq_iff_iff]
  simp only [Bool.or_eq_true, decide_eq_true_eq]
  unfold SlaP DblP SurP
  constructor
  · rintro (h | h | h)
    · exact .inl (.inl h)
    · exact .inl (.inr h)
    · exact .inr h
  · rintro ((h | h) | h)
    · exact .inl h
    · exact .inr (.inl h)
    · exact .inr (.inr h)

theorem sla_symm (x y : ClD) : decide (SlaP y x) = decide (SlaP x y) := by
  rw [Bool.eq_iff_iff]
  simp only [decide_eq_true_eq]
  unfold SlaP
  constructor
  · rintro (⟨h1, h2⟩ | h | h)
    · exact .inl ⟨h1.symm, h2.imp Ne.symm Ne.symm⟩
    · exact .inr (.inr h)
    · exact .inr (.inl h)
  · rintro (⟨h1, h2⟩ | h | h)
    · exact .inl ⟨h1.symm, h2.imp Ne.symm Ne.symm⟩
    · exact .inr (.inr h)
    · exact .inr (.inl h)

theorem sla_self (x : ClD) : decide (SlaP x x) = false := by
  simp only [decide_eq_false_iff_not]
  unfold SlaP
  rintro (⟨_, h | h⟩ | h | h)
  · exact h rfl
  · exact h rfl
  · omega
  · omega

set_option maxHeartbeats 8000000 in
theorem dbl_any (x y : ClD) (w : World) (hx : x.ok) (hy : y.ok) :
    Calls Try.prog 25 #[.agg x.cells.toArray, .agg y.cells.toArray] w fun e w' => e = .returned (.bool (decide (DblP x y))) ∧ Below w.heap.size w w' := by
  obtain ⟨q, hq⟩ : ∃ q : Bool, decide (DblP x y) = q := ⟨_, rfl⟩
  rw [hq]
  have HQ : q = true ↔ DblP x y := by rw [← hq]; exact decide_eq_true_iff
  unfold DblP at HQ
  clear hq
  have b1 : Blk ((w.alloc (.cells x.cells.toArray 27)).alloc (.cells y.cells.toArray 27)) w.heap.size x.cells.toArray := (Blk.new rfl).alloc _
  have b2 : Blk ((w.alloc (.cells x.cells.toArray 27)).alloc (.cells y.cells.toArray 27)) (w.heap.size + 1) y.cells.toArray := Blk.new (by simp)
  obtain ⟨x0, x1, x2, _⟩ := cl_at b1.rng hx
  obtain ⟨y0, y1, y2, _⟩ := cl_at b2.rng hy
  simp only [Nat.zero_add] at x1 x2 y1 y2
  have HBA := Lib.hid (((Below.refl w.heap.size w).alloc (Nat.le_refl _) (.cells x.cells.toArray 27)).alloc (by simp) (.cells y.cells.toArray 27))
  have heq := fun u => eq_root hx.2.2 hy.2.2 u
  have hi1 : (Try.prog.info? 24).map (·.size) = some (bytesL x.root).length := by rw [bytesL_len hx.2.2]; kernel_rfl
  have hi2 : (Try.prog.info? 24).map (·.size) = some (bytesL y.root).length := by rw [bytesL_len hy.2.2]; kernel_rfl
  simp only [bytesL_V] at heq
  obtain ⟨qr, hqr⟩ : ∃ q : Bool, decide (x.root = y.root) = q := ⟨_, rfl⟩
  rw [hqr] at heq
  have hqe : (x.root ≠ y.root) ↔ qr = false := by rw [← hqr]; simp
  try rw [hqe] at HQ
  obtain ⟨s1, h⟩ : ∃ z, x.source = z := ⟨_, rfl⟩; rw [h] at x0 HQ; clear h
  obtain ⟨s2, h⟩ : ∃ z, y.source = z := ⟨_, rfl⟩; rw [h] at y0 HQ; clear h
  obtain ⟨t1, h⟩ : ∃ z, x.target = z := ⟨_, rfl⟩; rw [h] at x1 HQ; clear h
  obtain ⟨t2, h⟩ : ∃ z, y.target = z := ⟨_, rfl⟩; rw [h] at y1 HQ; clear h
  obtain ⟨R1, h⟩ : ∃ z, bytesL x.root = z := ⟨_, rfl⟩; rw [h] at x2 heq hi1; clear h
  obtain ⟨R2, h⟩ : ∃ z, bytesL y.root = z := ⟨_, rfl⟩; rw [h] at y2 heq hi2; clear h
  obtain ⟨X, h⟩ : ∃ z, x.cells.toArray = z := ⟨_, rfl⟩; rw [h] at x0 x1 x2 y0 y1 y2 HBA ⊢; clear h b1
  obtain ⟨Y, h⟩ : ∃ z, y.cells.toArray = z := ⟨_, rfl⟩; rw [h] at x0 x1 x2 y0 y1 y2 HBA ⊢; clear h b2
  clear hqr hqe hx hy
  have X0 := Lib.hid x0; have X1 := Lib.hid x1; have X2 := Lib.hid x2; have Y0 := Lib.hid y0; have Y1 := Lib.hid y1; have Y2 := Lib.hid y2
  clear x0 x1 x2 y0 y1 y2
  by_cases ht : t1 = t2
  case neg =>
    have t_3 : (t1 == t2) = false := by simpa using ht
    have hqv : q = false := by cases q; rfl; exact absurd (HQ.1 rfl) (fun h => ht h.1)
    subst hqv
    clear HQ
    try clear hs
    try clear ht
    go_enter Try.func25, Try.ntmps25
    go_wp2_with (first
      | ((with_reducible refine at_load (.tmp 5) ?_); refine wpList_load_1 22 (.tmp 5) rfl w.heap.size (1) (.int .u64 t1) (X1.out) rfl _ Try.underlying22 rfl rfl ?_)
      | ((with_reducible refine at_load (.tmp 7) ?_); refine wpList_load_1 22 (.tmp 7) rfl (w.heap.size + 1) (1) (.int .u64 t2) (Y1.out) rfl _ Try.underlying22 rfl rfl ?_)
      | ((with_reducible refine at_load (.tmp 11) ?_); refine wpList_load_1 22 (.tmp 11) rfl w.heap.size (0) (.int .u64 s1) (X0.out) rfl _ Try.underlying22 rfl rfl ?_)
      | ((with_reducible refine at_load (.tmp 13) ?_); refine wpList_load_1 22 (.tmp 13) rfl (w.heap.size + 1) (0) (.int .u64 s2) (Y0.out) rfl _ Try.underlying22 rfl rfl ?_)
      | ((with_reducible refine at_load (.tmp 17) ?_); refine wpList_load_rng 24 (.tmp 17) rfl w.heap.size (2) (R1) (X2.out) rfl _ Try.underlying24 rfl (hi1) rfl ?_)
      | ((with_reducible refine at_load (.tmp 19) ?_); refine wpList_load_rng 24 (.tmp 19) rfl (w.heap.size + 1) (2) (R2) (Y2.out) rfl _ Try.underlying24 rfl (hi2) rfl ?_)
      | fail)
    go_ret
    exact ⟨rfl, HBA.out⟩
  have t_3 : (t1 == t2) = true := by simpa using ht
  by_cases hs : s1 = s2
  case neg =>
    have s_3 : (s1 == s2) = false := by simpa using hs
    have s_4 : (s1 != s2) = true := by simpa using hs
    have hqv : q = true := HQ.2 ⟨ht, .inl hs⟩
    subst hqv
    clear HQ
    try clear hs
    try clear ht
    go_enter Try.func25, Try.ntmps25
    go_wp2_with (first
      | ((with_reducible refine at_load (.tmp 5) ?_); refine wpList_load_1 22 (.tmp 5) rfl w.heap.size (1) (.int .u64 t1) (X1.out) rfl _ Try.underlying22 rfl rfl ?_)
      | ((with_reducible refine at_load (.tmp 7) ?_); refine wpList_load_1 22 (.tmp 7) rfl (w.heap.size + 1) (1) (.int .u64 t2) (Y1.out) rfl _ Try.underlying22 rfl rfl ?_)
      | ((with_reducible refine at_load (.tmp 11) ?_); refine wpList_load_1 22 (.tmp 11) rfl w.heap.size (0) (.int .u64 s1) (X0.out) rfl _ Try.underlying22 rfl rfl ?_)
      | ((with_reducible refine at_load (.tmp 13) ?_); refine wpList_load_1 22 (.tmp 13) rfl (w.heap.size + 1) (0) (.int .u64 s2) (Y0.out) rfl _ Try.underlying22 rfl rfl ?_)
      | ((with_reducible refine at_load (.tmp 17) ?_); refine wpList_load_rng 24 (.tmp 17) rfl w.heap.size (2) (R1) (X2.out) rfl _ Try.underlying24 rfl (hi1) rfl ?_)
      | ((with_reducible refine at_load (.tmp 19) ?_); refine wpList_load_rng 24 (.tmp 19) rfl (w.heap.size + 1) (2) (R2) (Y2.out) rfl _ Try.underlying24 rfl (hi2) rfl ?_)
      | fail)
    go_ret
    exact ⟨rfl, HBA.out⟩
  have s_3 : (s1 == s2) = true := by simpa using hs
  have s_4 : (s1 != s2) = false := by simpa using hs
  cases qr
  · skip
    have hqv : q = true := HQ.2 ⟨ht, .inr rfl⟩
    subst hqv
    clear HQ
    try clear hs
    try clear ht
    go_enter Try.func25, Try.ntmps25
    go_wp2_with (first
      | ((with_reducible refine at_load (.tmp 5) ?_); refine wpList_load_1 22 (.tmp 5) rfl w.heap.size (1) (.int .u64 t1) (X1.out) rfl _ Try.underlying22 rfl rfl ?_)
      | ((with_reducible refine at_load (.tmp 7) ?_); refine wpList_load_1 22 (.tmp 7) rfl (w.heap.size + 1) (1) (.int .u64 t2) (Y1.out) rfl _ Try.underlying22 rfl rfl ?_)
      | ((with_reducible refine at_load (.tmp 11) ?_); refine wpList_load_1 22 (.tmp 11) rfl w.heap.size (0) (.int .u64 s1) (X0.out) rfl _ Try.underlying22 rfl rfl ?_)
      | ((with_reducible refine at_load (.tmp 13) ?_); refine wpList_load_1 22 (.tmp 13) rfl (w.heap.size + 1) (0) (.int .u64 s2) (Y0.out) rfl _ Try.underlying22 rfl rfl ?_)
      | ((with_reducible refine at_load (.tmp 17) ?_); refine wpList_load_rng 24 (.tmp 17) rfl w.heap.size (2) (R1) (X2.out) rfl _ Try.underlying24 rfl (hi1) rfl ?_)
      | ((with_reducible refine at_load (.tmp 19) ?_); refine wpList_load_rng 24 (.tmp 19) rfl (w.heap.size + 1) (2) (R2) (Y2.out) rfl _ Try.underlying24 rfl (hi2) rfl ?_)
      | fail)
    go_ret
    exact ⟨rfl, HBA.out⟩
  · skip
    have hqv : q = false := by cases q; rfl; exact absurd (HQ.1 rfl) (fun h => by rcases h.2 with h | h; exact h hs; cases h)
    subst hqv
    clear HQ
    try clear hs
    try clear ht
    go_enter Try.func25, Try.ntmps25
    go_wp2_with (first
      | ((with_reducible refine at_load (.tmp 5) ?_); refine wpList_load_1 22 (.tmp 5) rfl w.heap.size (1) (.int .u64 t1) (X1.out) rfl _ Try.underlying22 rfl rfl ?_)
      | ((with_reducible refine at_load (.tmp 7) ?_); refine wpList_load_1 22 (.tmp 7) rfl (w.heap.size + 1) (1) (.int .u64 t2) (Y1.out) rfl _ Try.underlying22 rfl rfl ?_)
      | ((with_reducible refine at_load (.tmp 11) ?_); refine wpList_load_1 22 (.tmp 11) rfl w.heap.size (0) (.int .u64 s1) (X0.out) rfl _ Try.underlying22 rfl rfl ?_)
      | ((with_reducible refine at_load (.tmp 13) ?_); refine wpList_load_1 22 (.tmp 13) rfl (w.heap.size + 1) (0) (.int .u64 s2) (Y0.out) rfl _ Try.underlying22 rfl rfl ?_)
      | ((with_reducible refine at_load (.tmp 17) ?_); refine wpList_load_rng 24 (.tmp 17) rfl w.heap.size (2) (R1) (X2.out) rfl _ Try.underlying24 rfl (hi1) rfl ?_)
      | ((with_reducible refine at_load (.tmp 19) ?_); refine wpList_load_rng 24 (.tmp 19) rfl (w.heap.size + 1) (2) (R2) (Y2.out) rfl _ Try.underlying24 rfl (hi2) rfl ?_)
      | fail)
    go_ret
    exact ⟨rfl, HBA.out⟩

set_option maxHeartbeats 8000000 in
theorem sur_any (x y : ClD) (w : World) (hx : x.ok) (hy : y.ok) :
    Calls Try.prog 26 #[.agg x.cells.toArray, .agg y.cells.toArray] w fun e w' => e = .returned (.bool (decide (SurP x y))) ∧ Below w.heap.size w w' := by
  obtain ⟨q, hq⟩ : ∃ q : Bool, decide (SurP x y) = q := ⟨_, rfl⟩
  rw [hq]
  have HQ : q = true ↔ SurP x y := by rw [← hq]; exact decide_eq_true_iff
  unfold SurP at HQ
  clear hq
  have b1 : Blk ((w.alloc (.cells x.cells.toArray 27)).alloc (.cells y.cells.toArray 27)) w.heap.size x.cells.toArray := (Blk.new rfl).alloc _
  have b2 : Blk ((w.alloc (.cells x.cells.toArray 27)).alloc (.cells y.cells.toArray 27)) (w.heap.size + 1) y.cells.toArray := Blk.new (by simp)
  obtain ⟨x0, x1, x2, _⟩ := cl_at b1.rng hx
  obtain ⟨y0, y1, y2, _⟩ := cl_at b2.rng hy
  simp only [Nat.zero_add] at x1 x2 y1 y2
  have HBA := Lib.hid (((Below.refl w.heap.size w).alloc (Nat.le_refl _) (.cells x.cells.toArray 27)).alloc (by simp) (.cells y.cells.toArray 27))
  have heq := fun u => eq_root hx.2.2 hy.2.2 u
  have hi1 : (Try.prog.info? 24).map (·.size) = some (bytesL x.root).length := by rw [bytesL_len hx.2.2]; kernel_rfl
  have hi2 : (Try.prog.info? 24).map (·.size) = some (bytesL y.root).length := by rw [bytesL_len hy.2.2]; kernel_rfl
  simp only [bytesL_V] at heq
  obtain ⟨qr, hqr⟩ : ∃ q : Bool, decide (x.root = y.root) = q := ⟨_, rfl⟩
  rw [hqr] at heq
  have hqe : (x.root ≠ y.root) ↔ qr = false := by rw [← hqr]; simp
  try rw [hqe] at HQ
  obtain ⟨s1, h⟩ : ∃ z, x.source = z := ⟨_, rfl⟩; rw [h] at x0 HQ; clear h
  obtain ⟨s2, h⟩ : ∃ z, y.source = z := ⟨_, rfl⟩; rw [h] at y0 HQ; clear h
  obtain ⟨t1, h⟩ : ∃ z, x.target = z := ⟨_, rfl⟩; rw [h] at x1 HQ; clear h
  obtain ⟨t2, h⟩ : ∃ z, y.target = z := ⟨_, rfl⟩; rw [h] at y1 HQ; clear h
  obtain ⟨R1, h⟩ : ∃ z, bytesL x.root = z := ⟨_, rfl⟩; rw [h] at x2 heq hi1; clear h
  obtain ⟨R2, h⟩ : ∃ z, bytesL y.root = z := ⟨_, rfl⟩; rw [h] at y2 heq hi2; clear h
  obtain ⟨X, h⟩ : ∃ z, x.cells.toArray = z := ⟨_, rfl⟩; rw [h] at x0 x1 x2 y0 y1 y2 HBA ⊢; clear h b1
  obtain ⟨Y, h⟩ : ∃ z, y.cells.toArray = z := ⟨_, rfl⟩; rw [h] at x0 x1 x2 y0 y1 y2 HBA ⊢; clear h b2
  clear hqr hqe hx hy
  have X0 := Lib.hid x0; have X1 := Lib.hid x1; have X2 := Lib.hid x2; have Y0 := Lib.hid y0; have Y1 := Lib.hid y1; have Y2 := Lib.hid y2
  clear x0 x1 x2 y0 y1 y2
  by_cases hs : s1 < s2
  case neg =>
    have hqv : q = false := by cases q; rfl; exact absurd (HQ.1 rfl) (fun h => hs h.1)
    subst hqv
    clear HQ
    try clear ht
    go_enter Try.func26, Try.ntmps26
    go_wp2_with (first
      | ((with_reducible refine at_load (.tmp 5) ?_); refine wpList_load_1 22 (.tmp 5) rfl w.heap.size (0) (.int .u64 s1) (X0.out) rfl _ Try.underlying22 rfl rfl ?_)
      | ((with_reducible refine at_load (.tmp 7) ?_); refine wpList_load_1 22 (.tmp 7) rfl (w.heap.size + 1) (0) (.int .u64 s2) (Y0.out) rfl _ Try.underlying22 rfl rfl ?_)
      | ((with_reducible refine at_load (.tmp 11) ?_); refine wpList_load_1 22 (.tmp 11) rfl w.heap.size (1) (.int .u64 t1) (X1.out) rfl _ Try.underlying22 rfl rfl ?_)
      | ((with_reducible refine at_load (.tmp 13) ?_); refine wpList_load_1 22 (.tmp 13) rfl (w.heap.size + 1) (1) (.int .u64 t2) (Y1.out) rfl _ Try.underlying22 rfl rfl ?_)
      | fail)
    go_ret
    exact ⟨rfl, HBA.out⟩
  by_cases ht : t2 < t1
  case neg =>
    have hqv : q = false := by cases q; rfl; exact absurd (HQ.1 rfl) (fun h => ht h.2)
    subst hqv
    clear HQ
    go_enter Try.func26, Try.ntmps26
    go_wp2_with (first
      | ((with_reducible refine at_load (.tmp 5) ?_); refine wpList_load_1 22 (.tmp 5) rfl w.heap.size (0) (.int .u64 s1) (X0.out) rfl _ Try.underlying22 rfl rfl ?_)
      | ((with_reducible refine at_load (.tmp 7) ?_); refine wpList_load_1 22 (.tmp 7) rfl (w.heap.size + 1) (0) (.int .u64 s2) (Y0.out) rfl _ Try.underlying22 rfl rfl ?_)
      | ((with_reducible refine at_load (.tmp 11) ?_); refine wpList_load_1 22 (.tmp 11) rfl w.heap.size (1) (.int .u64 t1) (X1.out) rfl _ Try.underlying22 rfl rfl ?_)
      | ((with_reducible refine at_load (.tmp 13) ?_); refine wpList_load_1 22 (.tmp 13) rfl (w.heap.size + 1) (1) (.int .u64 t2) (Y1.out) rfl _ Try.underlying22 rfl rfl ?_)
      | fail)
    go_ret
    exact ⟨rfl, HBA.out⟩
  have hqv : q = true := HQ.2 ⟨hs, ht⟩
  subst hqv
  clear HQ
  go_enter Try.func26, Try.ntmps26
  go_wp2_with (first
    | ((with_reducible refine at_load (.tmp 5) ?_); refine wpList_load_1 22 (.tmp 5) rfl w.heap.size (0) (.int .u64 s1) (X0.out) rfl _ Try.underlying22 rfl rfl ?_)
    | ((with_reducible refine at_load (.tmp 7) ?_); refine wpList_load_1 22 (.tmp 7) rfl (w.heap.size + 1) (0) (.int .u64 s2) (Y0.out) rfl _ Try.underlying22 rfl rfl ?_)
    | ((with_reducible refine at_load (.tmp 11) ?_); refine wpList_load_1 22 (.tmp 11) rfl w.heap.size (1) (.int .u64 t1) (X1.out) rfl _ Try.underlying22 rfl rfl ?_)
    | ((with_reducible refine at_load (.tmp 13) ?_); refine wpList_load_1 22 (.tmp 13) rfl (w.heap.size + 1) (1) (.int .u64 t2) (Y1.out) rfl _ Try.underlying22 rfl rfl ?_)
    | fail)
  go_ret
  exact ⟨rfl, HBA.out⟩

set_option maxHeartbeats 8000000 in
theorem sla_any (x y : ClD) (w : World) (hx : x.ok) (hy : y.ok) :
    Calls Try.prog 8 #[.agg x.cells.toArray, .agg y.cells.toArray] w fun e w' => e = .returned (.bool (decide (SlaP x y))) ∧ Below w.heap.size w w' := by
  rw [sla_or]
  have H1 := Lib.hid (fun u => dbl_any x y u hx hy)
  have H2 := Lib.hid (fun u => sur_any x y u hx hy)
  have H3 := Lib.hid (fun u => sur_any y x u hy hx)
  obtain ⟨q1, h⟩ : ∃ q : Bool, decide (DblP x y) = q := ⟨_, rfl⟩; rw [h] at H1 ⊢; clear h
  obtain ⟨q2, h⟩ : ∃ q : Bool, decide (SurP x y) = q := ⟨_, rfl⟩; rw [h] at H2 ⊢; clear h
  obtain ⟨q3, h⟩ : ∃ q : Bool, decide (SurP y x) = q := ⟨_, rfl⟩; rw [h] at H3 ⊢; clear h
  have hi1 : (Try.prog.info? 27).map (·.size) = some x.cells.length := by rw [ClD.len hx]; kernel_rfl
  have hi2 : (Try.prog.info? 27).map (·.size) = some y.cells.length := by rw [ClD.len hy]; kernel_rfl
  have HK1 : Hid (Blk ((w.alloc (.cells x.cells.toArray 27)).alloc (.cells y.cells.toArray 27)) w.heap.size x.cells.toArray) := (Blk.new rfl).alloc _
  have HK2 : Hid (Blk ((w.alloc (.cells x.cells.toArray 27)).alloc (.cells y.cells.toArray 27)) (w.heap.size + 1) y.cells.toArray) := Blk.new (by simp)
  have HBA := Lib.hid (((Below.refl w.heap.size w).alloc (Nat.le_refl _) (.cells x.cells.toArray 27)).alloc (by simp) (.cells y.cells.toArray 27))
  clear hx hy
  obtain ⟨X, hX⟩ : ∃ z, x.cells = z := ⟨_, rfl⟩; rw [hX] at H1 H2 H3 hi1 HK1 HK2 HBA ⊢; clear hX
  obtain ⟨Y, hY⟩ : ∃ z, y.cells = z := ⟨_, rfl⟩; rw [hY] at H1 H2 H3 hi2 HK1 HK2 HBA ⊢; clear hY
  have HL := Lib.hid (show ∀ u, Blk u w.heap.size X.toArray → Blk u (w.heap.size + 1) Y.toArray → u.rangeAt w.heap.size 0 X ∧ u.rangeAt (w.heap.size + 1) 0 Y from fun u h1 h2 => ⟨h1.rng, h2.rng⟩)
  have HR1 := Lib.hid (HL.out _ HK1.out HK2.out).1
  have HR2 := Lib.hid (HL.out _ HK1.out HK2.out).2
  cases q1
  case true =>
    go_enter Try.func8, Try.ntmps8
    have tok1 : True := trivial
    go_wp2_with (first
      | ((with_reducible refine at_load (.tmp 2) ?_); refine wpList_load_rng 27 (.tmp 2) rfl w.heap.size 0 X HR1.out rfl _ Try.underlying27 rfl hi1 rfl ?_)
      | ((with_reducible refine at_load (.tmp 3) ?_); refine wpList_load_rng 27 (.tmp 3) rfl (w.heap.size + 1) 0 Y HR2.out rfl _ Try.underlying27 rfl hi2 rfl ?_)
      | (go_at_call 25; have _t := tok1; refine (H1.out _).mono ?_; rintro e w1 ⟨rfl, hb⟩; have HK11 := Lib.hid (HK1.out.call hb); have HK21 := Lib.hid (HK2.out.call hb); have HR11 := Lib.hid (HL.out _ HK11.out HK21.out).1; have HR21 := Lib.hid (HL.out _ HK11.out HK21.out).2; have HBA1 := Lib.hid (HBA.out.trans (hb.mono HBA.out.size)); clear hb tok1)
      | fail)
    go_ret
    exact ⟨rfl, HBA1.out⟩
  cases q2
  case true =>
    go_enter Try.func8, Try.ntmps8
    have tok1 : True := trivial
    have tok2 : True := trivial
    go_wp2_with (first
      | ((with_reducible refine at_load (.tmp 2) ?_); refine wpList_load_rng 27 (.tmp 2) rfl w.heap.size 0 X HR11.out rfl _ Try.underlying27 rfl hi1 rfl ?_)
      | ((with_reducible refine at_load (.tmp 3) ?_); refine wpList_load_rng 27 (.tmp 3) rfl (w.heap.size + 1) 0 Y HR21.out rfl _ Try.underlying27 rfl hi2 rfl ?_)
      | ((with_reducible refine at_load (.tmp 2) ?_); refine wpList_load_rng 27 (.tmp 2) rfl w.heap.size 0 X HR1.out rfl _ Try.underlying27 rfl hi1 rfl ?_)
      | ((with_reducible refine at_load (.tmp 3) ?_); refine wpList_load_rng 27 (.tmp 3) rfl (w.heap.size + 1) 0 Y HR2.out rfl _ Try.underlying27 rfl hi2 rfl ?_)
      | (go_at_call 25; have _t := tok1; refine (H1.out _).mono ?_; rintro e w1 ⟨rfl, hb⟩; have HK11 := Lib.hid (HK1.out.call hb); have HK21 := Lib.hid (HK2.out.call hb); have HR11 := Lib.hid (HL.out _ HK11.out HK21.out).1; have HR21 := Lib.hid (HL.out _ HK11.out HK21.out).2; have HBA1 := Lib.hid (HBA.out.trans (hb.mono HBA.out.size)); clear hb tok1)
      | (go_at_call 26; have _t := tok2; refine (H2.out _).mono ?_; rintro e w2 ⟨rfl, hb⟩; have HK12 := Lib.hid (HK11.out.call hb); have HK22 := Lib.hid (HK21.out.call hb); have HR12 := Lib.hid (HL.out _ HK12.out HK22.out).1; have HR22 := Lib.hid (HL.out _ HK12.out HK22.out).2; have HBA2 := Lib.hid (HBA1.out.trans (hb.mono HBA1.out.size)); clear hb tok2)
      | fail)
    go_ret
    exact ⟨rfl, HBA2.out⟩
  go_enter Try.func8, Try.ntmps8
  have tok1 : True := trivial
  have tok2 : True := trivial
  have tok3 : True := trivial
  go_wp2_with (first
    | ((with_reducible refine at_load (.tmp 2) ?_); refine wpList_load_rng 27 (.tmp 2) rfl w.heap.size 0 X HR12.out rfl _ Try.underlying27 rfl hi1 rfl ?_)
    | ((with_reducible refine at_load (.tmp 3) ?_); refine wpList_load_rng 27 (.tmp 3) rfl (w.heap.size + 1) 0 Y HR22.out rfl _ Try.underlying27 rfl hi2 rfl ?_)
    | ((with_reducible refine at_load (.tmp 2) ?_); refine wpList_load_rng 27 (.tmp 2) rfl w.heap.size 0 X HR11.out rfl _ Try.underlying27 rfl hi1 rfl ?_)
    | ((with_reducible refine at_load (.tmp 3) ?_); refine wpList_load_rng 27 (.tmp 3) rfl (w.heap.size + 1) 0 Y HR21.out rfl _ Try.underlying27 rfl hi2 rfl ?_)
    | ((with_reducible refine at_load (.tmp 2) ?_); refine wpList_load_rng 27 (.tmp 2) rfl w.heap.size 0 X HR1.out rfl _ Try.underlying27 rfl hi1 rfl ?_)
    | ((with_reducible refine at_load (.tmp 3) ?_); refine wpList_load_rng 27 (.tmp 3) rfl (w.heap.size + 1) 0 Y HR2.out rfl _ Try.underlying27 rfl hi2 rfl ?_)
    | (go_at_call 25; have _t := tok1; refine (H1.out _).mono ?_; rintro e w1 ⟨rfl, hb⟩; have HK11 := Lib.hid (HK1.out.call hb); have HK21 := Lib.hid (HK2.out.call hb); have HR11 := Lib.hid (HL.out _ HK11.out HK21.out).1; have HR21 := Lib.hid (HL.out _ HK11.out HK21.out).2; have HBA1 := Lib.hid (HBA.out.trans (hb.mono HBA.out.size)); clear hb tok1)
    | (go_at_call 26; have _t := tok2; refine (H2.out _).mono ?_; rintro e w2 ⟨rfl, hb⟩; have HK12 := Lib.hid (HK11.out.call hb); have HK22 := Lib.hid (HK21.out.call hb); have HR12 := Lib.hid (HL.out _ HK12.out HK22.out).1; have HR22 := Lib.hid (HL.out _ HK12.out HK22.out).2; have HBA2 := Lib.hid (HBA1.out.trans (hb.mono HBA1.out.size)); clear hb tok2)
    | (go_at_call 26; have _t := tok3; refine (H3.out _).mono ?_; rintro e w3 ⟨rfl, hb⟩; have HK13 := Lib.hid (HK12.out.call hb); have HK23 := Lib.hid (HK22.out.call hb); have HR13 := Lib.hid (HL.out _ HK13.out HK23.out).1; have HR23 := Lib.hid (HL.out _ HK13.out HK23.out).2; have HBA3 := Lib.hid (HBA2.out.trans (hb.mono HBA2.out.size)); clear hb tok3)
    | fail)
  go_ret
  exact ⟨rfl, HBA3.out⟩
end Go.Proofs.Ytlbhkgmlfapjgaa
