/- The reference's Slashable, Culprits, Punish, ValidateSlashing. -/
import Derived.Test.YtlbhkgmlfapjgaaEvB
import Derived.Test.YtlbhkgmlfapjgaaCl
import Derived.Test.YtlbhkgmlfapjgaaVa
set_option linter.unusedVariables false

set_option linter.unusedSimpArgs false
namespace Go.Proofs.Ytlbhkgmlfapjgaa
open Go.RowKit

set_option maxRecDepth 100000

/-- Two claims contradict each other. -/
def SlaP (x y : ClD) : Prop := (x.target = y.target ∧ (x.source ≠ y.source ∨ x.root ≠ y.root)) ∨ (x.source < y.source ∧ y.target < x.target) ∨ (y.source < x.source ∧ x.target < y.target)
instance (x y : ClD) : Decidable (SlaP x y) := by unfold SlaP; infer_instance

set_option maxHeartbeats 8000000 in
theorem slashable_any (x y : ClD) (w : World) (hx : x.ok) (hy : y.ok) :
    Calls Try.prog 9 #[.agg x.cells.toArray, .agg y.cells.toArray] w fun e w' => e = .returned (.bool (decide (SlaP x y))) ∧ Below w.heap.size w w' := by
  obtain ⟨q, hq⟩ : ∃ q : Bool, decide (SlaP x y) = q := ⟨_, rfl⟩
  rw [hq]
  have HQ : q = true ↔ SlaP x y := by rw [← hq]; exact decide_eq_true_iff
  unfold SlaP at HQ
  clear hq
  have b1 : Blk ((w.alloc (.cells x.cells.toArray 27)).alloc (.cells y.cells.toArray 27)) w.heap.size x.cells.toArray := (Blk.new rfl).alloc _
  have b2 : Blk ((w.alloc (.cells x.cells.toArray 27)).alloc (.cells y.cells.toArray 27)) (w.heap.size + 1) y.cells.toArray := Blk.new (by simp)
  obtain ⟨x0, x1, x2, _⟩ := cl_at b1.rng hx
  obtain ⟨y0, y1, y2, _⟩ := cl_at b2.rng hy
  simp only [Nat.zero_add] at x1 x2 y1 y2
  have HBA := Lib.hid (((Below.refl w.heap.size w).alloc (Nat.le_refl _) (.cells x.cells.toArray 27)).alloc (by simp) (.cells y.cells.toArray 27))
  have heq := fun u => eq_root hx.2.2 hy.2.2 u
  have hi1 : (Try.prog.info? 24).map (·.size) = some (bytesL x.root).length := by rw [bytesL_len hx.2.2]; kernel_rfl
  have hi2 : (Try.prog.info? 24).map (·.size) = some (bytesL y.root).length := by rw [bytesL_len hy.2.2]; kernel_rfl
  simp only [bytesL_V] at heq
  obtain ⟨qr, hqr⟩ : ∃ q : Bool, decide (x.root = y.root) = q := ⟨_, rfl⟩
  rw [hqr] at heq
  have hqe : (x.root ≠ y.root) ↔ qr = false := by rw [← hqr]; simp
  rw [hqe] at HQ
  obtain ⟨s1, h⟩ : ∃ z, x.source = z := ⟨_, rfl⟩; rw [h] at x0 HQ; clear h
  obtain ⟨s2, h⟩ : ∃ z, y.source = z := ⟨_, rfl⟩; rw [h] at y0 HQ; clear h
  obtain ⟨t1, h⟩ : ∃ z, x.target = z := ⟨_, rfl⟩; rw [h] at x1 HQ; clear h
  obtain ⟨t2, h⟩ : ∃ z, y.target = z := ⟨_, rfl⟩; rw [h] at y1 HQ; clear h
  obtain ⟨R1, h⟩ : ∃ z, bytesL x.root = z := ⟨_, rfl⟩; rw [h] at x2 heq hi1; clear h
  obtain ⟨R2, h⟩ : ∃ z, bytesL y.root = z := ⟨_, rfl⟩; rw [h] at y2 heq hi2; clear h
  obtain ⟨X, h⟩ : ∃ z, x.cells.toArray = z := ⟨_, rfl⟩; rw [h] at x0 x1 x2 y0 y1 y2 HBA ⊢; clear h b1
  obtain ⟨Y, h⟩ : ∃ z, y.cells.toArray = z := ⟨_, rfl⟩; rw [h] at x0 x1 x2 y0 y1 y2 HBA ⊢; clear h b2
  clear hqr hqe hx hy
  have X0 := Lib.hid x0; have X1 := Lib.hid x1; have X2 := Lib.hid x2; have Y0 := Lib.hid y0; have Y1 := Lib.hid y1; have Y2 := Lib.hid y2
  clear x0 x1 x2 y0 y1 y2
  rcases Int.lt_trichotomy s1 s2 with hs | hs | hs
  · skip
    have s_2 : ¬ s2 < s1 := by omega
    have s_3 : (s1 == s2) = false := by simp; omega
    rcases Int.lt_trichotomy t1 t2 with ht | ht | ht
    · skip
      have t_2 : ¬ t2 < t1 := by omega
      have t_3 : (t1 == t2) = false := by simp; omega
      have hqv : q = false := by cases q; rfl; exact absurd (HQ.1 rfl) (by simp <;> omega)
      subst hqv
      clear HQ
      go_enter Try.func9, Try.ntmps9
      go_wp2_with (first
        | ((with_reducible refine at_load (.tmp 8) ?_); refine wpList_load_1 22 (.tmp 8) rfl w.heap.size (1) (.int .u64 t1) (X1.out) rfl _ Try.underlying22 rfl rfl ?_)
        | ((with_reducible refine at_load (.tmp 10) ?_); refine wpList_load_1 22 (.tmp 10) rfl (w.heap.size + 1) (1) (.int .u64 t2) (Y1.out) rfl _ Try.underlying22 rfl rfl ?_)
        | ((with_reducible refine at_load (.tmp 14) ?_); refine wpList_load_1 22 (.tmp 14) rfl w.heap.size (0) (.int .u64 s1) (X0.out) rfl _ Try.underlying22 rfl rfl ?_)
        | ((with_reducible refine at_load (.tmp 16) ?_); refine wpList_load_1 22 (.tmp 16) rfl (w.heap.size + 1) (0) (.int .u64 s2) (Y0.out) rfl _ Try.underlying22 rfl rfl ?_)
        | ((with_reducible refine at_load (.tmp 20) ?_); refine wpList_load_rng 24 (.tmp 20) rfl w.heap.size (2) (R1) (X2.out) rfl _ Try.underlying24 rfl (hi1) rfl ?_)
        | ((with_reducible refine at_load (.tmp 22) ?_); refine wpList_load_rng 24 (.tmp 22) rfl (w.heap.size + 1) (2) (R2) (Y2.out) rfl _ Try.underlying24 rfl (hi2) rfl ?_)
        | ((with_reducible refine at_load (.tmp 27) ?_); refine wpList_load_1 22 (.tmp 27) rfl w.heap.size (0) (.int .u64 s1) (X0.out) rfl _ Try.underlying22 rfl rfl ?_)
        | ((with_reducible refine at_load (.tmp 29) ?_); refine wpList_load_1 22 (.tmp 29) rfl (w.heap.size + 1) (0) (.int .u64 s2) (Y0.out) rfl _ Try.underlying22 rfl rfl ?_)
        | ((with_reducible refine at_load (.tmp 33) ?_); refine wpList_load_1 22 (.tmp 33) rfl w.heap.size (1) (.int .u64 t1) (X1.out) rfl _ Try.underlying22 rfl rfl ?_)
        | ((with_reducible refine at_load (.tmp 35) ?_); refine wpList_load_1 22 (.tmp 35) rfl (w.heap.size + 1) (1) (.int .u64 t2) (Y1.out) rfl _ Try.underlying22 rfl rfl ?_)
        | ((with_reducible refine at_load (.tmp 39) ?_); refine wpList_load_1 22 (.tmp 39) rfl (w.heap.size + 1) (0) (.int .u64 s2) (Y0.out) rfl _ Try.underlying22 rfl rfl ?_)
        | ((with_reducible refine at_load (.tmp 41) ?_); refine wpList_load_1 22 (.tmp 41) rfl w.heap.size (0) (.int .u64 s1) (X0.out) rfl _ Try.underlying22 rfl rfl ?_)
        | ((with_reducible refine at_load (.tmp 45) ?_); refine wpList_load_1 22 (.tmp 45) rfl (w.heap.size + 1) (1) (.int .u64 t2) (Y1.out) rfl _ Try.underlying22 rfl rfl ?_)
        | ((with_reducible refine at_load (.tmp 47) ?_); refine wpList_load_1 22 (.tmp 47) rfl w.heap.size (1) (.int .u64 t1) (X1.out) rfl _ Try.underlying22 rfl rfl ?_)
        | fail)
      go_ret
      exact ⟨rfl, HBA.out⟩
    · skip
      have t_1 : ¬ t1 < t2 := by omega
      have t_2 : ¬ t2 < t1 := by omega
      have t_3 : (t1 == t2) = true := by simp; omega
      have hqv : q = true := HQ.2 (by simp <;> omega)
      subst hqv
      clear HQ
      clear ht
      go_enter Try.func9, Try.ntmps9
      go_wp2_with (first
        | ((with_reducible refine at_load (.tmp 8) ?_); refine wpList_load_1 22 (.tmp 8) rfl w.heap.size (1) (.int .u64 t1) (X1.out) rfl _ Try.underlying22 rfl rfl ?_)
        | ((with_reducible refine at_load (.tmp 10) ?_); refine wpList_load_1 22 (.tmp 10) rfl (w.heap.size + 1) (1) (.int .u64 t2) (Y1.out) rfl _ Try.underlying22 rfl rfl ?_)
        | ((with_reducible refine at_load (.tmp 14) ?_); refine wpList_load_1 22 (.tmp 14) rfl w.heap.size (0) (.int .u64 s1) (X0.out) rfl _ Try.underlying22 rfl rfl ?_)
        | ((with_reducible refine at_load (.tmp 16) ?_); refine wpList_load_1 22 (.tmp 16) rfl (w.heap.size + 1) (0) (.int .u64 s2) (Y0.out) rfl _ Try.underlying22 rfl rfl ?_)
        | ((with_reducible refine at_load (.tmp 20) ?_); refine wpList_load_rng 24 (.tmp 20) rfl w.heap.size (2) (R1) (X2.out) rfl _ Try.underlying24 rfl (hi1) rfl ?_)
        | ((with_reducible refine at_load (.tmp 22) ?_); refine wpList_load_rng 24 (.tmp 22) rfl (w.heap.size + 1) (2) (R2) (Y2.out) rfl _ Try.underlying24 rfl (hi2) rfl ?_)
        | ((with_reducible refine at_load (.tmp 27) ?_); refine wpList_load_1 22 (.tmp 27) rfl w.heap.size (0) (.int .u64 s1) (X0.out) rfl _ Try.underlying22 rfl rfl ?_)
        | ((with_reducible refine at_load (.tmp 29) ?_); refine wpList_load_1 22 (.tmp 29) rfl (w.heap.size + 1) (0) (.int .u64 s2) (Y0.out) rfl _ Try.underlying22 rfl rfl ?_)
        | ((with_reducible refine at_load (.tmp 33) ?_); refine wpList_load_1 22 (.tmp 33) rfl w.heap.size (1) (.int .u64 t1) (X1.out) rfl _ Try.underlying22 rfl rfl ?_)
        | ((with_reducible refine at_load (.tmp 35) ?_); refine wpList_load_1 22 (.tmp 35) rfl (w.heap.size + 1) (1) (.int .u64 t2) (Y1.out) rfl _ Try.underlying22 rfl rfl ?_)
        | ((with_reducible refine at_load (.tmp 39) ?_); refine wpList_load_1 22 (.tmp 39) rfl (w.heap.size + 1) (0) (.int .u64 s2) (Y0.out) rfl _ Try.underlying22 rfl rfl ?_)
        | ((with_reducible refine at_load (.tmp 41) ?_); refine wpList_load_1 22 (.tmp 41) rfl w.heap.size (0) (.int .u64 s1) (X0.out) rfl _ Try.underlying22 rfl rfl ?_)
        | ((with_reducible refine at_load (.tmp 45) ?_); refine wpList_load_1 22 (.tmp 45) rfl (w.heap.size + 1) (1) (.int .u64 t2) (Y1.out) rfl _ Try.underlying22 rfl rfl ?_)
        | ((with_reducible refine at_load (.tmp 47) ?_); refine wpList_load_1 22 (.tmp 47) rfl w.heap.size (1) (.int .u64 t1) (X1.out) rfl _ Try.underlying22 rfl rfl ?_)
        | fail)
      go_ret
      exact ⟨rfl, HBA.out⟩
    · skip
      have t_2 : ¬ t1 < t2 := by omega
      have t_3 : (t1 == t2) = false := by simp; omega
      have hqv : q = true := HQ.2 (by simp <;> omega)
      subst hqv
      clear HQ
      go_enter Try.func9, Try.ntmps9
      go_wp2_with (first
        | ((with_reducible refine at_load (.tmp 8) ?_); refine wpList_load_1 22 (.tmp 8) rfl w.heap.size (1) (.int .u64 t1) (X1.out) rfl _ Try.underlying22 rfl rfl ?_)
        | ((with_reducible refine at_load (.tmp 10) ?_); refine wpList_load_1 22 (.tmp 10) rfl (w.heap.size + 1) (1) (.int .u64 t2) (Y1.out) rfl _ Try.underlying22 rfl rfl ?_)
        | ((with_reducible refine at_load (.tmp 14) ?_); refine wpList_load_1 22 (.tmp 14) rfl w.heap.size (0) (.int .u64 s1) (X0.out) rfl _ Try.underlying22 rfl rfl ?_)
        | ((with_reducible refine at_load (.tmp 16) ?_); refine wpList_load_1 22 (.tmp 16) rfl (w.heap.size + 1) (0) (.int .u64 s2) (Y0.out) rfl _ Try.underlying22 rfl rfl ?_)
        | ((with_reducible refine at_load (.tmp 20) ?_); refine wpList_load_rng 24 (.tmp 20) rfl w.heap.size (2) (R1) (X2.out) rfl _ Try.underlying24 rfl (hi1) rfl ?_)
        | ((with_reducible refine at_load (.tmp 22) ?_); refine wpList_load_rng 24 (.tmp 22) rfl (w.heap.size + 1) (2) (R2) (Y2.out) rfl _ Try.underlying24 rfl (hi2) rfl ?_)
        | ((with_reducible refine at_load (.tmp 27) ?_); refine wpList_load_1 22 (.tmp 27) rfl w.heap.size (0) (.int .u64 s1) (X0.out) rfl _ Try.underlying22 rfl rfl ?_)
        | ((with_reducible refine at_load (.tmp 29) ?_); refine wpList_load_1 22 (.tmp 29) rfl (w.heap.size + 1) (0) (.int .u64 s2) (Y0.out) rfl _ Try.underlying22 rfl rfl ?_)
        | ((with_reducible refine at_load (.tmp 33) ?_); refine wpList_load_1 22 (.tmp 33) rfl w.heap.size (1) (.int .u64 t1) (X1.out) rfl _ Try.underlying22 rfl rfl ?_)
        | ((with_reducible refine at_load (.tmp 35) ?_); refine wpList_load_1 22 (.tmp 35) rfl (w.heap.size + 1) (1) (.int .u64 t2) (Y1.out) rfl _ Try.underlying22 rfl rfl ?_)
        | ((with_reducible refine at_load (.tmp 39) ?_); refine wpList_load_1 22 (.tmp 39) rfl (w.heap.size + 1) (0) (.int .u64 s2) (Y0.out) rfl _ Try.underlying22 rfl rfl ?_)
        | ((with_reducible refine at_load (.tmp 41) ?_); refine wpList_load_1 22 (.tmp 41) rfl w.heap.size (0) (.int .u64 s1) (X0.out) rfl _ Try.underlying22 rfl rfl ?_)
        | ((with_reducible refine at_load (.tmp 45) ?_); refine wpList_load_1 22 (.tmp 45) rfl (w.heap.size + 1) (1) (.int .u64 t2) (Y1.out) rfl _ Try.underlying22 rfl rfl ?_)
        | ((with_reducible refine at_load (.tmp 47) ?_); refine wpList_load_1 22 (.tmp 47) rfl w.heap.size (1) (.int .u64 t1) (X1.out) rfl _ Try.underlying22 rfl rfl ?_)
        | fail)
      go_ret
      exact ⟨rfl, HBA.out⟩
  · skip
    have s_1 : ¬ s1 < s2 := by omega
    have s_2 : ¬ s2 < s1 := by omega
    have s_3 : (s1 == s2) = true := by simp; omega
    rcases Int.lt_trichotomy t1 t2 with ht | ht | ht
    · skip
      have t_2 : ¬ t2 < t1 := by omega
      have t_3 : (t1 == t2) = false := by simp; omega
      have hqv : q = false := by cases q; rfl; exact absurd (HQ.1 rfl) (by simp <;> omega)
      subst hqv
      clear HQ
      clear hs
      go_enter Try.func9, Try.ntmps9
      go_wp2_with (first
        | ((with_reducible refine at_load (.tmp 8) ?_); refine wpList_load_1 22 (.tmp 8) rfl w.heap.size (1) (.int .u64 t1) (X1.out) rfl _ Try.underlying22 rfl rfl ?_)
        | ((with_reducible refine at_load (.tmp 10) ?_); refine wpList_load_1 22 (.tmp 10) rfl (w.heap.size + 1) (1) (.int .u64 t2) (Y1.out) rfl _ Try.underlying22 rfl rfl ?_)
        | ((with_reducible refine at_load (.tmp 14) ?_); refine wpList_load_1 22 (.tmp 14) rfl w.heap.size (0) (.int .u64 s1) (X0.out) rfl _ Try.underlying22 rfl rfl ?_)
        | ((with_reducible refine at_load (.tmp 16) ?_); refine wpList_load_1 22 (.tmp 16) rfl (w.heap.size + 1) (0) (.int .u64 s2) (Y0.out) rfl _ Try.underlying22 rfl rfl ?_)
        | ((with_reducible refine at_load (.tmp 20) ?_); refine wpList_load_rng 24 (.tmp 20) rfl w.heap.size (2) (R1) (X2.out) rfl _ Try.underlying24 rfl (hi1) rfl ?_)
        | ((with_reducible refine at_load (.tmp 22) ?_); refine wpList_load_rng 24 (.tmp 22) rfl (w.heap.size + 1) (2) (R2) (Y2.out) rfl _ Try.underlying24 rfl (hi2) rfl ?_)
        | ((with_reducible refine at_load (.tmp 27) ?_); refine wpList_load_1 22 (.tmp 27) rfl w.heap.size (0) (.int .u64 s1) (X0.out) rfl _ Try.underlying22 rfl rfl ?_)
        | ((with_reducible refine at_load (.tmp 29) ?_); refine wpList_load_1 22 (.tmp 29) rfl (w.heap.size + 1) (0) (.int .u64 s2) (Y0.out) rfl _ Try.underlying22 rfl rfl ?_)
        | ((with_reducible refine at_load (.tmp 33) ?_); refine wpList_load_1 22 (.tmp 33) rfl w.heap.size (1) (.int .u64 t1) (X1.out) rfl _ Try.underlying22 rfl rfl ?_)
        | ((with_reducible refine at_load (.tmp 35) ?_); refine wpList_load_1 22 (.tmp 35) rfl (w.heap.size + 1) (1) (.int .u64 t2) (Y1.out) rfl _ Try.underlying22 rfl rfl ?_)
        | ((with_reducible refine at_load (.tmp 39) ?_); refine wpList_load_1 22 (.tmp 39) rfl (w.heap.size + 1) (0) (.int .u64 s2) (Y0.out) rfl _ Try.underlying22 rfl rfl ?_)
        | ((with_reducible refine at_load (.tmp 41) ?_); refine wpList_load_1 22 (.tmp 41) rfl w.heap.size (0) (.int .u64 s1) (X0.out) rfl _ Try.underlying22 rfl rfl ?_)
        | ((with_reducible refine at_load (.tmp 45) ?_); refine wpList_load_1 22 (.tmp 45) rfl (w.heap.size + 1) (1) (.int .u64 t2) (Y1.out) rfl _ Try.underlying22 rfl rfl ?_)
        | ((with_reducible refine at_load (.tmp 47) ?_); refine wpList_load_1 22 (.tmp 47) rfl w.heap.size (1) (.int .u64 t1) (X1.out) rfl _ Try.underlying22 rfl rfl ?_)
        | fail)
      go_ret
      exact ⟨rfl, HBA.out⟩
    · skip
      have t_1 : ¬ t1 < t2 := by omega
      have t_2 : ¬ t2 < t1 := by omega
      have t_3 : (t1 == t2) = true := by simp; omega
      cases qr
      · skip
        have hqv : q = true := HQ.2 (by simp <;> omega)
        subst hqv
        clear HQ
        clear hs
        clear ht
        go_enter Try.func9, Try.ntmps9
        go_wp2_with (first
          | ((with_reducible refine at_load (.tmp 8) ?_); refine wpList_load_1 22 (.tmp 8) rfl w.heap.size (1) (.int .u64 t1) (X1.out) rfl _ Try.underlying22 rfl rfl ?_)
          | ((with_reducible refine at_load (.tmp 10) ?_); refine wpList_load_1 22 (.tmp 10) rfl (w.heap.size + 1) (1) (.int .u64 t2) (Y1.out) rfl _ Try.underlying22 rfl rfl ?_)
          | ((with_reducible refine at_load (.tmp 14) ?_); refine wpList_load_1 22 (.tmp 14) rfl w.heap.size (0) (.int .u64 s1) (X0.out) rfl _ Try.underlying22 rfl rfl ?_)
          | ((with_reducible refine at_load (.tmp 16) ?_); refine wpList_load_1 22 (.tmp 16) rfl (w.heap.size + 1) (0) (.int .u64 s2) (Y0.out) rfl _ Try.underlying22 rfl rfl ?_)
          | ((with_reducible refine at_load (.tmp 20) ?_); refine wpList_load_rng 24 (.tmp 20) rfl w.heap.size (2) (R1) (X2.out) rfl _ Try.underlying24 rfl (hi1) rfl ?_)
          | ((with_reducible refine at_load (.tmp 22) ?_); refine wpList_load_rng 24 (.tmp 22) rfl (w.heap.size + 1) (2) (R2) (Y2.out) rfl _ Try.underlying24 rfl (hi2) rfl ?_)
          | ((with_reducible refine at_load (.tmp 27) ?_); refine wpList_load_1 22 (.tmp 27) rfl w.heap.size (0) (.int .u64 s1) (X0.out) rfl _ Try.underlying22 rfl rfl ?_)
          | ((with_reducible refine at_load (.tmp 29) ?_); refine wpList_load_1 22 (.tmp 29) rfl (w.heap.size + 1) (0) (.int .u64 s2) (Y0.out) rfl _ Try.underlying22 rfl rfl ?_)
          | ((with_reducible refine at_load (.tmp 33) ?_); refine wpList_load_1 22 (.tmp 33) rfl w.heap.size (1) (.int .u64 t1) (X1.out) rfl _ Try.underlying22 rfl rfl ?_)
          | ((with_reducible refine at_load (.tmp 35) ?_); refine wpList_load_1 22 (.tmp 35) rfl (w.heap.size + 1) (1) (.int .u64 t2) (Y1.out) rfl _ Try.underlying22 rfl rfl ?_)
          | ((with_reducible refine at_load (.tmp 39) ?_); refine wpList_load_1 22 (.tmp 39) rfl (w.heap.size + 1) (0) (.int .u64 s2) (Y0.out) rfl _ Try.underlying22 rfl rfl ?_)
          | ((with_reducible refine at_load (.tmp 41) ?_); refine wpList_load_1 22 (.tmp 41) rfl w.heap.size (0) (.int .u64 s1) (X0.out) rfl _ Try.underlying22 rfl rfl ?_)
          | ((with_reducible refine at_load (.tmp 45) ?_); refine wpList_load_1 22 (.tmp 45) rfl (w.heap.size + 1) (1) (.int .u64 t2) (Y1.out) rfl _ Try.underlying22 rfl rfl ?_)
          | ((with_reducible refine at_load (.tmp 47) ?_); refine wpList_load_1 22 (.tmp 47) rfl w.heap.size (1) (.int .u64 t1) (X1.out) rfl _ Try.underlying22 rfl rfl ?_)
          | fail)
        go_ret
        exact ⟨rfl, HBA.out⟩
      · skip
        have hqv : q = false := by cases q; rfl; exact absurd (HQ.1 rfl) (by simp <;> omega)
        subst hqv
        clear HQ
        clear hs
        clear ht
        go_enter Try.func9, Try.ntmps9
        go_wp2_with (first
          | ((with_reducible refine at_load (.tmp 8) ?_); refine wpList_load_1 22 (.tmp 8) rfl w.heap.size (1) (.int .u64 t1) (X1.out) rfl _ Try.underlying22 rfl rfl ?_)
          | ((with_reducible refine at_load (.tmp 10) ?_); refine wpList_load_1 22 (.tmp 10) rfl (w.heap.size + 1) (1) (.int .u64 t2) (Y1.out) rfl _ Try.underlying22 rfl rfl ?_)
          | ((with_reducible refine at_load (.tmp 14) ?_); refine wpList_load_1 22 (.tmp 14) rfl w.heap.size (0) (.int .u64 s1) (X0.out) rfl _ Try.underlying22 rfl rfl ?_)
          | ((with_reducible refine at_load (.tmp 16) ?_); refine wpList_load_1 22 (.tmp 16) rfl (w.heap.size + 1) (0) (.int .u64 s2) (Y0.out) rfl _ Try.underlying22 rfl rfl ?_)
          | ((with_reducible refine at_load (.tmp 20) ?_); refine wpList_load_rng 24 (.tmp 20) rfl w.heap.size (2) (R1) (X2.out) rfl _ Try.underlying24 rfl (hi1) rfl ?_)
          | ((with_reducible refine at_load (.tmp 22) ?_); refine wpList_load_rng 24 (.tmp 22) rfl (w.heap.size + 1) (2) (R2) (Y2.out) rfl _ Try.underlying24 rfl (hi2) rfl ?_)
          | ((with_reducible refine at_load (.tmp 27) ?_); refine wpList_load_1 22 (.tmp 27) rfl w.heap.size (0) (.int .u64 s1) (X0.out) rfl _ Try.underlying22 rfl rfl ?_)
          | ((with_reducible refine at_load (.tmp 29) ?_); refine wpList_load_1 22 (.tmp 29) rfl (w.heap.size + 1) (0) (.int .u64 s2) (Y0.out) rfl _ Try.underlying22 rfl rfl ?_)
          | ((with_reducible refine at_load (.tmp 33) ?_); refine wpList_load_1 22 (.tmp 33) rfl w.heap.size (1) (.int .u64 t1) (X1.out) rfl _ Try.underlying22 rfl rfl ?_)
          | ((with_reducible refine at_load (.tmp 35) ?_); refine wpList_load_1 22 (.tmp 35) rfl (w.heap.size + 1) (1) (.int .u64 t2) (Y1.out) rfl _ Try.underlying22 rfl rfl ?_)
          | ((with_reducible refine at_load (.tmp 39) ?_); refine wpList_load_1 22 (.tmp 39) rfl (w.heap.size + 1) (0) (.int .u64 s2) (Y0.out) rfl _ Try.underlying22 rfl rfl ?_)
          | ((with_reducible refine at_load (.tmp 41) ?_); refine wpList_load_1 22 (.tmp 41) rfl w.heap.size (0) (.int .u64 s1) (X0.out) rfl _ Try.underlying22 rfl rfl ?_)
          | ((with_reducible refine at_load (.tmp 45) ?_); refine wpList_load_1 22 (.tmp 45) rfl (w.heap.size + 1) (1) (.int .u64 t2) (Y1.out) rfl _ Try.underlying22 rfl rfl ?_)
          | ((with_reducible refine at_load (.tmp 47) ?_); refine wpList_load_1 22 (.tmp 47) rfl w.heap.size (1) (.int .u64 t1) (X1.out) rfl _ Try.underlying22 rfl rfl ?_)
          | fail)
        go_ret
        exact ⟨rfl, HBA.out⟩
    · skip
      have t_2 : ¬ t1 < t2 := by omega
      have t_3 : (t1 == t2) = false := by simp; omega
      have hqv : q = false := by cases q; rfl; exact absurd (HQ.1 rfl) (by simp <;> omega)
      subst hqv
      clear HQ
      clear hs
      go_enter Try.func9, Try.ntmps9
      go_wp2_with (first
        | ((with_reducible refine at_load (.tmp 8) ?_); refine wpList_load_1 22 (.tmp 8) rfl w.heap.size (1) (.int .u64 t1) (X1.out) rfl _ Try.underlying22 rfl rfl ?_)
        | ((with_reducible refine at_load (.tmp 10) ?_); refine wpList_load_1 22 (.tmp 10) rfl (w.heap.size + 1) (1) (.int .u64 t2) (Y1.out) rfl _ Try.underlying22 rfl rfl ?_)
        | ((with_reducible refine at_load (.tmp 14) ?_); refine wpList_load_1 22 (.tmp 14) rfl w.heap.size (0) (.int .u64 s1) (X0.out) rfl _ Try.underlying22 rfl rfl ?_)
        | ((with_reducible refine at_load (.tmp 16) ?_); refine wpList_load_1 22 (.tmp 16) rfl (w.heap.size + 1) (0) (.int .u64 s2) (Y0.out) rfl _ Try.underlying22 rfl rfl ?_)
        | ((with_reducible refine at_load (.tmp 20) ?_); refine wpList_load_rng 24 (.tmp 20) rfl w.heap.size (2) (R1) (X2.out) rfl _ Try.underlying24 rfl (hi1) rfl ?_)
        | ((with_reducible refine at_load (.tmp 22) ?_); refine wpList_load_rng 24 (.tmp 22) rfl (w.heap.size + 1) (2) (R2) (Y2.out) rfl _ Try.underlying24 rfl (hi2) rfl ?_)
        | ((with_reducible refine at_load (.tmp 27) ?_); refine wpList_load_1 22 (.tmp 27) rfl w.heap.size (0) (.int .u64 s1) (X0.out) rfl _ Try.underlying22 rfl rfl ?_)
        | ((with_reducible refine at_load (.tmp 29) ?_); refine wpList_load_1 22 (.tmp 29) rfl (w.heap.size + 1) (0) (.int .u64 s2) (Y0.out) rfl _ Try.underlying22 rfl rfl ?_)
        | ((with_reducible refine at_load (.tmp 33) ?_); refine wpList_load_1 22 (.tmp 33) rfl w.heap.size (1) (.int .u64 t1) (X1.out) rfl _ Try.underlying22 rfl rfl ?_)
        | ((with_reducible refine at_load (.tmp 35) ?_); refine wpList_load_1 22 (.tmp 35) rfl (w.heap.size + 1) (1) (.int .u64 t2) (Y1.out) rfl _ Try.underlying22 rfl rfl ?_)
        | ((with_reducible refine at_load (.tmp 39) ?_); refine wpList_load_1 22 (.tmp 39) rfl (w.heap.size + 1) (0) (.int .u64 s2) (Y0.out) rfl _ Try.underlying22 rfl rfl ?_)
        | ((with_reducible refine at_load (.tmp 41) ?_); refine wpList_load_1 22 (.tmp 41) rfl w.heap.size (0) (.int .u64 s1) (X0.out) rfl _ Try.underlying22 rfl rfl ?_)
        | ((with_reducible refine at_load (.tmp 45) ?_); refine wpList_load_1 22 (.tmp 45) rfl (w.heap.size + 1) (1) (.int .u64 t2) (Y1.out) rfl _ Try.underlying22 rfl rfl ?_)
        | ((with_reducible refine at_load (.tmp 47) ?_); refine wpList_load_1 22 (.tmp 47) rfl w.heap.size (1) (.int .u64 t1) (X1.out) rfl _ Try.underlying22 rfl rfl ?_)
        | fail)
      go_ret
      exact ⟨rfl, HBA.out⟩
  · skip
    have s_2 : ¬ s1 < s2 := by omega
    have s_3 : (s1 == s2) = false := by simp; omega
    rcases Int.lt_trichotomy t1 t2 with ht | ht | ht
    · skip
      have t_2 : ¬ t2 < t1 := by omega
      have t_3 : (t1 == t2) = false := by simp; omega
      have hqv : q = true := HQ.2 (by simp <;> omega)
      subst hqv
      clear HQ
      go_enter Try.func9, Try.ntmps9
      go_wp2_with (first
        | ((with_reducible refine at_load (.tmp 8) ?_); refine wpList_load_1 22 (.tmp 8) rfl w.heap.size (1) (.int .u64 t1) (X1.out) rfl _ Try.underlying22 rfl rfl ?_)
        | ((with_reducible refine at_load (.tmp 10) ?_); refine wpList_load_1 22 (.tmp 10) rfl (w.heap.size + 1) (1) (.int .u64 t2) (Y1.out) rfl _ Try.underlying22 rfl rfl ?_)
        | ((with_reducible refine at_load (.tmp 14) ?_); refine wpList_load_1 22 (.tmp 14) rfl w.heap.size (0) (.int .u64 s1) (X0.out) rfl _ Try.underlying22 rfl rfl ?_)
        | ((with_reducible refine at_load (.tmp 16) ?_); refine wpList_load_1 22 (.tmp 16) rfl (w.heap.size + 1) (0) (.int .u64 s2) (Y0.out) rfl _ Try.underlying22 rfl rfl ?_)
        | ((with_reducible refine at_load (.tmp 20) ?_); refine wpList_load_rng 24 (.tmp 20) rfl w.heap.size (2) (R1) (X2.out) rfl _ Try.underlying24 rfl (hi1) rfl ?_)
        | ((with_reducible refine at_load (.tmp 22) ?_); refine wpList_load_rng 24 (.tmp 22) rfl (w.heap.size + 1) (2) (R2) (Y2.out) rfl _ Try.underlying24 rfl (hi2) rfl ?_)
        | ((with_reducible refine at_load (.tmp 27) ?_); refine wpList_load_1 22 (.tmp 27) rfl w.heap.size (0) (.int .u64 s1) (X0.out) rfl _ Try.underlying22 rfl rfl ?_)
        | ((with_reducible refine at_load (.tmp 29) ?_); refine wpList_load_1 22 (.tmp 29) rfl (w.heap.size + 1) (0) (.int .u64 s2) (Y0.out) rfl _ Try.underlying22 rfl rfl ?_)
        | ((with_reducible refine at_load (.tmp 33) ?_); refine wpList_load_1 22 (.tmp 33) rfl w.heap.size (1) (.int .u64 t1) (X1.out) rfl _ Try.underlying22 rfl rfl ?_)
        | ((with_reducible refine at_load (.tmp 35) ?_); refine wpList_load_1 22 (.tmp 35) rfl (w.heap.size + 1) (1) (.int .u64 t2) (Y1.out) rfl _ Try.underlying22 rfl rfl ?_)
        | ((with_reducible refine at_load (.tmp 39) ?_); refine wpList_load_1 22 (.tmp 39) rfl (w.heap.size + 1) (0) (.int .u64 s2) (Y0.out) rfl _ Try.underlying22 rfl rfl ?_)
        | ((with_reducible refine at_load (.tmp 41) ?_); refine wpList_load_1 22 (.tmp 41) rfl w.heap.size (0) (.int .u64 s1) (X0.out) rfl _ Try.underlying22 rfl rfl ?_)
        | ((with_reducible refine at_load (.tmp 45) ?_); refine wpList_load_1 22 (.tmp 45) rfl (w.heap.size + 1) (1) (.int .u64 t2) (Y1.out) rfl _ Try.underlying22 rfl rfl ?_)
        | ((with_reducible refine at_load (.tmp 47) ?_); refine wpList_load_1 22 (.tmp 47) rfl w.heap.size (1) (.int .u64 t1) (X1.out) rfl _ Try.underlying22 rfl rfl ?_)
        | fail)
      go_ret
      exact ⟨rfl, HBA.out⟩
    · skip
      have t_1 : ¬ t1 < t2 := by omega
      have t_2 : ¬ t2 < t1 := by omega
      have t_3 : (t1 == t2) = true := by simp; omega
      have hqv : q = true := HQ.2 (by simp <;> omega)
      subst hqv
      clear HQ
      clear ht
      go_enter Try.func9, Try.ntmps9
      go_wp2_with (first
        | ((with_reducible refine at_load (.tmp 8) ?_); refine wpList_load_1 22 (.tmp 8) rfl w.heap.size (1) (.int .u64 t1) (X1.out) rfl _ Try.underlying22 rfl rfl ?_)
        | ((with_reducible refine at_load (.tmp 10) ?_); refine wpList_load_1 22 (.tmp 10) rfl (w.heap.size + 1) (1) (.int .u64 t2) (Y1.out) rfl _ Try.underlying22 rfl rfl ?_)
        | ((with_reducible refine at_load (.tmp 14) ?_); refine wpList_load_1 22 (.tmp 14) rfl w.heap.size (0) (.int .u64 s1) (X0.out) rfl _ Try.underlying22 rfl rfl ?_)
        | ((with_reducible refine at_load (.tmp 16) ?_); refine wpList_load_1 22 (.tmp 16) rfl (w.heap.size + 1) (0) (.int .u64 s2) (Y0.out) rfl _ Try.underlying22 rfl rfl ?_)
        | ((with_reducible refine at_load (.tmp 20) ?_); refine wpList_load_rng 24 (.tmp 20) rfl w.heap.size (2) (R1) (X2.out) rfl _ Try.underlying24 rfl (hi1) rfl ?_)
        | ((with_reducible refine at_load (.tmp 22) ?_); refine wpList_load_rng 24 (.tmp 22) rfl (w.heap.size + 1) (2) (R2) (Y2.out) rfl _ Try.underlying24 rfl (hi2) rfl ?_)
        | ((with_reducible refine at_load (.tmp 27) ?_); refine wpList_load_1 22 (.tmp 27) rfl w.heap.size (0) (.int .u64 s1) (X0.out) rfl _ Try.underlying22 rfl rfl ?_)
        | ((with_reducible refine at_load (.tmp 29) ?_); refine wpList_load_1 22 (.tmp 29) rfl (w.heap.size + 1) (0) (.int .u64 s2) (Y0.out) rfl _ Try.underlying22 rfl rfl ?_)
        | ((with_reducible refine at_load (.tmp 33) ?_); refine wpList_load_1 22 (.tmp 33) rfl w.heap.size (1) (.int .u64 t1) (X1.out) rfl _ Try.underlying22 rfl rfl ?_)
        | ((with_reducible refine at_load (.tmp 35) ?_); refine wpList_load_1 22 (.tmp 35) rfl (w.heap.size + 1) (1) (.int .u64 t2) (Y1.out) rfl _ Try.underlying22 rfl rfl ?_)
        | ((with_reducible refine at_load (.tmp 39) ?_); refine wpList_load_1 22 (.tmp 39) rfl (w.heap.size + 1) (0) (.int .u64 s2) (Y0.out) rfl _ Try.underlying22 rfl rfl ?_)
        | ((with_reducible refine at_load (.tmp 41) ?_); refine wpList_load_1 22 (.tmp 41) rfl w.heap.size (0) (.int .u64 s1) (X0.out) rfl _ Try.underlying22 rfl rfl ?_)
        | ((with_reducible refine at_load (.tmp 45) ?_); refine wpList_load_1 22 (.tmp 45) rfl (w.heap.size + 1) (1) (.int .u64 t2) (Y1.out) rfl _ Try.underlying22 rfl rfl ?_)
        | ((with_reducible refine at_load (.tmp 47) ?_); refine wpList_load_1 22 (.tmp 47) rfl w.heap.size (1) (.int .u64 t1) (X1.out) rfl _ Try.underlying22 rfl rfl ?_)
        | fail)
      go_ret
      exact ⟨rfl, HBA.out⟩
    · skip
      have t_2 : ¬ t1 < t2 := by omega
      have t_3 : (t1 == t2) = false := by simp; omega
      have hqv : q = false := by cases q; rfl; exact absurd (HQ.1 rfl) (by simp <;> omega)
      subst hqv
      clear HQ
      go_enter Try.func9, Try.ntmps9
      go_wp2_with (first
        | ((with_reducible refine at_load (.tmp 8) ?_); refine wpList_load_1 22 (.tmp 8) rfl w.heap.size (1) (.int .u64 t1) (X1.out) rfl _ Try.underlying22 rfl rfl ?_)
        | ((with_reducible refine at_load (.tmp 10) ?_); refine wpList_load_1 22 (.tmp 10) rfl (w.heap.size + 1) (1) (.int .u64 t2) (Y1.out) rfl _ Try.underlying22 rfl rfl ?_)
        | ((with_reducible refine at_load (.tmp 14) ?_); refine wpList_load_1 22 (.tmp 14) rfl w.heap.size (0) (.int .u64 s1) (X0.out) rfl _ Try.underlying22 rfl rfl ?_)
        | ((with_reducible refine at_load (.tmp 16) ?_); refine wpList_load_1 22 (.tmp 16) rfl (w.heap.size + 1) (0) (.int .u64 s2) (Y0.out) rfl _ Try.underlying22 rfl rfl ?_)
        | ((with_reducible refine at_load (.tmp 20) ?_); refine wpList_load_rng 24 (.tmp 20) rfl w.heap.size (2) (R1) (X2.out) rfl _ Try.underlying24 rfl (hi1) rfl ?_)
        | ((with_reducible refine at_load (.tmp 22) ?_); refine wpList_load_rng 24 (.tmp 22) rfl (w.heap.size + 1) (2) (R2) (Y2.out) rfl _ Try.underlying24 rfl (hi2) rfl ?_)
        | ((with_reducible refine at_load (.tmp 27) ?_); refine wpList_load_1 22 (.tmp 27) rfl w.heap.size (0) (.int .u64 s1) (X0.out) rfl _ Try.underlying22 rfl rfl ?_)
        | ((with_reducible refine at_load (.tmp 29) ?_); refine wpList_load_1 22 (.tmp 29) rfl (w.heap.size + 1) (0) (.int .u64 s2) (Y0.out) rfl _ Try.underlying22 rfl rfl ?_)
        | ((with_reducible refine at_load (.tmp 33) ?_); refine wpList_load_1 22 (.tmp 33) rfl w.heap.size (1) (.int .u64 t1) (X1.out) rfl _ Try.underlying22 rfl rfl ?_)
        | ((with_reducible refine at_load (.tmp 35) ?_); refine wpList_load_1 22 (.tmp 35) rfl (w.heap.size + 1) (1) (.int .u64 t2) (Y1.out) rfl _ Try.underlying22 rfl rfl ?_)
        | ((with_reducible refine at_load (.tmp 39) ?_); refine wpList_load_1 22 (.tmp 39) rfl (w.heap.size + 1) (0) (.int .u64 s2) (Y0.out) rfl _ Try.underlying22 rfl rfl ?_)
        | ((with_reducible refine at_load (.tmp 41) ?_); refine wpList_load_1 22 (.tmp 41) rfl w.heap.size (0) (.int .u64 s1) (X0.out) rfl _ Try.underlying22 rfl rfl ?_)
        | ((with_reducible refine at_load (.tmp 45) ?_); refine wpList_load_1 22 (.tmp 45) rfl (w.heap.size + 1) (1) (.int .u64 t2) (Y1.out) rfl _ Try.underlying22 rfl rfl ?_)
        | ((with_reducible refine at_load (.tmp 47) ?_); refine wpList_load_1 22 (.tmp 47) rfl w.heap.size (1) (.int .u64 t1) (X1.out) rfl _ Try.underlying22 rfl rfl ?_)
        | fail)
      go_ret
      exact ⟨rfl, HBA.out⟩
end Go.Proofs.Ytlbhkgmlfapjgaa
