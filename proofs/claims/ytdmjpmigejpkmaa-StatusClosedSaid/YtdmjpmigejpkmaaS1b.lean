/- Stage 1: Sum and its reference, and the walk of UnitsSums. -/
import Derived.Test.YtdmjpmigejpkmaaS1a
set_option linter.unusedVariables false
namespace Go.Proofs.Ytdmjpmigejpkmaa
open Go.RowKit

def sumV (xs : List Int) : Int := if xs.sum ≤ 18446744073709551615 then xs.sum else 0

def sumE (xs : List Int) : Int := if xs.sum ≤ 18446744073709551615 then 0 else 4

theorem sum_lo {xs : List Int} (h : xs.sum ≤ 18446744073709551615) : sumV xs = xs.sum ∧ sumE xs = 0 := by unfold sumV sumE; rw [if_pos h, if_pos h]; exact ⟨rfl, rfl⟩

theorem sum_hi {xs : List Int} (h : 18446744073709551615 < xs.sum) : sumV xs = 0 ∧ sumE xs = 4 := by unfold sumV sumE; rw [if_neg (by omega), if_neg (by omega)]; exact ⟨rfl, rfl⟩

def Rng (xs : List Int) : Prop := ∀ x ∈ xs, 0 ≤ x ∧ x ≤ 18446744073709551615

theorem Rng.at {xs : List Int} (h : Rng xs) {k : Nat} (hk : k < xs.length) : 0 ≤ xs.getD k 0 ∧ xs.getD k 0 ≤ 18446744073709551615 := by
  have e : xs.getD k 0 = xs[k] := by simp [List.getD, hk]
  rw [e]; exact h _ (List.getElem_mem hk)

theorem Rng.sum_bd {xs : List Int} (h : Rng xs) (k : Nat) : 0 ≤ (xs.take k).sum ∧ (xs.take k).sum ≤ xs.sum :=
  ⟨sum_nonneg (fun x hx => (h x (List.mem_of_mem_take hx)).1), take_sum_le (fun x hx => (h x hx).1) k⟩

theorem tup_lit {k l : IntKind} {a b c d : Int} (h : b = a) (h' : d = c) : Ending.returned (.tuple #[.int k a, .int l c]) = .returned (.tuple #[.int k b, .int l d]) := by rw [h, h']

theorem sum_rev (xs : List Int) : xs.reverse.sum = xs.sum := by
  induction xs with
  | nil => rfl
  | cons x r ih => rw [List.reverse_cons, List.sum_append, ih, List.sum_cons, List.sum_cons]; simp; omega

theorem info22 : (Try.prog.info? 29).map (fun i => (i.zero, i.size, i.bytes)) = some (some (.int .u64 0), 1, 8) := by kernel_rfl

theorem rev_step {xs : List Int} {k : Nat} (hk : k < xs.length) : (xs.drop (xs.length - k)).reverse ++ [xs.getD (xs.length - 1 - k) 0] = (xs.drop (xs.length - (k + 1))).reverse := by
  have e : xs.length - (k + 1) = xs.length - 1 - k := by omega
  rw [e, List.drop_eq_getElem_cons (i := xs.length - 1 - k) (by omega), List.reverse_cons]
  have e2 : xs.length - 1 - k + 1 = xs.length - k := by omega
  rw [e2]
  congr 2
  simp [List.getD, List.getElem?_eq_getElem (show xs.length - 1 - k < xs.length by omega)]
end Go.Proofs.Ytdmjpmigejpkmaa
