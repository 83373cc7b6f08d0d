/- A slice of structs or arrays, written out: any number of them. (Moved out of ElN.) -/
import Derived.Test.YtdbkphkgjaecoaaEls
set_option linter.unusedVariables false

set_option linter.unusedSimpArgs false
namespace Go.Proofs.Ytdbkphkgjaecoaa
open Go.RowKit

set_option maxRecDepth 100000

def prtN (n : Nat) (Xs : List (Array Value)) : List (Nat × Value) := (Xs.zipIdx n).map fun p => (p.2, Value.agg p.1)

theorem fillN {sz : Nat} : ∀ (Xs : List (Array Value)) (n : Nat) (D R : List Value), (∀ X ∈ Xs, X.size = sz) → D.length = n * sz → R.length = Xs.length * sz →
    Instr.fill (fun i => some (i * sz, sz)) (D ++ R).toArray (prtN n Xs) = some (D ++ rowsL Xs).toArray
  | [], n, D, R, _, hD, hR => by
    have : R = [] := List.eq_nil_of_length_eq_zero (by simpa using hR)
    subst this
    simp [prtN, Instr.fill, rowsL]
  | X :: Xs, n, D, R, hX, hD, hR => by
    have h1 : X.size = sz := hX X (by simp)
    have hs : (Value.agg X).cells.size = sz := h1
    show Instr.fill _ _ ((n, Value.agg X) :: prtN (n + 1) Xs) = _
    have hR' : R.length = Xs.length * sz + sz := by rw [hR, List.length_cons, Nat.add_mul, Nat.one_mul]
    rw [fill_step (by rw [hD, hs]) (by rw [hs, hR']; omega)]
    have e : (Value.agg X).cells.toList = X.toList := rfl
    rw [e, hs, fillN Xs (n + 1) (D ++ X.toList) (R.drop sz) (fun Y hY => hX Y (by simp [hY])) (by rw [List.length_append, hD, Array.length_toList, h1, Nat.add_mul, Nat.one_mul]) (by rw [List.length_drop, hR']; omega)]
    simp [rowsL]

theorem buildElN {P : Program} {t e : TypeId} {Z : Array Value} {sz : Nat} (ht : P.underlying t = some (.slice e)) (hz : ∀ w, (zeroValue e).run P w = .ok (.agg Z) w) (hi : (P.info? e).map (·.size) = some sz) (h0 : 0 < sz) (Xs : List (Array Value)) (hX : ∀ X ∈ Xs, X.size = sz) (hn : 0 < Xs.length) (h24 : Xs.length * sz ≤ 16777216) (u : World) :
    (Instr.buildSlice t Xs.length (prtN 0 Xs).toArray).run P u = .ok (.slice (some ⟨u.heap.size, 0, none⟩) Xs.length Xs.length) (u.alloc (.cells (rowsL Xs).toArray e)) := by
  obtain ⟨i, hi1, hi2⟩ : ∃ i, P.info? e = some i ∧ i.size = sz := by
    cases h : P.info? e with
    | none => simp [h] at hi
    | some i => exact ⟨i, rfl, by simpa [h] using hi⟩
  have hso : ∀ w, (sizeOf e).run P w = .ok sz w := fun w => by simp [sizeOf, typeInfo, hi1, hi2]
  have hp : 0 < Xs.length * sz := Nat.mul_pos hn h0
  have hf : Instr.fill (fun i => some (i * sz, sz)) ((Array.range (Xs.length * sz)).map (Z[· % Z.size]!)) (prtN 0 Xs) = some (rowsL Xs).toArray := by
    have h := fillN (sz := sz) Xs 0 [] ((Array.range (Xs.length * sz)).map (Z[· % Z.size]!)).toList hX (by simp) (by simp)
    rw [List.nil_append, List.nil_append, Array.toArray_toList] at h
    exact h
  unfold Instr.buildSlice
  simp only [Sem.run_bind, run_underlying ht, Result.andThen_ok, hso]
  rw [if_neg (by omega), if_neg (by omega)]
  simp only [Sem.run_bind, Sem.run_pure, hz, Result.andThen_ok, Value.cells, hf]
  simp [go_sem]
end Go.Proofs.Ytdbkphkgjaecoaa
