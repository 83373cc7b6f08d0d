/- A slice of two structs, written out. -/
import Derived.Test.YtlbhkgmlfapjgaaEls
set_option linter.unusedVariables false

set_option linter.unusedSimpArgs false
namespace Go.Proofs.Ytlbhkgmlfapjgaa
open Go.RowKit

theorem foldl_shift : ∀ (xs : List Value) (o n : Nat) (Z : Array Value), (xs.zipIdx n).foldl (fun cs x => cs.setIfInBounds (o + x.2) x.1) Z = (xs.zipIdx (o + n)).foldl (fun cs x => cs.setIfInBounds x.2 x.1) Z
  | [], _, _, _ => rfl
  | x :: xs, o, n, Z => by
    rw [List.zipIdx_cons, List.zipIdx_cons, List.foldl_cons, List.foldl_cons, foldl_shift xs o (n + 1), Nat.add_assoc]

theorem fold_two {X Y W : Array Value} {sz : Nat} (hX : X.size = sz) (hY : Y.size = sz) (hW : W.size = 2 * sz) :
    Array.foldl (fun cs x => cs.setIfInBounds (sz + x.2) x.1) (Array.foldl (fun cs x => cs.setIfInBounds x.2 x.1) W X.zipIdx 0 sz) Y.zipIdx 0 sz = X ++ Y ∧ (Array.foldl (fun cs x => cs.setIfInBounds x.2 x.1) W X.zipIdx 0 sz).size = 2 * sz := by
  have eX : Array.foldl (fun cs x => cs.setIfInBounds x.2 x.1) W X.zipIdx 0 sz = (X.toList.zipIdx 0).foldl (fun cs x => cs.setIfInBounds x.2 x.1) W := by
    have e : sz = X.zipIdx.size := by rw [Array.size_zipIdx, hX]
    rw [e, ← Array.foldl_toList, Array.toList_zipIdx]
  have eY : ∀ W' : Array Value, Array.foldl (fun cs x => cs.setIfInBounds (sz + x.2) x.1) W' Y.zipIdx 0 sz = (Y.toList.zipIdx sz).foldl (fun cs x => cs.setIfInBounds x.2 x.1) W' := fun W' => by
    have e : Array.foldl (fun cs x => cs.setIfInBounds (sz + x.2) x.1) W' Y.zipIdx 0 sz = Array.foldl (fun cs x => cs.setIfInBounds (sz + x.2) x.1) W' Y.zipIdx 0 Y.zipIdx.size := by rw [Array.size_zipIdx, hY]
    rw [e, ← Array.foldl_toList, Array.toList_zipIdx, foldl_shift]; rfl
  have hs : ∀ (l : List (Value × Nat)) (W' : Array Value), (l.foldl (fun cs x => cs.setIfInBounds x.2 x.1) W').size = W'.size := by
    intro l
    induction l with
    | nil => intro W'; rfl
    | cons x r ih => intro W'; rw [List.foldl_cons, ih]; simp
  have h1 : ((X.toList.zipIdx 0).foldl (fun cs x => cs.setIfInBounds x.2 x.1) W).size = 2 * sz := by rw [hs, hW]
  refine ⟨?_, by rw [eX, h1]⟩
  rw [eX, eY]
  apply Array.ext_getElem?
  intro i
  rw [foldl_laidE Y.toList sz _ i (by rw [h1, Array.length_toList]; omega), Array.length_toList, hY]
  by_cases c : sz ≤ i ∧ i < sz + sz
  · rw [if_pos c, Array.getElem?_append_right (by omega), hX]; simp
  · rw [if_neg c, foldl_laidE X.toList 0 W i (by rw [Array.length_toList]; omega), Array.length_toList, hX]
    by_cases c2 : i < sz
    · rw [if_pos (by omega), Array.getElem?_append_left (by omega)]; simp
    · rw [if_neg (by omega), Array.getElem?_eq_none (by omega), Array.getElem?_eq_none (by rw [Array.size_append]; omega)]

theorem buildEl2 {P : Program} {t e : TypeId} {Z X Y : Array Value} {sz : Nat} (ht : P.underlying t = some (.slice e)) (hz : ∀ w, (zeroValue e).run P w = .ok (.agg Z) w) (hi : (P.info? e).map (·.size) = some sz) (hZ : Z.size = sz) (hX : X.size = sz) (hY : Y.size = sz) (h0 : 0 < sz) (h24 : sz ≤ 8000000) (u : World) :
    (Instr.buildSlice t 2 #[(0, .agg X), (1, .agg Y)]).run P u = .ok (.slice (some ⟨u.heap.size, 0, none⟩) 2 2) (u.alloc (.cells (X ++ Y) e)) := by
  obtain ⟨i, hi1, hi2⟩ : ∃ i, P.info? e = some i ∧ i.size = sz := by
    cases h : P.info? e with
    | none => simp [h] at hi
    | some i => exact ⟨i, rfl, by simpa [h] using hi⟩
  have hso : ∀ w, (sizeOf e).run P w = .ok sz w := fun w => by simp [sizeOf, typeInfo, hi1, hi2]
  simp [Instr.buildSlice, Instr.fill, go_sem, hz, hX, hY, hZ, Value.cells, run_underlying ht, hso]
  obtain ⟨e1, e2⟩ := fold_two (W := Array.map (fun x => Z[x % sz]!) (Array.range (2 * sz))) hX hY (by simp)
  rw [if_neg (by omega), if_neg (by omega), if_neg (by omega), e1, e2, if_neg (by omega)]
  simp [go_sem]
end Go.Proofs.Ytlbhkgmlfapjgaa
