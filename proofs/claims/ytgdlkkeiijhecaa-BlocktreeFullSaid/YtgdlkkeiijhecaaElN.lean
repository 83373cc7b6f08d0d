/- A slice of structs or arrays, written out: any number of them; a slice of roots. -/
import Derived.Test.YtgdlkkeiijhecaaWeA
set_option linter.unusedVariables false

set_option linter.unusedSimpArgs false
namespace Go.Proofs.Ytgdlkkeiijhecaa
open Go.RowKit

set_option maxRecDepth 100000

def prtN (n : Nat) (Xs : List (Array Value)) : List (Nat × Value) := (Xs.zipIdx n).map fun p => (p.2, Value.agg p.1)

theorem fillN {sz : Nat} : ∀ (Xs : List (Array Value)) (n : Nat) (D R : List Value), (∀ X ∈ Xs, X.size = sz) → D.length = n * sz → R.length = Xs.length * sz →
    Instr.fill (fun i => some (i * sz, sz)) (D ++ R).toArray (prtN n Xs) = some (D ++ rowsL Xs).toArray
  | [], n, D, R, _, hD, hR => by
    have : R = [] := List.eq_nil_of_length_eq_zero (by simpa using hR)
    subst this
    simp [prtN, Instr.fill, rowsL]
  | X :: Xs, n, D, R, hX, hD, hR => by
    have h1 : X.size = sz := hX X (by simp)
    have hs : (Value.agg X).cells.size = sz := h1
    show Instr.fill _ _ ((n, Value.agg X) :: prtN (n + 1) Xs) = _
    have hR' : R.length = Xs.length * sz + sz := by rw [hR, List.length_cons, Nat.add_mul, Nat.one_mul]
    rw [fill_step (by rw [hD, hs]) (by rw [hs, hR']; omega)]
    have e : (Value.agg X).cells.toList = X.toList := rfl
    rw [e, hs, fillN Xs (n + 1) (D ++ X.toList) (R.drop sz) (fun Y hY => hX Y (by simp [hY])) (by rw [List.length_append, hD, Array.length_toList, h1, Nat.add_mul, Nat.one_mul]) (by rw [List.length_drop, hR']; omega)]
    simp [rowsL]

theorem buildElN {P : Program} {t e : TypeId} {Z : Array Value} {sz : Nat} (ht : P.underlying t = some (.slice e)) (hz : ∀ w, (zeroValue e).run P w = .ok (.agg Z) w) (hi : (P.info? e).map (·.size) = some sz) (h0 : 0 < sz) (Xs : List (Array Value)) (hX : ∀ X ∈ Xs, X.size = sz) (hn : 0 < Xs.length) (h24 : Xs.length * sz ≤ 16777216) (u : World) :
    (Instr.buildSlice t Xs.length (prtN 0 Xs).toArray).run P u = .ok (.slice (some ⟨u.heap.size, 0, none⟩) Xs.length Xs.length) (u.alloc (.cells (rowsL Xs).toArray e)) := by
  obtain ⟨i, hi1, hi2⟩ : ∃ i, P.info? e = some i ∧ i.size = sz := by
    cases h : P.info? e with
    | none => simp [h] at hi
    | some i => exact ⟨i, rfl, by simpa [h] using hi⟩
  have hso : ∀ w, (sizeOf e).run P w = .ok sz w := fun w => by simp [sizeOf, typeInfo, hi1, hi2]
  have hp : 0 < Xs.length * sz := Nat.mul_pos hn h0
  have hf : Instr.fill (fun i => some (i * sz, sz)) ((Array.range (Xs.length * sz)).map (Z[· % Z.size]!)) (prtN 0 Xs) = some (rowsL Xs).toArray := by
    have h := fillN (sz := sz) Xs 0 [] ((Array.range (Xs.length * sz)).map (Z[· % Z.size]!)).toList hX (by simp) (by simp)
    rw [List.nil_append, List.nil_append, Array.toArray_toList] at h
    exact h
  unfold Instr.buildSlice
  simp only [Sem.run_bind, run_underlying ht, Result.andThen_ok, hso]
  rw [if_neg (by omega), if_neg (by omega)]
  simp only [Sem.run_bind, Sem.run_pure, hz, Result.andThen_ok, Value.cells, hf]
  simp [go_sem]

/-- Roots. -/
def rtX (rs : List (List Int)) : List (Array Value) := rs.map fun r => (bytesL r).toArray

theorem new_roots {rs : List (List Int)} (hr : ∀ r ∈ rs, IsBytes 32 r) (hm : rs.length ≤ 1000) (u : World) : RootsV (u.alloc (.cells (rowsL (rtX rs)).toArray 34)) (.slice (some ⟨u.heap.size, 0, none⟩) rs.length rs.length) rs := by
  have hB : Blk (u.alloc (.cells (rowsL (rtX rs)).toArray 34)) u.heap.size (rowsL (rtX rs)).toArray := Blk.new rfl
  refine ⟨_, _, rfl, by unfold maxLen; omega, .inr ⟨u.heap.size, 0, rfl, hB.lt, rtX rs, ?_, by simp [rtX], ?_⟩⟩
  · have := hB.range; simpa using this
  · intro p hp
    obtain ⟨i, hi, rfl⟩ := List.mem_iff_getElem.1 hp
    simp only [List.length_zip, rtX, List.length_map] at hi
    simp only [List.getElem_zip, rtX, List.getElem_map]
    exact ⟨rfl, hr _ (List.getElem_mem _)⟩

/-- A part of a slice of roots. -/
theorem RootsV.slTake {w : World} {a : Option Addr} {l cap k : Nat} {rs : List (List Int)} (h : RootsV w (.slice a l cap) rs) (hk : k ≤ rs.length) : RootsV w (.slice a k cap) (rs.take k) := by
  obtain ⟨a', c', e, hl, hr⟩ := h
  cases e
  refine ⟨a, cap, by rw [List.length_take, Nat.min_eq_left hk], by rw [List.length_take]; omega, ?_⟩
  rcases hr with h0 | ⟨b, off, rfl, hlt, Xs, h1, h2⟩
  · exact .inl (by rw [List.length_take]; omega)
  · have hXl : Xs.length = rs.length := h2.1
    refine .inr ⟨b, off, rfl, hlt, Xs.take k, fun j v hj => h1 j v ?_, by rw [List.length_take, List.length_take, hXl], fun p hp => h2.2 p ?_⟩
    · have e : rowsL Xs = rowsL (Xs.take k) ++ rowsL (Xs.drop k) := by
        simp only [rowsL]; rw [← List.flatten_append, ← List.map_append, List.take_append_drop]
      rw [e, List.getElem?_append_left (List.getElem?_eq_some_iff.1 hj).1]; exact hj
    · obtain ⟨i, hi, rfl⟩ := List.mem_iff_getElem.1 hp
      simp only [List.length_zip, List.length_take] at hi
      simp only [List.getElem_zip, List.getElem_take]
      exact List.mem_iff_getElem.2 ⟨i, by rw [List.length_zip]; omega, by simp⟩

theorem wpQuiet_slice {P : Program} {ops : Array Oper} {C : World → Prop} {Q : Act → Prop} {o : Oper} {rest : List Oper} {a : Act} (t : TypeId) (x : Operand) (lo hi mx : Option Operand) (ho : o.op = .slice t x lo hi mx)
    (xv : Value) (lv hv mv : Option Value) (hx : a.eval x = xv) (hl : lo.map a.eval = lv) (hh : hi.map a.eval = hv) (hm : mx.map a.eval = mv) (v : Value) (hC : ∀ u, (Instr.sliceAt t xv lv hv mv).run P u = .ok v u)
    (hw : Region.wanted o (yielded ops a.tmps) = true) (h : wpQuiet P ops C Q rest (a.put o.dst v)) : wpQuiet P ops C Q (o :: rest) a := by
  refine BigFrame.wpQuiet_want hw fun K hK => ⟨v, fun w hw' => ?_, hK _ h⟩
  unfold Oper.quietAt execOp
  simp only [ho, hx, hl, hh, hm, Sem.run_bind, hC w, Result.andThen_ok, Sem.run_pure]
  exact ⟨rfl, rfl⟩

theorem at_qslice {P : Program} {ops : Array Oper} {C : World → Prop} {Q : Act → Prop} (dst : Option Tmp) {t ty' : TypeId} {x : Operand} {lo hi mx : Option Operand} {pos : String} {aft : Array Edge} {g : Option (Nat × Bool)} {rest : List Oper} {a : Act}
    (h : wpQuiet P ops C Q (⟨dst, .slice t x lo hi mx, ty', pos, aft, g⟩ :: rest) a) : wpQuiet P ops C Q (⟨dst, .slice t x lo hi mx, ty', pos, aft, g⟩ :: rest) a := h
end Go.Proofs.Ytgdlkkeiijhecaa
