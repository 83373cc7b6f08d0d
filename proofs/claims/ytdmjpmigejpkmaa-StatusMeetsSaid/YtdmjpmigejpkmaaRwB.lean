/- A row of structs in a block that may be written: loads, cells and stores of one element, whatever its type. -/
import Derived.Test.YtdmjpmigejpkmaaEls
import Derived.Test.YtdmjpmigejpkmaaRt
import Derived.Test.YtdmjpmigejpkmaaVa
set_option linter.unusedVariables false

set_option linter.unusedSimpArgs false
namespace Go.Proofs.Ytdmjpmigejpkmaa
open Go.RowKit

set_option maxRecDepth 100000

/-- The row in block g begins with these elements; behind them lies what may. -/
def RowB (w : World) (g : Nat) (Ls : List (List Value)) : Prop := ∃ sp, Blk w g (flatP (Ls ++ [sp]))

theorem flat_len {sz : Nat} {Ls : List (List Value)} (h : ∀ L ∈ Ls, L.length = sz) : Ls.flatten.length = Ls.length * sz := by
  induction Ls with
  | nil => simp
  | cons L r ih =>
    have h1 := h L (by simp)
    have h2 := ih fun Y hY => h Y (by simp [hY])
    rw [List.flatten_cons, List.length_append, h1, h2, List.length_cons, Nat.add_mul]; omega

theorem offP_row {sz : Nat} {Ls : List (List Value)} (h : ∀ L ∈ Ls, L.length = sz) (sp : List Value) {k : Nat} (hk : k < Ls.length) : offP (Ls ++ [sp]) k = k * sz := by
  unfold offP
  rw [List.take_append_of_le_length (by omega), flat_len fun L hL => h L (List.mem_of_mem_take hL), List.length_take, Nat.min_eq_left (by omega)]

theorem RowB.lt {w : World} {g : Nat} {Ls : List (List Value)} (h : RowB w g Ls) : g < w.heap.size := by obtain ⟨sp, h⟩ := h; exact h.lt

theorem RowB.call {w w' : World} {g : Nat} {Ls : List (List Value)} (h : RowB w g Ls) (hb : Below w.heap.size w w') : RowB w' g Ls := by obtain ⟨sp, h⟩ := h; exact ⟨sp, h.call hb⟩

theorem RowB.grown {w w' : World} {g : Nat} {Ls : List (List Value)} {row : Option Nat} (h : RowB w g Ls) (hg : w.grownBy w' row) (hne : some g ≠ row) : RowB w' g Ls := by obtain ⟨sp, h⟩ := h; exact ⟨sp, h.grown hg hne⟩

theorem RowB.upd {w w' : World} {g g' : Nat} {Ls : List (List Value)} (h : RowB w g Ls) (hu : Upd g' w w') (hne : g ≠ g') : RowB w' g Ls := by obtain ⟨sp, h⟩ := h; exact ⟨sp, hu.blk h hne⟩

theorem RowB.free {w : World} {g : Nat} {Ls : List (List Value)} (h : RowB w g Ls) (j : Nat) : w.frozen? ⟨g, j, none⟩ = false := by obtain ⟨sp, h⟩ := h; exact h.free j

/-- Element k. -/
theorem RowB.elem {w : World} {g sz : Nat} {Ls : List (List Value)} (h : RowB w g Ls) (hs : ∀ L ∈ Ls, L.length = sz) {k : Nat} {L : List Value} (hk : Ls[k]? = some L) : w.rangeAt g (k * sz) L := by
  obtain ⟨sp, h⟩ := h
  have hl := (List.getElem?_eq_some_iff.1 hk).1
  have := h.part (k := k) (p := L) (by rw [List.getElem?_append_left hl]; exact hk)
  rw [offP_row hs sp hl] at this
  exact this

/-- Cell j of element k. -/
theorem RowB.cell {w : World} {g sz : Nat} {Ls : List (List Value)} (h : RowB w g Ls) (hs : ∀ L ∈ Ls, L.length = sz) {k j : Nat} {L : List Value} {v : Value} (hk : Ls[k]? = some L) (hj : L[j]? = some v) : w.cell? ⟨g, k * sz + j, none⟩ = some v := h.elem hs hk j v hj

theorem RowB.there {w : World} {g sz : Nat} {Ls : List (List Value)} (h : RowB w g Ls) (hs : ∀ L ∈ Ls, L.length = sz) {k : Nat} (hk : k < Ls.length) : w.there g (k * sz) sz := by
  obtain ⟨sp, h⟩ := h
  have := h.partThere (k := k) (p := Ls[k]) (by rw [List.getElem?_append_left hk, List.getElem?_eq_getElem hk])
  rw [offP_row hs sp hk, hs _ (List.getElem_mem hk)] at this
  exact this

/-- All of it. -/
theorem RowB.range {w : World} {g : Nat} {Ls : List (List Value)} (h : RowB w g Ls) : w.rangeAt g 0 Ls.flatten := fun j v hj => by
  obtain ⟨sp, h⟩ := h
  have hl := (List.getElem?_eq_some_iff.1 hj).1
  rw [Nat.zero_add, h.cell]
  unfold flatP
  rw [List.getElem?_toArray, List.flatten_append, List.getElem?_append_left hl]
  exact hj

/-- Element k is written. -/
theorem RowB.set {w : World} {g sz : Nat} {Ls : List (List Value)} (h : RowB w g Ls) (hs : ∀ L ∈ Ls, L.length = sz) {k : Nat} {q : List Value} (hk : k < Ls.length) (hq : q.length = sz) :
    Upd g w (w.setCells g (k * sz) q) ∧ RowB (w.setCells g (k * sz) q) g (Ls.set k q) := by
  obtain ⟨sp, h⟩ := h
  have := h.setPart (k := k) (p := Ls[k]) (q := q) (by rw [List.getElem?_append_left hk, List.getElem?_eq_getElem hk]) (by rw [hq, hs _ (List.getElem_mem hk)])
  rw [offP_row hs sp hk] at this
  exact ⟨this.1, sp, by rw [← List.set_append_left _ _ hk]; exact this.2⟩

/-- .. by an operation of a region, and of a walk. -/
theorem wp_store_row {P : Program} {op : Oper} {a : Act} {w : World} {K : Act → World → Prop} {Q : Exit → Act → World → Prop} (ty : TypeId) (x y : Operand) (ho : op.op = .store ty x y)
    (g sz k : Nat) (Ls : List (List Value)) (q : List Value) (hB : RowB w g Ls) (hs : ∀ L ∈ Ls, L.length = sz) (hk : k < Ls.length) (hx : a.eval x = .pointer (some ⟨g, k * sz, none⟩)) (hy : a.eval y = .agg q.toArray)
    (hq : q.length = sz) (hi : (P.info? ty).map (·.size) = some sz) (h1 : ∀ v ∈ q, v.oneCell' = true)
    (h : ∀ w', Upd g w w' → RowB w' g (Ls.set k q) → K (a.put op.dst undef) w') : op.wp P a w K Q := by
  have hth : w.there g (k * sz) q.toArray.size := by rw [List.size_toArray, hq]; exact hB.there hs hk
  refine wp_store_mid ty x y ho g (k * sz) q.toArray hx hy hth (by simpa [hq] using hi) (all_oneCell_toArray h1) ?_
  obtain ⟨u, v⟩ := hB.set hs hk hq
  exact h _ u v

theorem wpList_store_row {P : Program} {ops : Array Oper} {rest : List Oper} {op : Oper} {a : Act} {w : World} {Q : Exit → Act → World → Prop} (hgd : op.guard = none) (ty : TypeId) (x y : Operand) (ho : op.op = .store ty x y)
    (g sz k : Nat) (Ls : List (List Value)) (q : List Value) (hB : RowB w g Ls) (hs : ∀ L ∈ Ls, L.length = sz) (hk : k < Ls.length) (hx : a.eval x = .pointer (some ⟨g, k * sz, none⟩)) (hy : a.eval y = .agg q.toArray)
    (hq : q.length = sz) (hi : (P.info? ty).map (·.size) = some sz) (h1 : ∀ v ∈ q, v.oneCell' = true)
    (h : ∀ w', Upd g w w' → RowB w' g (Ls.set k q) → wpList P ops Q rest (a.put op.dst undef) w') : wpList P ops Q (op :: rest) a w := by
  refine wpList_plain hgd fun K hK => ?_
  exact wp_store_row ty x y ho g sz k Ls q hB hs hk hx hy hq hi h1 (fun w' u v => hK _ _ (h w' u v))

/-- An element's load in a walk, from its cells. -/
theorem wpList_load_at {P : Program} {ops : Array Oper} {rest : List Oper} {op : Oper} {a : Act} {w : World} {Q : Exit → Act → World → Prop} (ty : TypeId) (x : Operand) (ho : op.op = .load ty x)
    (b o : Nat) (hx : a.eval x = .pointer (some ⟨b, o, none⟩)) (p : List Value) (hr : w.rangeAt b o p) (d : TypeDesc)
    (hu : P.underlying ty = some d) (hd : d.isRow = true) (hi : (P.info? ty).map (·.size) = some p.length) (hw : Region.wanted op (yielded ops a.tmps) = true)
    (h : wpList P ops Q rest (a.put op.dst (.agg p.toArray)) w) : wpList P ops Q (op :: rest) a w :=
  BigFrame.wpList_want hw fun _ hK => wp_load_mid ty x ho b o hx p d hr hu hd hi (hK _ _ h)

theorem made_flat (Z : List Value) (n : Nat) : madeCells Z.toArray (n * Z.length) = flatP (List.replicate n Z) := by
  have hs : ∀ L ∈ List.replicate n Z, L.length = Z.length := fun L hL => by rw [List.eq_of_mem_replicate hL]
  apply Array.ext_getElem?
  intro i
  have ef : (flatP (List.replicate n Z))[i]? = (List.replicate n Z).flatten[i]? := by unfold flatP; rw [List.getElem?_toArray]
  rw [ef]
  have hlen : (List.replicate n Z).flatten.length = n * Z.length := by rw [flat_len hs, List.length_replicate]
  by_cases hi : i < n * Z.length
  · have hz : 0 < Z.length := Nat.pos_of_ne_zero fun e => by rw [e] at hi; simp at hi
    have hd : i / Z.length < n := (Nat.div_lt_iff_lt_mul hz).2 hi
    have hm : i % Z.length < Z.length := Nat.mod_lt _ hz
    have e1 : (madeCells Z.toArray (n * Z.length))[i]? = some Z[i % Z.length] := by
      simp [madeCells, hi, getElem!_pos, hm]
    have e2 : (List.replicate n Z).flatten[i]? = Z[i % Z.length]? := by
      have hsp := flatP_split (ps := List.replicate n Z) (k := i / Z.length) (p := Z) (by rw [List.getElem?_replicate, if_pos hd])
      rw [hsp, List.getElem?_append_right (by
        rw [List.take_replicate, flat_len (sz := Z.length) (fun L hL => by rw [List.eq_of_mem_replicate hL]), List.length_replicate, Nat.min_eq_left (by omega)]
        exact Nat.div_mul_le_self _ _)]
      rw [List.take_replicate, flat_len (sz := Z.length) (fun L hL => by rw [List.eq_of_mem_replicate hL]), List.length_replicate, Nat.min_eq_left (by omega)]
      have hdm := Nat.div_add_mod i Z.length
      rw [Nat.mul_comm] at hdm
      rw [show i - i / Z.length * Z.length = i % Z.length by omega, List.getElem?_append_left hm]
    rw [e1, e2, List.getElem?_eq_getElem hm]
  · rw [Array.getElem?_eq_none (by rw [size_madeCells]; omega), List.getElem?_eq_none (by omega)]

/-- 'make([]T, n)' of structs. -/
theorem wpList_make_els {ops : Array Oper} {rest : List Oper} {o : Oper} {a : Act} {w : World} {Q : Exit → Act → World → Prop} (hg : o.guard = none) (l : Operand) (t e : TypeId) (hop : o.op = Op.makeSlice t l l) (Z : List Value) (bytes : Nat)
    (hu : Try.prog.underlying t = some (.slice e)) (hi : (Try.prog.info? e).map (fun i => (i.zero, i.size, i.bytes)) = some (some (.agg Z.toArray), Z.length, bytes)) (kl : IntKind) (n : Nat) (hl : a.eval l = .int kl (n : Int)) (hb : bytes * n ≤ 281474976710656) (hn : n ≤ 1000000)
    (hK : ∀ w', w.grownBy w' none → w'.heap.size = w.heap.size + 1 → RowB w' w.heap.size (List.replicate n Z) → wpList Try.prog ops Q rest (a.put o.dst (.slice (some ⟨w.heap.size, 0, none⟩) n n)) w') : wpList Try.prog ops Q (o :: rest) a w := by
  obtain ⟨i0, hi0, hz0, hz1, hz2⟩ := info_parts hi
  refine wpList_plain hg fun _ hK' => ?_
  have hr := run_make (P := Try.prog) w t e i0 (.agg Z.toArray) hu hi0 hz0 kl kl n n (by omega) (by omega) (by rw [hz2, ← Int.natCast_mul]; omega) (by omega)
  simp only [Int.toNat_natCast, hz1] at hr
  have hm : madeCells (Value.agg Z.toArray).cells (n * Z.length) = flatP (List.replicate n Z) := made_flat Z n
  rw [hm] at hr
  unfold Oper.wp
  simp only [execOp, hop, hl, Sem.run_bind, hr, Result.andThen, Sem.run_pure]
  exact hK' _ _ (hK _ (World.grownBy_alloc _ _ _) (by simp) ⟨[], by
    have : flatP (List.replicate n Z ++ [[]]) = flatP (List.replicate n Z) := by simp [flatP]
    rw [this]; exact Blk.new rfl⟩)

theorem at_makeEl {P : Program} {ops : Array Oper} {Q : Exit → Act → World → Prop} {dst : Option Tmp} {t ty' : TypeId} (x : Operand) {y : Operand} {pos : String} {aft : Array Edge} {g : Option (Nat × Bool)} {rest : List Oper} {a : Act} {w : World}
    (h : wpList P ops Q (⟨dst, .makeSlice t x y, ty', pos, aft, g⟩ :: rest) a w) : wpList P ops Q (⟨dst, .makeSlice t x y, ty', pos, aft, g⟩ :: rest) a w := h

/-- A row of the call's own, as a row that may be written. -/
theorem OwnEl.rowB {α : Type} {sz : Nat} {El : (Value → Prop) → World → Array Value → α → Prop} (E : ElOK sz El) {enc : α → List Value} (hE : ∀ {P w X d}, El P w X d → X = (enc d).toArray) {e : TypeId} {w : World} {B g n cap : Nat} {ds : List α} (h : OwnEl El e sz w B (.slice (some ⟨g, 0, none⟩) n cap) ds) :
    RowB w g (ds.map enc) ∧ B ≤ g ∧ n = ds.length := by
  obtain ⟨Xs, h1, h2⟩ := h
  have hX : Xs = ds.map fun d => (enc d).toArray := by
    apply List.ext_getElem (by simp [h2.1])
    intro i hi hj
    have hid : i < ds.length := by simpa using hj
    rw [List.getElem_map]
    exact hE (h2.at hid)
  have hr : rowsL Xs = (ds.map enc).flatten := by rw [hX]; simp [rowsL, List.map_map, Function.comp_def]
  rcases h1.2 with ⟨e, _⟩ | ⟨g', cap', cur, e, hb, hg, _, _, hcs, ht⟩
  · cases e
  · cases e
    refine ⟨⟨cur.toList.drop (ds.length * sz), e, ?_⟩, hb, rfl⟩
    have : flatP (ds.map enc ++ [cur.toList.drop (ds.length * sz)]) = cur := by
      unfold flatP
      rw [List.flatten_append, ← hr, ← ht]
      simp
    rw [this]; exact hg
end Go.Proofs.Ytdmjpmigejpkmaa
