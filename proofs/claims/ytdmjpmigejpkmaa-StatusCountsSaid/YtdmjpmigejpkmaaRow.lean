/- A whole array out of and into a block that is known whole, in any world; what a store leaves. -/
import Derived.Test.YtdmjpmigejpkmaaWorld
import Derived.Test.YtdmjpmigejpkmaaEq
import Derived.Deep.MidRow
import Derived.OwnWalk
set_option linter.unusedVariables false
namespace Go.Proofs.Ytdmjpmigejpkmaa
open Go.RowKit

/-- w' is w but for what block g holds. -/
structure Upd (g : Nat) (w w' : World) : Prop where
  os : w'.os = w.os
  tape : w'.tape = w.tape
  output : w'.output = w.output
  size : w'.heap.size = w.heap.size
  block : ∀ b, b ≠ g → w'.heap[b]? = w.heap[b]?

theorem Upd.below {g N : Nat} {w0 w w' : World} (h : Upd g w w') (hb : Below N w0 w) (hg : N ≤ g) : Below N w0 w' :=
  hb.trans ⟨h.os, h.tape, h.output, by rw [h.size]; exact Nat.le_refl _, fun k hk => h.block k (by omega)⟩

theorem Upd.blk {g b : Nat} {w w' : World} {cs : Array Value} (h : Upd g w w') (hB : Blk w b cs) (hne : b ≠ g) : Blk w' b cs := by
  obtain ⟨t, hB⟩ := hB
  exact ⟨t, by rw [h.block b hne]; exact hB⟩

theorem Blk.range {w : World} {b : Nat} {cs : Array Value} (h : Blk w b cs) : w.rangeAt b 0 cs.toList := fun j v hv => by
  rw [Nat.zero_add, h.cell]
  simpa using hv

theorem Blk.isThere {w : World} {b : Nat} {cs : Array Value} (h : Blk w b cs) : w.there b 0 cs.size := fun j hj => by
  refine ⟨?_, h.free _⟩
  rw [Nat.zero_add, h.cell]
  simp [hj]

/-- The load of a whole variable. -/
theorem wpList_load_blk {P : Program} {ops : Array Oper} {rest : List Oper} {op : Oper} {a : Act} {w : World} {Q : Exit → Act → World → Prop} (hgd : op.guard = none) (ty : TypeId) (x : Operand) (ho : op.op = .load ty x)
    (b : Nat) (hx : a.eval x = .pointer (some ⟨b, 0, none⟩)) (cs : Array Value) (d : TypeDesc) (hB : Blk w b cs)
    (hu : P.underlying ty = some d) (hd : d.isRow = true) (hi : (P.info? ty).map (·.size) = some cs.size)
    (h : wpList P ops Q rest (a.put op.dst (.agg cs)) w) : wpList P ops Q (op :: rest) a w :=
  wpList_load_mid hgd ty x ho b 0 hx cs.toList d hB.range hu hd (by simpa using hi) (by simpa using h)

theorem setCells_blk {w : World} {b : Nat} : ∀ (vs : List Value) (o : Nat) (cs : Array Value), Blk w b cs → ∃ cs', Blk (w.setCells b o vs) b cs' ∧ cs'.size = cs.size ∧ Upd b w (w.setCells b o vs)
  | [], o, cs, h => ⟨cs, h, rfl, ⟨rfl, rfl, rfl, rfl, fun _ _ => rfl⟩⟩
  | v :: r, o, cs, h => by
    obtain ⟨cs', h1, h2, h3⟩ := setCells_blk (w := w.setCell ⟨b, o, none⟩ v) r (o + 1) (cs.setIfInBounds o v) h.setCell
    refine ⟨cs', h1, by simpa using h2, ⟨h3.os, h3.tape, h3.output, by rw [World.setCells, h3.size]; simp [World.setCell], fun k hk => ?_⟩⟩
    show (World.setCells (w.setCell ⟨b, o, none⟩ v) b (o + 1) r).heap[k]? = _
    rw [h3.block k hk, Below.heap_setCell _ _ _ _ hk]

/-- The store of a whole variable: the world behind it is a letter. -/
theorem wpList_store_blk {P : Program} {ops : Array Oper} {rest : List Oper} {op : Oper} {a : Act} {w : World} {Q : Exit → Act → World → Prop} (hgd : op.guard = none) (ty : TypeId) (x y : Operand) (ho : op.op = .store ty x y)
    (b : Nat) (cs' : Array Value) (hx : a.eval x = .pointer (some ⟨b, 0, none⟩)) (hy : a.eval y = .agg cs') (cs : Array Value) (hB : Blk w b cs)
    (hs : cs.size = cs'.size) (hi : (P.info? ty).map (·.size) = some cs'.size) (h1 : ∀ v ∈ cs', v.oneCell' = true)
    (h : ∀ w', Upd b w w' → Blk w' b cs' → wpList P ops Q rest (a.put op.dst undef) w') : wpList P ops Q (op :: rest) a w := by
  have hth : w.there b 0 cs'.size := by rw [← hs]; exact hB.isThere
  refine wpList_store_mid hgd ty x y ho b 0 cs' hx hy hth hi (Array.all_eq_true_iff_forall_mem.2 h1) ?_
  obtain ⟨c, h2, h3, h4⟩ := setCells_blk (w := w) (b := b) cs'.toList 0 cs hB
  refine h _ h4 ?_
  have hr := World.rangeAt_setCells_same w b 0 cs'.toList (by simpa using hth)
  have : c = cs' := by
    apply Array.ext_getElem?
    intro i
    by_cases hi : i < cs'.size
    · have := hr i cs'[i] (by simp [hi])
      rw [Nat.zero_add, h2.cell] at this
      rw [this]; simp [hi]
    · rw [Array.getElem?_eq_none (by omega), Array.getElem?_eq_none (by omega)]
  exact this ▸ h2

theorem Upd.alloc {g : Nat} {w w' : World} (h : Upd g w w') {b : Nat} {cs : Array Value} (hB : Blk w b cs) (hne : b ≠ g) : b < w'.heap.size := (h.blk hB hne).lt

theorem Blk.grown {w w' : World} {b : Nat} {cs : Array Value} {row : Option Nat} (h : Blk w b cs) (hg : w.grownBy w' row) (hne : some b ≠ row) : Blk w' b cs := by
  have := h.lt
  obtain ⟨t, h⟩ := h
  exact ⟨t, by rw [hg.block b this hne]; exact h⟩

/-- An operation that yields its value in whatever world. -/
theorem wpList_yields {P : Program} {ops : Array Oper} {rest : List Oper} {op : Oper} {a : Act} {w : World} {Q : Exit → Act → World → Prop} (hgd : op.guard = none) (v : Value)
    (hr : (execOp a.eval op).run P w = .ok (.value v) w) (h : wpList P ops Q rest (a.put op.dst v) w) : wpList P ops Q (op :: rest) a w :=
  wpList_plain hgd fun _ hK => by
    unfold Oper.wp
    rw [hr]
    exact hK _ _ h

theorem wpList_build {P : Program} {ops : Array Oper} {rest : List Oper} {op : Oper} {a : Act} {w : World} {Q : Exit → Act → World → Prop} (hgd : op.guard = none) (t : TypeId) (ps : Array (Nat × Operand)) (ho : op.op = .build t ps)
    (ps' : Array (Nat × Value)) (hps : ps.map (fun (i, x) => (i, a.eval x)) = ps') (v : Value) (hr : (Instr.build t ps').run P w = .ok v w) (h : wpList P ops Q rest (a.put op.dst v) w) : wpList P ops Q (op :: rest) a w :=
  wpList_yields hgd v (by
    unfold execOp
    simp only [ho, hps, Sem.run_bind, hr, Result.andThen_ok, Sem.run_pure]) h

/-- 32 bytes as cells. -/
def bytesV (xs : List Int) : Array Value := (xs.map (Value.int .u8)).toArray

theorem bytesV_size {n : Nat} {xs : List Int} (h : xs.length = n) : (bytesV xs).size = n := by simp [bytesV, h]

theorem bytesV_one (xs : List Int) : ∀ v ∈ bytesV xs, v.oneCell' = true := by
  intro v hv
  simp only [bytesV, List.mem_toArray, List.mem_map] at hv
  obtain ⟨x, _, rfl⟩ := hv
  rfl

theorem bytesV_at {xs : List Int} {i : Nat} (h : i < xs.length) : (bytesV xs)[i]? = some (.int .u8 (xs.getD i 0)) := by
  simp [bytesV, List.getD, List.getElem?_eq_getElem h]
end Go.Proofs.Ytdmjpmigejpkmaa
