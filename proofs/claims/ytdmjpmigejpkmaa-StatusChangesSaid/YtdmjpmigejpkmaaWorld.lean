/- Blocks of memory that a walk keeps in view across calls, and regions that draw their order and hold calls that make new blocks. -/
import Derived.Test.YtdmjpmigejpkmaaBase
import Derived.BigQuiet
import Derived.Deep.QuietTactic
import Derived.LoopN
import Derived.Deep.RegionWith
import Derived.Deep.WholeRow
set_option linter.unusedVariables false
namespace Go.Proofs.Ytdmjpmigejpkmaa
open Go.RowKit

/-- Block b holds just these cells, and may be written. -/
def Blk (w : World) (b : Nat) (cs : Array Value) : Prop := ∃ t, w.heap[b]? = some (.cells cs t (0, 0))

theorem Blk.lt {w : World} {b : Nat} {cs : Array Value} (h : Blk w b cs) : b < w.heap.size := by
  obtain ⟨t, h⟩ := h
  exact (Array.getElem?_eq_some_iff.1 h).1

theorem Blk.below {N : Nat} {w w' : World} {b : Nat} {cs : Array Value} (hb : Below N w w') (hN : b < N) (h : Blk w b cs) : Blk w' b cs := by
  obtain ⟨t, h⟩ := h
  exact ⟨t, by rw [hb.block b hN]; exact h⟩

/-- .. behind a call. -/
theorem Blk.call {w w' : World} {b : Nat} {cs : Array Value} (hb : Below w.heap.size w w') (h : Blk w b cs) : Blk w' b cs := h.below hb h.lt

theorem Blk.new {w : World} {n : Nat} {cs : Array Value} {t : TypeId} (h : n = w.heap.size) : Blk (w.alloc (.cells cs t)) n cs := by
  subst h
  refine ⟨t, ?_⟩
  show (w.heap.push _)[w.heap.size]? = _
  simp

theorem Blk.alloc {w : World} {b : Nat} {cs : Array Value} (h : Blk w b cs) (o : Obj) : Blk (w.alloc o) b cs := by
  have := h.lt
  obtain ⟨t, h⟩ := h
  exact ⟨t, by rw [Below.heap_alloc _ _ _ this]; exact h⟩

theorem Blk.drewN {w : World} {b : Nat} {cs : Array Value} {n : Nat} (h : Blk w b cs) : Blk (w.drewN n) b cs := h

theorem Blk.cell {w : World} {b : Nat} {cs : Array Value} (h : Blk w b cs) (j : Nat) : w.cell? ⟨b, j, none⟩ = cs[j]? := by
  obtain ⟨t, h⟩ := h
  simp [World.cell?, h]

theorem Blk.free {w : World} {b : Nat} {cs : Array Value} (h : Blk w b cs) (j : Nat) : w.frozen? ⟨b, j, none⟩ = false := by
  obtain ⟨t, h⟩ := h
  simp [World.frozen?, h]

/-- The facts that a walk wants of an array of four. -/
theorem Blk.four {w : World} {b : Nat} {x0 x1 x2 x3 : Value} (h : Blk w b #[x0, x1, x2, x3]) :
    w.cell? ⟨b, 0, none⟩ = some x0 ∧ w.cell? ⟨b, 1, none⟩ = some x1 ∧ w.cell? ⟨b, 2, none⟩ = some x2 ∧ w.cell? ⟨b, 3, none⟩ = some x3 ∧ ∀ j, w.frozen? ⟨b, j, none⟩ = false :=
  ⟨h.cell 0, h.cell 1, h.cell 2, h.cell 3, h.free⟩

/-- A store into a block. -/
theorem Blk.setCell {w : World} {b j : Nat} {cs : Array Value} {v : Value} (h : Blk w b cs) : Blk (w.setCell ⟨b, j, none⟩ v) b (cs.setIfInBounds j v) := by
  obtain ⟨t, h⟩ := h
  refine ⟨t, ?_⟩
  simp [World.setCell, Array.getElem?_modify, h]

theorem Blk.setCell_other {w : World} {b b' j : Nat} {cs : Array Value} {v : Value} (h : Blk w b cs) (hne : b ≠ b') : Blk (w.setCell ⟨b', j, none⟩ v) b cs := by
  obtain ⟨t, h⟩ := h
  exact ⟨t, by rw [Below.heap_setCell _ _ _ _ hne]; exact h⟩

theorem Blk.store4 {w : World} {b : Nat} {a0 a1 a2 a3 v0 v1 v2 v3 : Value} (h : Blk w b #[a0, a1, a2, a3]) :
    Blk ((((w.setCell ⟨b, 0, none⟩ v0).setCell ⟨b, 1, none⟩ v1).setCell ⟨b, 2, none⟩ v2).setCell ⟨b, 3, none⟩ v3) b #[v0, v1, v2, v3] := by
  have := (((h.setCell (j := 0) (v := v0)).setCell (j := 1) (v := v1)).setCell (j := 2) (v := v2)).setCell (j := 3) (v := v3)
  simpa using this

theorem Blk.store4_other {w : World} {b b' : Nat} {cs : Array Value} {v0 v1 v2 v3 : Value} (h : Blk w b cs) (hne : b ≠ b') :
    Blk ((((w.setCell ⟨b', 0, none⟩ v0).setCell ⟨b', 1, none⟩ v1).setCell ⟨b', 2, none⟩ v2).setCell ⟨b', 3, none⟩ v3) b cs :=
  (((h.setCell_other hne).setCell_other hne).setCell_other hne).setCell_other hne

theorem below_store4 {N : Nat} {w0 w : World} {b : Nat} {v0 v1 v2 v3 : Value} (h : Below N w0 w) (hN : N ≤ b) :
    Below N w0 ((((w.setCell ⟨b, 0, none⟩ v0).setCell ⟨b, 1, none⟩ v1).setCell ⟨b, 2, none⟩ v2).setCell ⟨b, 3, none⟩ v3) :=
  (((h.setCell hN _).setCell hN _).setCell hN _).setCell hN _

theorem size_store4 (w : World) (b : Nat) (v0 v1 v2 v3 : Value) :
    ((((w.setCell ⟨b, 0, none⟩ v0).setCell ⟨b, 1, none⟩ v1).setCell ⟨b, 2, none⟩ v2).setCell ⟨b, 3, none⟩ v3).heap.size = w.heap.size := by
  simp [World.setCell]

/-- A long array's zero value, and its store into the block that has just been made for it, as a walk asks them. -/
theorem zero_array {P : Program} {t : TypeId} {n : Nat} (Z : Array Value) (hz : (P.info? t).map (fun i => (i.zero, i.size)) = some (some (.agg Z), n)) (hs : Z.size = n) (h1 : Z.all (·.oneCell') = true) :
    (∀ w, Sem.run P (zeroValue t) w = .ok (.agg Z) w) ∧ ∀ (u : World) (b : Nat), b = u.heap.size → Sem.run P (storeCells ⟨b, 0, none⟩ Z.toList 0) (u.alloc (.cells Z t)) = .ok () (u.alloc (.cells Z t)) := by
  have h := zero_of_info hz
  refine ⟨h.1, fun u b hb => ?_⟩
  subst hb
  exact run_storeCells_new u t Z Z (by rw [h.2, hs]) rfl h1
/-! ### A region that draws its order, whose operations read and whose calls may make new blocks: the class of the worlds that keep what was there -/

theorem fam (N : Nat) (w : World) : ∃ (T : Type) (F : T → World), Nonempty T ∧ (∀ t, Below N w (F t)) ∧ ∀ w', Below N w w' → ∃ t, w' = F t :=
  ⟨{w' // Below N w w'}, Subtype.val, ⟨⟨w, Below.refl _ _⟩⟩, fun t => t.2, fun w' h => ⟨⟨w', h⟩, rfl⟩⟩

theorem wp_region_fam {P : Program} {id : Nat} {Q : Exit → Act → World → Prop} {a : Act} {w : World} {l : List Oper} {T : Type} {F : T → World} {N : Nat}
    (hG : ∀ w', Below N w w' → ∃ t, w' = F t) (hm : P.follows .mixedOrders = true) (hB : Region.lexB .any l.toArray = true)
    (h : wpQuiet P l.toArray (fun w' => ∃ t, w' = F t) (fun a' => ∀ w', (∃ t, w' = F t) → Q .normal a' w') l a) : (Code.region id l.toArray true).wp P Q a w :=
  wp_region_quiet (C := fun w' => ∃ t, w' = F t) hm hB (hG _ ⟨rfl, rfl, rfl, Nat.le_refl _, fun _ _ => rfl⟩) (by simpa using h)

/-- A callee's contract in such a world. -/
theorem fam_call {P : Program} {f : FuncId} {args : Array Value} {v : Value} {w : World} {T : Type} {F : T → World} {N : Nat} {t : T} (hF : ∀ t, Below N w (F t)) (hG : ∀ w', Below N w w' → ∃ t, w' = F t) (hN : N ≤ w.heap.size)
    (h : Calls P f args (F t) fun e w'' => e = .returned v ∧ Below (F t).heap.size (F t) w'') : Calls P f args (F t) fun e w'' => e = .returned v ∧ ∃ t', w'' = F t' :=
  h.mono fun _ _ ⟨he, hb⟩ => ⟨he, hG _ ((hF t).trans (hb.mono (Nat.le_trans hN (hF t).size)))⟩

theorem Below.same_world {N : Nat} {w w' : World} (h : w = w') : Below N w w' := h ▸ Below.refl _ _

theorem Below.drewN {N n : Nat} {a w : World} (h : Below N a w) : Below N a (w.drewN n) := ⟨h.os, h.tape, h.output, h.size, h.block⟩
end Go.Proofs.Ytdmjpmigejpkmaa
