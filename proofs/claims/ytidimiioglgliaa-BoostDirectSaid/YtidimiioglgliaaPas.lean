/- A call's own copy of a struct parameter, in the newest block. -/
import Derived.Test.YtidimiioglgliaaLt
set_option linter.unusedVariables false

set_option linter.unusedSimpArgs false
namespace Go.Proofs.Ytidimiioglgliaa
open Go.RowKit

/-- The tree's variable, and what was before. -/
structure PaS (w : World) (T : Array Value) (u : World) : Prop where
  t : Blk u w.heap.size T
  b : Below w.heap.size w u

theorem PaS.call {w u u' : World} {T : Array Value} (h : PaS w T u) (hb : Below u.heap.size u u') : PaS w T u' := ⟨h.t.call hb, h.b.trans (hb.mono h.b.size)⟩

theorem PaS.grown {w u u' : World} {T : Array Value} {row : Option Nat} (h : PaS w T u) (hg : u.grownBy u' row) (hr : ∀ j, row = some j → w.heap.size < j) : PaS w T u' := ⟨h.t.grown hg (fun e => by have := hr _ e.symm; omega), h.b.grown hg h.b.size (fun j hj => by have := hr j hj; omega)⟩

theorem pas_new (w : World) (T : Array Value) (t : TypeId) : PaS w T (w.alloc (.cells T t)) := ⟨Blk.new rfl, (Below.refl w.heap.size w).alloc (Nat.le_refl _) (.cells T t)⟩
end Go.Proofs.Ytidimiioglgliaa
