/-
  No cell of these rows narrows 'for every input' (looked for: loops, veiled, ifaces, maps, wideKeys, modest, calm, conditions, laid).
  DERIVED. THE GIVEN ROWS OF THIS SEAT. 4 by the template 'for every input the law returns true; each argument reads behind the call as it read before'; 0 by the template 'total and deterministic' (their statements: YtidimiioglgliaaTotals.lean).
  GIVEN WITH THE SEED: the statements are not yours to turn. If you find one false, say at which input.
  Laid BY PROGRAM, IN A SANDBOX (cutbox-rows.mjs): the forced cells as the released guide's own fill.sh prints them over the translation 8f17b6246744de55… (all of the seat's roots in one cut). By AI agents, Wed Nov 11 2026. No macro, syntax, notation, axiom, sorry.
-/
import Derived.Test.YtidimiioglgliaaChecked
import GoSem.Claim
import GoSem.ClaimJoined
import GoSem.ClaimMapViews
import Derived.JoinedTies
import Derived.KernelRfl
namespace Go.Proofs.Ytidimiioglgliaa
/- THE CELL 'sum', in the pinned program and in every row, IS THE sha256 OF THE DUMP (.gsa) THAT YtidimiioglgliaaProg.lean LOADS. Nothing in Lean hashes anything: it is a label: what it is worth is what the hold of that sum in a sandbox is worth. -/
noncomputable def Try.pinned : Pinned := { name := "ytidimiioglgliaa", sum := "8f17b6246744de55132d798ef4f83071295b629931262ea121a5e6b905e203d7", checked := Try.checked }
namespace Rows
def none {H : Type} : Left H := { results := [], args := [] }

/-- 'forkheadlaw15.BoostAmounts': WHATEVER THE INPUT: true; the input reads as it did. -/
def boostAmountsSpec : ChangeSpec := { name := "boostAmounts", fn := fun _ => fun
  | [d1, d2, d3] => { results := [.lit (.bool true)], args := [d1, d2, d3] }
  | _ => none }
def boostAmountsRow : OpenClaim := { program := "ytidimiioglgliaa", sum := "8f17b6246744de55132d798ef4f83071295b629931262ea121a5e6b905e203d7", func := "forkhead/forkheadlaw15.BoostAmounts", spec := "boostAmounts", apart := false }
def BoostAmountsSaid : Prop := boostAmountsRow.holds Try.pinned (OpenSpec.ofChange boostAmountsSpec)

/-- ITS FALSE NEIGHBOUR: 'it returns false'. Refute it at one input. -/
def boostAmountsWrong : ChangeSpec := { name := "boostAmounts", fn := fun _ => fun
  | [d1, d2, d3] => { results := [.lit (.bool false)], args := [d1, d2, d3] }
  | _ => none }
def BoostAmountsWrongFalsely : Prop := boostAmountsRow.holds Try.pinned (OpenSpec.ofChange boostAmountsWrong)

/-- 'forkheadlaw15.BoostExact': WHATEVER THE INPUT: true; the input reads as it did. -/
def boostExactSpec : ChangeSpec := { name := "boostExact", fn := fun _ => fun
  | [d1, d2, d3] => { results := [.lit (.bool true)], args := [d1, d2, d3] }
  | _ => none }
def boostExactRow : OpenClaim := { program := "ytidimiioglgliaa", sum := "8f17b6246744de55132d798ef4f83071295b629931262ea121a5e6b905e203d7", func := "forkhead/forkheadlaw15.BoostExact", spec := "boostExact", apart := false }
def BoostExactSaid : Prop := boostExactRow.holds Try.pinned (OpenSpec.ofChange boostExactSpec)

/-- ITS FALSE NEIGHBOUR: 'it returns false'. Refute it at one input. -/
def boostExactWrong : ChangeSpec := { name := "boostExact", fn := fun _ => fun
  | [d1, d2, d3] => { results := [.lit (.bool false)], args := [d1, d2, d3] }
  | _ => none }
def BoostExactWrongFalsely : Prop := boostExactRow.holds Try.pinned (OpenSpec.ofChange boostExactWrong)

/-- 'forkheadlaw15.BoostDirect': WHATEVER THE INPUT: true; the input reads as it did. -/
def boostDirectSpec : ChangeSpec := { name := "boostDirect", fn := fun _ => fun
  | [d1, d2, d3, d4] => { results := [.lit (.bool true)], args := [d1, d2, d3, d4] }
  | _ => none }
def boostDirectRow : OpenClaim := { program := "ytidimiioglgliaa", sum := "8f17b6246744de55132d798ef4f83071295b629931262ea121a5e6b905e203d7", func := "forkhead/forkheadlaw15.BoostDirect", spec := "boostDirect", apart := false }
def BoostDirectSaid : Prop := boostDirectRow.holds Try.pinned (OpenSpec.ofChange boostDirectSpec)

/-- ITS FALSE NEIGHBOUR: 'it returns false'. Refute it at one input. -/
def boostDirectWrong : ChangeSpec := { name := "boostDirect", fn := fun _ => fun
  | [d1, d2, d3, d4] => { results := [.lit (.bool false)], args := [d1, d2, d3, d4] }
  | _ => none }
def BoostDirectWrongFalsely : Prop := boostDirectRow.holds Try.pinned (OpenSpec.ofChange boostDirectWrong)

/-- 'forkheadlaw15.BoostPath': WHATEVER THE INPUT: true; the input reads as it did. -/
def boostPathSpec : ChangeSpec := { name := "boostPath", fn := fun _ => fun
  | [d1, d2, d3, d4] => { results := [.lit (.bool true)], args := [d1, d2, d3, d4] }
  | _ => none }
def boostPathRow : OpenClaim := { program := "ytidimiioglgliaa", sum := "8f17b6246744de55132d798ef4f83071295b629931262ea121a5e6b905e203d7", func := "forkhead/forkheadlaw15.BoostPath", spec := "boostPath", recurses := true, apart := false }
def BoostPathSaid : Prop := boostPathRow.holds Try.pinned (OpenSpec.ofChange boostPathSpec)

/-- ITS FALSE NEIGHBOUR: 'it returns false'. Refute it at one input. -/
def boostPathWrong : ChangeSpec := { name := "boostPath", fn := fun _ => fun
  | [d1, d2, d3, d4] => { results := [.lit (.bool false)], args := [d1, d2, d3, d4] }
  | _ => none }
def BoostPathWrongFalsely : Prop := boostPathRow.holds Try.pinned (OpenSpec.ofChange boostPathWrong)

/- THE SECOND FORM. 'bulk': how many values and letters a reading holds, each counted each time it is reached (what is shared counts as often as it is met; a slice's spare places count too). A statement '..UptoSaid' is the law's where the arguments, and the package variables that the reading takes, are together of bulk at most 1048576: NARROWER than '..Said'. Prove '..Said' where nothing that the law and all that it calls make is longer than what came in: it says more and counts as full. Else prove '..UptoSaid'. A law counts once. -/
mutual
def uptoBulk {H : Type} : DataW H → Nat
  | .lit (.string bytes) => bytes.length + 1
  | .lit _ => 1
  | .nil => 1
  | .ptr d => uptoBulk d + 1
  | .slice elems spare => uptoBulkAll elems + uptoBulkAll spare + 1
  | .agg parts => uptoBulkAll parts + 1
  | .iface _ d => uptoBulk d + 1
  | .map entries => uptoBulkEntries entries + 1
  | .held _ => 1
def uptoBulkAll {H : Type} : List (DataW H) → Nat
  | [] => 0
  | d :: r => uptoBulk d + uptoBulkAll r
def uptoBulkEntries {H : Type} : List (Lit × DataW H) → Nat
  | [] => 0
  | x :: r => uptoBulkEntry x + uptoBulkEntries r
def uptoBulkEntry {H : Type} : Lit × DataW H → Nat
  | (.string bytes, d) => bytes.length + uptoBulk d + 1
  | (_, d) => uptoBulk d + 1
 end
def uptoSmall : (H : Type) → List (DataW H) → Bool := fun _ ds => decide (uptoBulkAll ds ≤ 1048576)
def OpenSpec.upto (s : _root_.Go.ChangeSpec) : _root_.Go.OpenSpec := { _root_.Go.OpenSpec.ofChange s with cond := some uptoSmall }

/-- 'forkheadlaw15.BoostAmounts', WHERE WHAT IT READS IS OF BULK AT MOST 1048576: true; the input reads as it did. -/
def boostAmountsUptoRow : OpenClaim := { program := "ytidimiioglgliaa", sum := "8f17b6246744de55132d798ef4f83071295b629931262ea121a5e6b905e203d7", func := "forkhead/forkheadlaw15.BoostAmounts", spec := "boostAmounts", apart := false, narrowed := true }
def BoostAmountsUptoSaid : Prop := boostAmountsUptoRow.holds Try.pinned (OpenSpec.upto boostAmountsSpec)

/-- 'forkheadlaw15.BoostExact', WHERE WHAT IT READS IS OF BULK AT MOST 1048576: true; the input reads as it did. -/
def boostExactUptoRow : OpenClaim := { program := "ytidimiioglgliaa", sum := "8f17b6246744de55132d798ef4f83071295b629931262ea121a5e6b905e203d7", func := "forkhead/forkheadlaw15.BoostExact", spec := "boostExact", apart := false, narrowed := true }
def BoostExactUptoSaid : Prop := boostExactUptoRow.holds Try.pinned (OpenSpec.upto boostExactSpec)

/-- 'forkheadlaw15.BoostDirect', WHERE WHAT IT READS IS OF BULK AT MOST 1048576: true; the input reads as it did. -/
def boostDirectUptoRow : OpenClaim := { program := "ytidimiioglgliaa", sum := "8f17b6246744de55132d798ef4f83071295b629931262ea121a5e6b905e203d7", func := "forkhead/forkheadlaw15.BoostDirect", spec := "boostDirect", apart := false, narrowed := true }
def BoostDirectUptoSaid : Prop := boostDirectUptoRow.holds Try.pinned (OpenSpec.upto boostDirectSpec)

/-- 'forkheadlaw15.BoostPath', WHERE WHAT IT READS IS OF BULK AT MOST 1048576: true; the input reads as it did. -/
def boostPathUptoRow : OpenClaim := { program := "ytidimiioglgliaa", sum := "8f17b6246744de55132d798ef4f83071295b629931262ea121a5e6b905e203d7", func := "forkhead/forkheadlaw15.BoostPath", spec := "boostPath", recurses := true, apart := false, narrowed := true }
def BoostPathUptoSaid : Prop := boostPathUptoRow.holds Try.pinned (OpenSpec.upto boostPathSpec)

end Rows
end Go.Proofs.Ytidimiioglgliaa
