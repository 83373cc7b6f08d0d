/-
  No cell of these rows narrows 'for every input' (looked for: loops, veiled, ifaces, maps, wideKeys, modest, calm, conditions, laid).
  DERIVED. THE GIVEN ROWS OF THIS SEAT. 4 by the template 'for every input the law returns true; each argument reads behind the call as it read before'; 0 by the template 'total and deterministic' (their statements: YtpcpicfhcfkcnaaTotals.lean).
  GIVEN WITH THE SEED: the statements are not yours to turn. If you find one false, say at which input.
  Laid BY PROGRAM, IN A SANDBOX (cutbox-rows.mjs): the forced cells as the released guide's own fill.sh prints them over the translation b9d6319af9175ec3… (all of the seat's roots in one cut). By AI agents, Wed Nov 11 2026. No macro, syntax, notation, axiom, sorry.
-/
import Derived.Test.YtpcpicfhcfkcnaaChecked
import GoSem.Claim
import GoSem.ClaimJoined
import GoSem.ClaimMapViews
import Derived.JoinedTies
import Derived.KernelRfl
namespace Go.Proofs.Ytpcpicfhcfkcnaa
/- THE CELL 'sum', in the pinned program and in every row, IS THE sha256 OF THE DUMP (.gsa) THAT YtpcpicfhcfkcnaaProg.lean LOADS. Nothing in Lean hashes anything: it is a label: what it is worth is what the hold of that sum in a sandbox is worth. -/
noncomputable def Try.pinned : Pinned := { name := "ytpcpicfhcfkcnaa", sum := "b9d6319af9175ec3037a83f0c2f9cc379fd165b5e5158f9cd3309a11abf9764d", checked := Try.checked }
namespace Rows
def none {H : Type} : Left H := { results := [], args := [] }

/-- 'forkheadlaw13.WeightsExact': WHATEVER THE INPUT: true; the input reads as it did. -/
def weightsExactSpec : ChangeSpec := { name := "weightsExact", fn := fun _ => fun
  | [d1, d2] => { results := [.lit (.bool true)], args := [d1, d2] }
  | _ => none }
def weightsExactRow : OpenClaim := { program := "ytpcpicfhcfkcnaa", sum := "b9d6319af9175ec3037a83f0c2f9cc379fd165b5e5158f9cd3309a11abf9764d", func := "forkhead/forkheadlaw13.WeightsExact", spec := "weightsExact", recurses := true, plainKeys := false, apart := false }
def WeightsExactSaid : Prop := weightsExactRow.holds Try.pinned (OpenSpec.ofChange weightsExactSpec)

/-- ITS FALSE NEIGHBOUR: 'it returns false'. Refute it at one input. -/
def weightsExactWrong : ChangeSpec := { name := "weightsExact", fn := fun _ => fun
  | [d1, d2] => { results := [.lit (.bool false)], args := [d1, d2] }
  | _ => none }
def WeightsExactWrongFalsely : Prop := weightsExactRow.holds Try.pinned (OpenSpec.ofChange weightsExactWrong)

/-- 'forkheadlaw13.WeightsOwn': WHATEVER THE INPUT: true; the input reads as it did. -/
def weightsOwnSpec : ChangeSpec := { name := "weightsOwn", fn := fun _ => fun
  | [d1, d2] => { results := [.lit (.bool true)], args := [d1, d2] }
  | _ => none }
def weightsOwnRow : OpenClaim := { program := "ytpcpicfhcfkcnaa", sum := "b9d6319af9175ec3037a83f0c2f9cc379fd165b5e5158f9cd3309a11abf9764d", func := "forkhead/forkheadlaw13.WeightsOwn", spec := "weightsOwn", plainKeys := false, apart := false }
def WeightsOwnSaid : Prop := weightsOwnRow.holds Try.pinned (OpenSpec.ofChange weightsOwnSpec)

/-- ITS FALSE NEIGHBOUR: 'it returns false'. Refute it at one input. -/
def weightsOwnWrong : ChangeSpec := { name := "weightsOwn", fn := fun _ => fun
  | [d1, d2] => { results := [.lit (.bool false)], args := [d1, d2] }
  | _ => none }
def WeightsOwnWrongFalsely : Prop := weightsOwnRow.holds Try.pinned (OpenSpec.ofChange weightsOwnWrong)

/-- 'forkheadlaw13.WeightsVoters': WHATEVER THE INPUT: true; the input reads as it did. -/
def weightsVotersSpec : ChangeSpec := { name := "weightsVoters", fn := fun _ => fun
  | [d1, d2, d3] => { results := [.lit (.bool true)], args := [d1, d2, d3] }
  | _ => none }
def weightsVotersRow : OpenClaim := { program := "ytpcpicfhcfkcnaa", sum := "b9d6319af9175ec3037a83f0c2f9cc379fd165b5e5158f9cd3309a11abf9764d", func := "forkhead/forkheadlaw13.WeightsVoters", spec := "weightsVoters", plainKeys := false, apart := false }
def WeightsVotersSaid : Prop := weightsVotersRow.holds Try.pinned (OpenSpec.ofChange weightsVotersSpec)

/-- ITS FALSE NEIGHBOUR: 'it returns false'. Refute it at one input. -/
def weightsVotersWrong : ChangeSpec := { name := "weightsVoters", fn := fun _ => fun
  | [d1, d2, d3] => { results := [.lit (.bool false)], args := [d1, d2, d3] }
  | _ => none }
def WeightsVotersWrongFalsely : Prop := weightsVotersRow.holds Try.pinned (OpenSpec.ofChange weightsVotersWrong)

/-- 'forkheadlaw13.WeightsGrow': WHATEVER THE INPUT: true; the input reads as it did. -/
def weightsGrowSpec : ChangeSpec := { name := "weightsGrow", fn := fun _ => fun
  | [d1, d2, d3, d4] => { results := [.lit (.bool true)], args := [d1, d2, d3, d4] }
  | _ => none }
def weightsGrowRow : OpenClaim := { program := "ytpcpicfhcfkcnaa", sum := "b9d6319af9175ec3037a83f0c2f9cc379fd165b5e5158f9cd3309a11abf9764d", func := "forkhead/forkheadlaw13.WeightsGrow", spec := "weightsGrow", plainKeys := false, apart := false }
def WeightsGrowSaid : Prop := weightsGrowRow.holds Try.pinned (OpenSpec.ofChange weightsGrowSpec)

/-- ITS FALSE NEIGHBOUR: 'it returns false'. Refute it at one input. -/
def weightsGrowWrong : ChangeSpec := { name := "weightsGrow", fn := fun _ => fun
  | [d1, d2, d3, d4] => { results := [.lit (.bool false)], args := [d1, d2, d3, d4] }
  | _ => none }
def WeightsGrowWrongFalsely : Prop := weightsGrowRow.holds Try.pinned (OpenSpec.ofChange weightsGrowWrong)

/- THE SECOND FORM. 'bulk': how many values and letters a reading holds, each counted each time it is reached (what is shared counts as often as it is met; a slice's spare places count too). A statement '..UptoSaid' is the law's where the arguments, and the package variables that the reading takes, are together of bulk at most 1048576: NARROWER than '..Said'. Prove '..Said' where nothing that the law and all that it calls make is longer than what came in: it says more and counts as full. Else prove '..UptoSaid'. A law counts once. -/
mutual
def uptoBulk {H : Type} : DataW H → Nat
  | .lit (.string bytes) => bytes.length + 1
  | .lit _ => 1
  | .nil => 1
  | .ptr d => uptoBulk d + 1
  | .slice elems spare => uptoBulkAll elems + uptoBulkAll spare + 1
  | .agg parts => uptoBulkAll parts + 1
  | .iface _ d => uptoBulk d + 1
  | .map entries => uptoBulkEntries entries + 1
  | .held _ => 1
def uptoBulkAll {H : Type} : List (DataW H) → Nat
  | [] => 0
  | d :: r => uptoBulk d + uptoBulkAll r
def uptoBulkEntries {H : Type} : List (Lit × DataW H) → Nat
  | [] => 0
  | x :: r => uptoBulkEntry x + uptoBulkEntries r
def uptoBulkEntry {H : Type} : Lit × DataW H → Nat
  | (.string bytes, d) => bytes.length + uptoBulk d + 1
  | (_, d) => uptoBulk d + 1
 end
def uptoSmall : (H : Type) → List (DataW H) → Bool := fun _ ds => decide (uptoBulkAll ds ≤ 1048576)
def OpenSpec.upto (s : _root_.Go.ChangeSpec) : _root_.Go.OpenSpec := { _root_.Go.OpenSpec.ofChange s with cond := some uptoSmall }

/-- 'forkheadlaw13.WeightsExact', WHERE WHAT IT READS IS OF BULK AT MOST 1048576: true; the input reads as it did. -/
def weightsExactUptoRow : OpenClaim := { program := "ytpcpicfhcfkcnaa", sum := "b9d6319af9175ec3037a83f0c2f9cc379fd165b5e5158f9cd3309a11abf9764d", func := "forkhead/forkheadlaw13.WeightsExact", spec := "weightsExact", recurses := true, plainKeys := false, apart := false, narrowed := true }
def WeightsExactUptoSaid : Prop := weightsExactUptoRow.holds Try.pinned (OpenSpec.upto weightsExactSpec)

/-- 'forkheadlaw13.WeightsOwn', WHERE WHAT IT READS IS OF BULK AT MOST 1048576: true; the input reads as it did. -/
def weightsOwnUptoRow : OpenClaim := { program := "ytpcpicfhcfkcnaa", sum := "b9d6319af9175ec3037a83f0c2f9cc379fd165b5e5158f9cd3309a11abf9764d", func := "forkhead/forkheadlaw13.WeightsOwn", spec := "weightsOwn", plainKeys := false, apart := false, narrowed := true }
def WeightsOwnUptoSaid : Prop := weightsOwnUptoRow.holds Try.pinned (OpenSpec.upto weightsOwnSpec)

/-- 'forkheadlaw13.WeightsVoters', WHERE WHAT IT READS IS OF BULK AT MOST 1048576: true; the input reads as it did. -/
def weightsVotersUptoRow : OpenClaim := { program := "ytpcpicfhcfkcnaa", sum := "b9d6319af9175ec3037a83f0c2f9cc379fd165b5e5158f9cd3309a11abf9764d", func := "forkhead/forkheadlaw13.WeightsVoters", spec := "weightsVoters", plainKeys := false, apart := false, narrowed := true }
def WeightsVotersUptoSaid : Prop := weightsVotersUptoRow.holds Try.pinned (OpenSpec.upto weightsVotersSpec)

/-- 'forkheadlaw13.WeightsGrow', WHERE WHAT IT READS IS OF BULK AT MOST 1048576: true; the input reads as it did. -/
def weightsGrowUptoRow : OpenClaim := { program := "ytpcpicfhcfkcnaa", sum := "b9d6319af9175ec3037a83f0c2f9cc379fd165b5e5158f9cd3309a11abf9764d", func := "forkhead/forkheadlaw13.WeightsGrow", spec := "weightsGrow", plainKeys := false, apart := false, narrowed := true }
def WeightsGrowUptoSaid : Prop := weightsGrowUptoRow.holds Try.pinned (OpenSpec.upto weightsGrowSpec)

end Rows
end Go.Proofs.Ytpcpicfhcfkcnaa
