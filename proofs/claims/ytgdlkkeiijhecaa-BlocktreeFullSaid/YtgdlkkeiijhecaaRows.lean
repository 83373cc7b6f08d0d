/-
  No cell of these rows narrows 'for every input' (looked for: loops, veiled, ifaces, maps, wideKeys, modest, calm, conditions, laid).
  DERIVED. THE GIVEN ROWS OF THIS SEAT. 6 by the template 'for every input the law returns true; each argument reads behind the call as it read before'; 0 by the template 'total and deterministic' (their statements: YtgdlkkeiijhecaaTotals.lean).
  GIVEN WITH THE SEED: the statements are not yours to turn. If you find one false, say at which input.
  Laid BY PROGRAM, IN A SANDBOX (cutbox-rows.mjs): the forced cells as the released guide's own fill.sh prints them over the translation 30ff6d7d7293466c… (all of the seat's roots in one cut). By AI agents, Wed Nov 11 2026. No macro, syntax, notation, axiom, sorry.
-/
import Derived.Test.YtgdlkkeiijhecaaChecked
import GoSem.Claim
import GoSem.ClaimJoined
import GoSem.ClaimMapViews
import Derived.JoinedTies
import Derived.KernelRfl
namespace Go.Proofs.Ytgdlkkeiijhecaa
/- THE CELL 'sum', in the pinned program and in every row, IS THE sha256 OF THE DUMP (.gsa) THAT YtgdlkkeiijhecaaProg.lean LOADS. Nothing in Lean hashes anything: it is a label: what it is worth is what the hold of that sum in a sandbox is worth. -/
noncomputable def Try.pinned : Pinned := { name := "ytgdlkkeiijhecaa", sum := "30ff6d7d7293466c059b37f0676e30faec2c1922e329f746f389526359d690fe", checked := Try.checked }
namespace Rows
def none {H : Type} : Left H := { results := [], args := [] }

/-- 'forkheadlaw11.BlocktreeValid': WHATEVER THE INPUT: true; the input reads as it did. -/
def blocktreeValidSpec : ChangeSpec := { name := "blocktreeValid", fn := fun _ => fun
  | [d] => { results := [.lit (.bool true)], args := [d] }
  | _ => none }
def blocktreeValidRow : OpenClaim := { program := "ytgdlkkeiijhecaa", sum := "30ff6d7d7293466c059b37f0676e30faec2c1922e329f746f389526359d690fe", func := "forkhead/forkheadlaw11.BlocktreeValid", spec := "blocktreeValid", plainKeys := false, apart := false }
def BlocktreeValidSaid : Prop := blocktreeValidRow.holds Try.pinned (OpenSpec.ofChange blocktreeValidSpec)

/-- ITS FALSE NEIGHBOUR: 'it returns false'. Refute it at one input. -/
def blocktreeValidWrong : ChangeSpec := { name := "blocktreeValid", fn := fun _ => fun
  | [d] => { results := [.lit (.bool false)], args := [d] }
  | _ => none }
def BlocktreeValidWrongFalsely : Prop := blocktreeValidRow.holds Try.pinned (OpenSpec.ofChange blocktreeValidWrong)

/-- 'forkheadlaw11.BlocktreeSpoilt': WHATEVER THE INPUT: true; the input reads as it did. -/
def blocktreeSpoiltSpec : ChangeSpec := { name := "blocktreeSpoilt", fn := fun _ => fun
  | [d1, d2, d3, d4] => { results := [.lit (.bool true)], args := [d1, d2, d3, d4] }
  | _ => none }
def blocktreeSpoiltRow : OpenClaim := { program := "ytgdlkkeiijhecaa", sum := "30ff6d7d7293466c059b37f0676e30faec2c1922e329f746f389526359d690fe", func := "forkhead/forkheadlaw11.BlocktreeSpoilt", spec := "blocktreeSpoilt", plainKeys := false, apart := false }
def BlocktreeSpoiltSaid : Prop := blocktreeSpoiltRow.holds Try.pinned (OpenSpec.ofChange blocktreeSpoiltSpec)

/-- ITS FALSE NEIGHBOUR: 'it returns false'. Refute it at one input. -/
def blocktreeSpoiltWrong : ChangeSpec := { name := "blocktreeSpoilt", fn := fun _ => fun
  | [d1, d2, d3, d4] => { results := [.lit (.bool false)], args := [d1, d2, d3, d4] }
  | _ => none }
def BlocktreeSpoiltWrongFalsely : Prop := blocktreeSpoiltRow.holds Try.pinned (OpenSpec.ofChange blocktreeSpoiltWrong)

/-- 'forkheadlaw11.BlocktreeInserts': WHATEVER THE INPUT: true; the input reads as it did. -/
def blocktreeInsertsSpec : ChangeSpec := { name := "blocktreeInserts", fn := fun _ => fun
  | [d1, d2, d3, d4] => { results := [.lit (.bool true)], args := [d1, d2, d3, d4] }
  | _ => none }
def blocktreeInsertsRow : OpenClaim := { program := "ytgdlkkeiijhecaa", sum := "30ff6d7d7293466c059b37f0676e30faec2c1922e329f746f389526359d690fe", func := "forkhead/forkheadlaw11.BlocktreeInserts", spec := "blocktreeInserts", plainKeys := false, apart := false }
def BlocktreeInsertsSaid : Prop := blocktreeInsertsRow.holds Try.pinned (OpenSpec.ofChange blocktreeInsertsSpec)

/-- ITS FALSE NEIGHBOUR: 'it returns false'. Refute it at one input. -/
def blocktreeInsertsWrong : ChangeSpec := { name := "blocktreeInserts", fn := fun _ => fun
  | [d1, d2, d3, d4] => { results := [.lit (.bool false)], args := [d1, d2, d3, d4] }
  | _ => none }
def BlocktreeInsertsWrongFalsely : Prop := blocktreeInsertsRow.holds Try.pinned (OpenSpec.ofChange blocktreeInsertsWrong)

/-- 'forkheadlaw11.BlocktreeLooks': WHATEVER THE INPUT: true; the input reads as it did. -/
def blocktreeLooksSpec : ChangeSpec := { name := "blocktreeLooks", fn := fun _ => fun
  | [d1, d2, d3, d4] => { results := [.lit (.bool true)], args := [d1, d2, d3, d4] }
  | _ => none }
def blocktreeLooksRow : OpenClaim := { program := "ytgdlkkeiijhecaa", sum := "30ff6d7d7293466c059b37f0676e30faec2c1922e329f746f389526359d690fe", func := "forkhead/forkheadlaw11.BlocktreeLooks", spec := "blocktreeLooks", recurses := true, plainKeys := false, apart := false }
def BlocktreeLooksSaid : Prop := blocktreeLooksRow.holds Try.pinned (OpenSpec.ofChange blocktreeLooksSpec)

/-- ITS FALSE NEIGHBOUR: 'it returns false'. Refute it at one input. -/
def blocktreeLooksWrong : ChangeSpec := { name := "blocktreeLooks", fn := fun _ => fun
  | [d1, d2, d3, d4] => { results := [.lit (.bool false)], args := [d1, d2, d3, d4] }
  | _ => none }
def BlocktreeLooksWrongFalsely : Prop := blocktreeLooksRow.holds Try.pinned (OpenSpec.ofChange blocktreeLooksWrong)

/-- 'forkheadlaw11.BlocktreeFamilies': WHATEVER THE INPUT: true; the input reads as it did. -/
def blocktreeFamiliesSpec : ChangeSpec := { name := "blocktreeFamilies", fn := fun _ => fun
  | [d] => { results := [.lit (.bool true)], args := [d] }
  | _ => none }
def blocktreeFamiliesRow : OpenClaim := { program := "ytgdlkkeiijhecaa", sum := "30ff6d7d7293466c059b37f0676e30faec2c1922e329f746f389526359d690fe", func := "forkhead/forkheadlaw11.BlocktreeFamilies", spec := "blocktreeFamilies", plainKeys := false, apart := false }
def BlocktreeFamiliesSaid : Prop := blocktreeFamiliesRow.holds Try.pinned (OpenSpec.ofChange blocktreeFamiliesSpec)

/-- ITS FALSE NEIGHBOUR: 'it returns false'. Refute it at one input. -/
def blocktreeFamiliesWrong : ChangeSpec := { name := "blocktreeFamilies", fn := fun _ => fun
  | [d] => { results := [.lit (.bool false)], args := [d] }
  | _ => none }
def BlocktreeFamiliesWrongFalsely : Prop := blocktreeFamiliesRow.holds Try.pinned (OpenSpec.ofChange blocktreeFamiliesWrong)

/-- 'forkheadlaw11.BlocktreeFull': WHATEVER THE INPUT: true; the input reads as it did. -/
def blocktreeFullSpec : ChangeSpec := { name := "blocktreeFull", fn := fun _ => fun
  | [d] => { results := [.lit (.bool true)], args := [d] }
  | _ => none }
def blocktreeFullRow : OpenClaim := { program := "ytgdlkkeiijhecaa", sum := "30ff6d7d7293466c059b37f0676e30faec2c1922e329f746f389526359d690fe", func := "forkhead/forkheadlaw11.BlocktreeFull", spec := "blocktreeFull", plainKeys := false, apart := false }
def BlocktreeFullSaid : Prop := blocktreeFullRow.holds Try.pinned (OpenSpec.ofChange blocktreeFullSpec)

/-- ITS FALSE NEIGHBOUR: 'it returns false'. Refute it at one input. -/
def blocktreeFullWrong : ChangeSpec := { name := "blocktreeFull", fn := fun _ => fun
  | [d] => { results := [.lit (.bool false)], args := [d] }
  | _ => none }
def BlocktreeFullWrongFalsely : Prop := blocktreeFullRow.holds Try.pinned (OpenSpec.ofChange blocktreeFullWrong)

/- THE SECOND FORM. 'bulk': how many values and letters a reading holds, each counted each time it is reached (what is shared counts as often as it is met; a slice's spare places count too). A statement '..UptoSaid' is the law's where the arguments, and the package variables that the reading takes, are together of bulk at most 1048576: NARROWER than '..Said'. Prove '..Said' where nothing that the law and all that it calls make is longer than what came in: it says more and counts as full. Else prove '..UptoSaid'. A law counts once. -/
mutual
def uptoBulk {H : Type} : DataW H → Nat
  | .lit (.string bytes) => bytes.length + 1
  | .lit _ => 1
  | .nil => 1
  | .ptr d => uptoBulk d + 1
  | .slice elems spare => uptoBulkAll elems + uptoBulkAll spare + 1
  | .agg parts => uptoBulkAll parts + 1
  | .iface _ d => uptoBulk d + 1
  | .map entries => uptoBulkEntries entries + 1
  | .held _ => 1
def uptoBulkAll {H : Type} : List (DataW H) → Nat
  | [] => 0
  | d :: r => uptoBulk d + uptoBulkAll r
def uptoBulkEntries {H : Type} : List (Lit × DataW H) → Nat
  | [] => 0
  | x :: r => uptoBulkEntry x + uptoBulkEntries r
def uptoBulkEntry {H : Type} : Lit × DataW H → Nat
  | (.string bytes, d) => bytes.length + uptoBulk d + 1
  | (_, d) => uptoBulk d + 1
 end
def uptoSmall : (H : Type) → List (DataW H) → Bool := fun _ ds => decide (uptoBulkAll ds ≤ 1048576)
def OpenSpec.upto (s : _root_.Go.ChangeSpec) : _root_.Go.OpenSpec := { _root_.Go.OpenSpec.ofChange s with cond := some uptoSmall }

/-- 'forkheadlaw11.BlocktreeValid', WHERE WHAT IT READS IS OF BULK AT MOST 1048576: true; the input reads as it did. -/
def blocktreeValidUptoRow : OpenClaim := { program := "ytgdlkkeiijhecaa", sum := "30ff6d7d7293466c059b37f0676e30faec2c1922e329f746f389526359d690fe", func := "forkhead/forkheadlaw11.BlocktreeValid", spec := "blocktreeValid", plainKeys := false, apart := false, narrowed := true }
def BlocktreeValidUptoSaid : Prop := blocktreeValidUptoRow.holds Try.pinned (OpenSpec.upto blocktreeValidSpec)

/-- 'forkheadlaw11.BlocktreeSpoilt', WHERE WHAT IT READS IS OF BULK AT MOST 1048576: true; the input reads as it did. -/
def blocktreeSpoiltUptoRow : OpenClaim := { program := "ytgdlkkeiijhecaa", sum := "30ff6d7d7293466c059b37f0676e30faec2c1922e329f746f389526359d690fe", func := "forkhead/forkheadlaw11.BlocktreeSpoilt", spec := "blocktreeSpoilt", plainKeys := false, apart := false, narrowed := true }
def BlocktreeSpoiltUptoSaid : Prop := blocktreeSpoiltUptoRow.holds Try.pinned (OpenSpec.upto blocktreeSpoiltSpec)

/-- 'forkheadlaw11.BlocktreeInserts', WHERE WHAT IT READS IS OF BULK AT MOST 1048576: true; the input reads as it did. -/
def blocktreeInsertsUptoRow : OpenClaim := { program := "ytgdlkkeiijhecaa", sum := "30ff6d7d7293466c059b37f0676e30faec2c1922e329f746f389526359d690fe", func := "forkhead/forkheadlaw11.BlocktreeInserts", spec := "blocktreeInserts", plainKeys := false, apart := false, narrowed := true }
def BlocktreeInsertsUptoSaid : Prop := blocktreeInsertsUptoRow.holds Try.pinned (OpenSpec.upto blocktreeInsertsSpec)

/-- 'forkheadlaw11.BlocktreeLooks', WHERE WHAT IT READS IS OF BULK AT MOST 1048576: true; the input reads as it did. -/
def blocktreeLooksUptoRow : OpenClaim := { program := "ytgdlkkeiijhecaa", sum := "30ff6d7d7293466c059b37f0676e30faec2c1922e329f746f389526359d690fe", func := "forkhead/forkheadlaw11.BlocktreeLooks", spec := "blocktreeLooks", recurses := true, plainKeys := false, apart := false, narrowed := true }
def BlocktreeLooksUptoSaid : Prop := blocktreeLooksUptoRow.holds Try.pinned (OpenSpec.upto blocktreeLooksSpec)

/-- 'forkheadlaw11.BlocktreeFamilies', WHERE WHAT IT READS IS OF BULK AT MOST 1048576: true; the input reads as it did. -/
def blocktreeFamiliesUptoRow : OpenClaim := { program := "ytgdlkkeiijhecaa", sum := "30ff6d7d7293466c059b37f0676e30faec2c1922e329f746f389526359d690fe", func := "forkhead/forkheadlaw11.BlocktreeFamilies", spec := "blocktreeFamilies", plainKeys := false, apart := false, narrowed := true }
def BlocktreeFamiliesUptoSaid : Prop := blocktreeFamiliesUptoRow.holds Try.pinned (OpenSpec.upto blocktreeFamiliesSpec)

/-- 'forkheadlaw11.BlocktreeFull', WHERE WHAT IT READS IS OF BULK AT MOST 1048576: true; the input reads as it did. -/
def blocktreeFullUptoRow : OpenClaim := { program := "ytgdlkkeiijhecaa", sum := "30ff6d7d7293466c059b37f0676e30faec2c1922e329f746f389526359d690fe", func := "forkhead/forkheadlaw11.BlocktreeFull", spec := "blocktreeFull", plainKeys := false, apart := false, narrowed := true }
def BlocktreeFullUptoSaid : Prop := blocktreeFullUptoRow.holds Try.pinned (OpenSpec.upto blocktreeFullSpec)

end Rows
end Go.Proofs.Ytgdlkkeiijhecaa
