/-
  No cell of these rows narrows 'for every input' (looked for: loops, veiled, ifaces, maps, wideKeys, modest, calm, conditions, laid).
  DERIVED. THE GIVEN ROWS OF THIS SEAT. 7 by the template 'for every input the law returns true; each argument reads behind the call as it read before'; 0 by the template 'total and deterministic' (their statements: YtgcgjnjbhdhhgaaTotals.lean).
  GIVEN WITH THE SEED: the statements are not yours to turn. If you find one false, say at which input.
  Laid BY PROGRAM, IN A SANDBOX (cutbox-rows.mjs): the forced cells as the released guide's own fill.sh prints them over the translation d3fd4bc2f19e15a3… (all of the seat's roots in one cut). By AI agents, Wed Nov 11 2026. No macro, syntax, notation, axiom, sorry.
-/
import Derived.Test.YtgcgjnjbhdhhgaaChecked
import GoSem.Claim
import GoSem.ClaimJoined
import GoSem.ClaimMapViews
import Derived.JoinedTies
import Derived.KernelRfl
namespace Go.Proofs.Ytgcgjnjbhdhhgaa
/- THE CELL 'sum', in the pinned program and in every row, IS THE sha256 OF THE DUMP (.gsa) THAT YtgcgjnjbhdhhgaaProg.lean LOADS. Nothing in Lean hashes anything: it is a label: what it is worth is what the hold of that sum in a sandbox is worth. -/
noncomputable def Try.pinned : Pinned := { name := "ytgcgjnjbhdhhgaa", sum := "d3fd4bc2f19e15a39b8d6f6f573692211b0aec9c30efc9498e6f8170c0fac1b8", checked := Try.checked }
namespace Rows
def none {H : Type} : Left H := { results := [], args := [] }

/-- 'forkheadlaw5.RecordsLists': WHATEVER THE INPUT: true; the input reads as it did. -/
def recordsListsSpec : ChangeSpec := { name := "recordsLists", fn := fun _ => fun
  | [d1, d2] => { results := [.lit (.bool true)], args := [d1, d2] }
  | _ => none }
def recordsListsRow : OpenClaim := { program := "ytgcgjnjbhdhhgaa", sum := "d3fd4bc2f19e15a39b8d6f6f573692211b0aec9c30efc9498e6f8170c0fac1b8", func := "forkhead/forkheadlaw5.RecordsLists", spec := "recordsLists", apart := false }
def RecordsListsSaid : Prop := recordsListsRow.holds Try.pinned (OpenSpec.ofChange recordsListsSpec)

/-- ITS FALSE NEIGHBOUR: 'it returns false'. Refute it at one input. -/
def recordsListsWrong : ChangeSpec := { name := "recordsLists", fn := fun _ => fun
  | [d1, d2] => { results := [.lit (.bool false)], args := [d1, d2] }
  | _ => none }
def RecordsListsWrongFalsely : Prop := recordsListsRow.holds Try.pinned (OpenSpec.ofChange recordsListsWrong)

/-- 'forkheadlaw5.RecordsBlocks': WHATEVER THE INPUT: true; the input reads as it did. -/
def recordsBlocksSpec : ChangeSpec := { name := "recordsBlocks", fn := fun _ => fun
  | [d1, d2] => { results := [.lit (.bool true)], args := [d1, d2] }
  | _ => none }
def recordsBlocksRow : OpenClaim := { program := "ytgcgjnjbhdhhgaa", sum := "d3fd4bc2f19e15a39b8d6f6f573692211b0aec9c30efc9498e6f8170c0fac1b8", func := "forkhead/forkheadlaw5.RecordsBlocks", spec := "recordsBlocks", apart := false }
def RecordsBlocksSaid : Prop := recordsBlocksRow.holds Try.pinned (OpenSpec.ofChange recordsBlocksSpec)

/-- ITS FALSE NEIGHBOUR: 'it returns false'. Refute it at one input. -/
def recordsBlocksWrong : ChangeSpec := { name := "recordsBlocks", fn := fun _ => fun
  | [d1, d2] => { results := [.lit (.bool false)], args := [d1, d2] }
  | _ => none }
def RecordsBlocksWrongFalsely : Prop := recordsBlocksRow.holds Try.pinned (OpenSpec.ofChange recordsBlocksWrong)

/-- 'forkheadlaw5.RecordsAttestations': WHATEVER THE INPUT: true; the input reads as it did. -/
def recordsAttestationsSpec : ChangeSpec := { name := "recordsAttestations", fn := fun _ => fun
  | [d] => { results := [.lit (.bool true)], args := [d] }
  | _ => none }
def recordsAttestationsRow : OpenClaim := { program := "ytgcgjnjbhdhhgaa", sum := "d3fd4bc2f19e15a39b8d6f6f573692211b0aec9c30efc9498e6f8170c0fac1b8", func := "forkhead/forkheadlaw5.RecordsAttestations", spec := "recordsAttestations", apart := false }
def RecordsAttestationsSaid : Prop := recordsAttestationsRow.holds Try.pinned (OpenSpec.ofChange recordsAttestationsSpec)

/-- ITS FALSE NEIGHBOUR: 'it returns false'. Refute it at one input. -/
def recordsAttestationsWrong : ChangeSpec := { name := "recordsAttestations", fn := fun _ => fun
  | [d] => { results := [.lit (.bool false)], args := [d] }
  | _ => none }
def RecordsAttestationsWrongFalsely : Prop := recordsAttestationsRow.holds Try.pinned (OpenSpec.ofChange recordsAttestationsWrong)

/-- 'forkheadlaw5.RecordsSlashings': WHATEVER THE INPUT: true; the input reads as it did. -/
def recordsSlashingsSpec : ChangeSpec := { name := "recordsSlashings", fn := fun _ => fun
  | [d] => { results := [.lit (.bool true)], args := [d] }
  | _ => none }
def recordsSlashingsRow : OpenClaim := { program := "ytgcgjnjbhdhhgaa", sum := "d3fd4bc2f19e15a39b8d6f6f573692211b0aec9c30efc9498e6f8170c0fac1b8", func := "forkhead/forkheadlaw5.RecordsSlashings", spec := "recordsSlashings", apart := false }
def RecordsSlashingsSaid : Prop := recordsSlashingsRow.holds Try.pinned (OpenSpec.ofChange recordsSlashingsSpec)

/-- ITS FALSE NEIGHBOUR: 'it returns false'. Refute it at one input. -/
def recordsSlashingsWrong : ChangeSpec := { name := "recordsSlashings", fn := fun _ => fun
  | [d] => { results := [.lit (.bool false)], args := [d] }
  | _ => none }
def RecordsSlashingsWrongFalsely : Prop := recordsSlashingsRow.holds Try.pinned (OpenSpec.ofChange recordsSlashingsWrong)

/-- 'forkheadlaw5.RecordsTables': WHATEVER THE INPUT: true; the input reads as it did. -/
def recordsTablesSpec : ChangeSpec := { name := "recordsTables", fn := fun _ => fun
  | [d1, d2] => { results := [.lit (.bool true)], args := [d1, d2] }
  | _ => none }
def recordsTablesRow : OpenClaim := { program := "ytgcgjnjbhdhhgaa", sum := "d3fd4bc2f19e15a39b8d6f6f573692211b0aec9c30efc9498e6f8170c0fac1b8", func := "forkhead/forkheadlaw5.RecordsTables", spec := "recordsTables", apart := false }
def RecordsTablesSaid : Prop := recordsTablesRow.holds Try.pinned (OpenSpec.ofChange recordsTablesSpec)

/-- ITS FALSE NEIGHBOUR: 'it returns false'. Refute it at one input. -/
def recordsTablesWrong : ChangeSpec := { name := "recordsTables", fn := fun _ => fun
  | [d1, d2] => { results := [.lit (.bool false)], args := [d1, d2] }
  | _ => none }
def RecordsTablesWrongFalsely : Prop := recordsTablesRow.holds Try.pinned (OpenSpec.ofChange recordsTablesWrong)

/-- 'forkheadlaw5.RecordsLimits': WHATEVER THE INPUT: true; the input reads as it did. -/
def recordsLimitsSpec : ChangeSpec := { name := "recordsLimits", fn := fun _ => fun
  | [d] => { results := [.lit (.bool true)], args := [d] }
  | _ => none }
def recordsLimitsRow : OpenClaim := { program := "ytgcgjnjbhdhhgaa", sum := "d3fd4bc2f19e15a39b8d6f6f573692211b0aec9c30efc9498e6f8170c0fac1b8", func := "forkhead/forkheadlaw5.RecordsLimits", spec := "recordsLimits", apart := false }
def RecordsLimitsSaid : Prop := recordsLimitsRow.holds Try.pinned (OpenSpec.ofChange recordsLimitsSpec)

/-- ITS FALSE NEIGHBOUR: 'it returns false'. Refute it at one input. -/
def recordsLimitsWrong : ChangeSpec := { name := "recordsLimits", fn := fun _ => fun
  | [d] => { results := [.lit (.bool false)], args := [d] }
  | _ => none }
def RecordsLimitsWrongFalsely : Prop := recordsLimitsRow.holds Try.pinned (OpenSpec.ofChange recordsLimitsWrong)

/-- 'forkheadlaw5.RecordsDecodes': WHATEVER THE INPUT: true; the input reads as it did. -/
def recordsDecodesSpec : ChangeSpec := { name := "recordsDecodes", fn := fun _ => fun
  | [d] => { results := [.lit (.bool true)], args := [d] }
  | _ => none }
def recordsDecodesRow : OpenClaim := { program := "ytgcgjnjbhdhhgaa", sum := "d3fd4bc2f19e15a39b8d6f6f573692211b0aec9c30efc9498e6f8170c0fac1b8", func := "forkhead/forkheadlaw5.RecordsDecodes", spec := "recordsDecodes", apart := false }
def RecordsDecodesSaid : Prop := recordsDecodesRow.holds Try.pinned (OpenSpec.ofChange recordsDecodesSpec)

/-- ITS FALSE NEIGHBOUR: 'it returns false'. Refute it at one input. -/
def recordsDecodesWrong : ChangeSpec := { name := "recordsDecodes", fn := fun _ => fun
  | [d] => { results := [.lit (.bool false)], args := [d] }
  | _ => none }
def RecordsDecodesWrongFalsely : Prop := recordsDecodesRow.holds Try.pinned (OpenSpec.ofChange recordsDecodesWrong)

/- THE SECOND FORM. 'bulk': how many values and letters a reading holds, each counted each time it is reached (what is shared counts as often as it is met; a slice's spare places count too). A statement '..UptoSaid' is the law's where the arguments, and the package variables that the reading takes, are together of bulk at most 1048576: NARROWER than '..Said'. Prove '..Said' where nothing that the law and all that it calls make is longer than what came in: it says more and counts as full. Else prove '..UptoSaid'. A law counts once. -/
mutual
def uptoBulk {H : Type} : DataW H → Nat
  | .lit (.string bytes) => bytes.length + 1
  | .lit _ => 1
  | .nil => 1
  | .ptr d => uptoBulk d + 1
  | .slice elems spare => uptoBulkAll elems + uptoBulkAll spare + 1
  | .agg parts => uptoBulkAll parts + 1
  | .iface _ d => uptoBulk d + 1
  | .map entries => uptoBulkEntries entries + 1
  | .held _ => 1
def uptoBulkAll {H : Type} : List (DataW H) → Nat
  | [] => 0
  | d :: r => uptoBulk d + uptoBulkAll r
def uptoBulkEntries {H : Type} : List (Lit × DataW H) → Nat
  | [] => 0
  | x :: r => uptoBulkEntry x + uptoBulkEntries r
def uptoBulkEntry {H : Type} : Lit × DataW H → Nat
  | (.string bytes, d) => bytes.length + uptoBulk d + 1
  | (_, d) => uptoBulk d + 1
 end
def uptoSmall : (H : Type) → List (DataW H) → Bool := fun _ ds => decide (uptoBulkAll ds ≤ 1048576)
def OpenSpec.upto (s : _root_.Go.ChangeSpec) : _root_.Go.OpenSpec := { _root_.Go.OpenSpec.ofChange s with cond := some uptoSmall }

/-- 'forkheadlaw5.RecordsLists', WHERE WHAT IT READS IS OF BULK AT MOST 1048576: true; the input reads as it did. -/
def recordsListsUptoRow : OpenClaim := { program := "ytgcgjnjbhdhhgaa", sum := "d3fd4bc2f19e15a39b8d6f6f573692211b0aec9c30efc9498e6f8170c0fac1b8", func := "forkhead/forkheadlaw5.RecordsLists", spec := "recordsLists", apart := false, narrowed := true }
def RecordsListsUptoSaid : Prop := recordsListsUptoRow.holds Try.pinned (OpenSpec.upto recordsListsSpec)

/-- 'forkheadlaw5.RecordsBlocks', WHERE WHAT IT READS IS OF BULK AT MOST 1048576: true; the input reads as it did. -/
def recordsBlocksUptoRow : OpenClaim := { program := "ytgcgjnjbhdhhgaa", sum := "d3fd4bc2f19e15a39b8d6f6f573692211b0aec9c30efc9498e6f8170c0fac1b8", func := "forkhead/forkheadlaw5.RecordsBlocks", spec := "recordsBlocks", apart := false, narrowed := true }
def RecordsBlocksUptoSaid : Prop := recordsBlocksUptoRow.holds Try.pinned (OpenSpec.upto recordsBlocksSpec)

/-- 'forkheadlaw5.RecordsAttestations', WHERE WHAT IT READS IS OF BULK AT MOST 1048576: true; the input reads as it did. -/
def recordsAttestationsUptoRow : OpenClaim := { program := "ytgcgjnjbhdhhgaa", sum := "d3fd4bc2f19e15a39b8d6f6f573692211b0aec9c30efc9498e6f8170c0fac1b8", func := "forkhead/forkheadlaw5.RecordsAttestations", spec := "recordsAttestations", apart := false, narrowed := true }
def RecordsAttestationsUptoSaid : Prop := recordsAttestationsUptoRow.holds Try.pinned (OpenSpec.upto recordsAttestationsSpec)

/-- 'forkheadlaw5.RecordsSlashings', WHERE WHAT IT READS IS OF BULK AT MOST 1048576: true; the input reads as it did. -/
def recordsSlashingsUptoRow : OpenClaim := { program := "ytgcgjnjbhdhhgaa", sum := "d3fd4bc2f19e15a39b8d6f6f573692211b0aec9c30efc9498e6f8170c0fac1b8", func := "forkhead/forkheadlaw5.RecordsSlashings", spec := "recordsSlashings", apart := false, narrowed := true }
def RecordsSlashingsUptoSaid : Prop := recordsSlashingsUptoRow.holds Try.pinned (OpenSpec.upto recordsSlashingsSpec)

/-- 'forkheadlaw5.RecordsTables', WHERE WHAT IT READS IS OF BULK AT MOST 1048576: true; the input reads as it did. -/
def recordsTablesUptoRow : OpenClaim := { program := "ytgcgjnjbhdhhgaa", sum := "d3fd4bc2f19e15a39b8d6f6f573692211b0aec9c30efc9498e6f8170c0fac1b8", func := "forkhead/forkheadlaw5.RecordsTables", spec := "recordsTables", apart := false, narrowed := true }
def RecordsTablesUptoSaid : Prop := recordsTablesUptoRow.holds Try.pinned (OpenSpec.upto recordsTablesSpec)

/-- 'forkheadlaw5.RecordsLimits', WHERE WHAT IT READS IS OF BULK AT MOST 1048576: true; the input reads as it did. -/
def recordsLimitsUptoRow : OpenClaim := { program := "ytgcgjnjbhdhhgaa", sum := "d3fd4bc2f19e15a39b8d6f6f573692211b0aec9c30efc9498e6f8170c0fac1b8", func := "forkhead/forkheadlaw5.RecordsLimits", spec := "recordsLimits", apart := false, narrowed := true }
def RecordsLimitsUptoSaid : Prop := recordsLimitsUptoRow.holds Try.pinned (OpenSpec.upto recordsLimitsSpec)

/-- 'forkheadlaw5.RecordsDecodes', WHERE WHAT IT READS IS OF BULK AT MOST 1048576: true; the input reads as it did. -/
def recordsDecodesUptoRow : OpenClaim := { program := "ytgcgjnjbhdhhgaa", sum := "d3fd4bc2f19e15a39b8d6f6f573692211b0aec9c30efc9498e6f8170c0fac1b8", func := "forkhead/forkheadlaw5.RecordsDecodes", spec := "recordsDecodes", apart := false, narrowed := true }
def RecordsDecodesUptoSaid : Prop := recordsDecodesUptoRow.holds Try.pinned (OpenSpec.upto recordsDecodesSpec)

end Rows
end Go.Proofs.Ytgcgjnjbhdhhgaa
