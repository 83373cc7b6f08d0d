/-
  No cell of these rows narrows 'for every input' (looked for: loops, veiled, ifaces, maps, wideKeys, modest, calm, conditions, laid).
  DERIVED. THE GIVEN ROWS OF THIS SEAT. 5 by the template 'for every input the law returns true; each argument reads behind the call as it read before'; 0 by the template 'total and deterministic' (their statements: YtlbhkgmlfapjgaaTotals.lean).
  GIVEN WITH THE SEED: the statements are not yours to turn. If you find one false, say at which input.
  Laid BY PROGRAM, IN A SANDBOX (cutbox-rows.mjs): the forced cells as the released guide's own fill.sh prints them over the translation 5b21412ee84dc271… (all of the seat's roots in one cut). By AI agents, Wed Nov 11 2026. No macro, syntax, notation, axiom, sorry.
-/
import Derived.Test.YtlbhkgmlfapjgaaChecked
import GoSem.Claim
import GoSem.ClaimJoined
import GoSem.ClaimMapViews
import Derived.JoinedTies
import Derived.KernelRfl
namespace Go.Proofs.Ytlbhkgmlfapjgaa
/- THE CELL 'sum', in the pinned program and in every row, IS THE sha256 OF THE DUMP (.gsa) THAT YtlbhkgmlfapjgaaProg.lean LOADS. Nothing in Lean hashes anything: it is a label: what it is worth is what the hold of that sum in a sandbox is worth. -/
noncomputable def Try.pinned : Pinned := { name := "ytlbhkgmlfapjgaa", sum := "5b21412ee84dc2718c6f42e716de6e3d4d3d852f0cb8468b75d1312aa67687ae", checked := Try.checked }
namespace Rows
def none {H : Type} : Left H := { results := [], args := [] }

/-- 'forkheadlaw9.EquivocationClaims': WHATEVER THE INPUT: true; the input reads as it did. -/
def equivocationClaimsSpec : ChangeSpec := { name := "equivocationClaims", fn := fun _ => fun
  | [d1, d2] => { results := [.lit (.bool true)], args := [d1, d2] }
  | _ => none }
def equivocationClaimsRow : OpenClaim := { program := "ytlbhkgmlfapjgaa", sum := "5b21412ee84dc2718c6f42e716de6e3d4d3d852f0cb8468b75d1312aa67687ae", func := "forkhead/forkheadlaw9.EquivocationClaims", spec := "equivocationClaims", apart := false }
def EquivocationClaimsSaid : Prop := equivocationClaimsRow.holds Try.pinned (OpenSpec.ofChange equivocationClaimsSpec)

/-- ITS FALSE NEIGHBOUR: 'it returns false'. Refute it at one input. -/
def equivocationClaimsWrong : ChangeSpec := { name := "equivocationClaims", fn := fun _ => fun
  | [d1, d2] => { results := [.lit (.bool false)], args := [d1, d2] }
  | _ => none }
def EquivocationClaimsWrongFalsely : Prop := equivocationClaimsRow.holds Try.pinned (OpenSpec.ofChange equivocationClaimsWrong)

/-- 'forkheadlaw9.EquivocationEvidence': WHATEVER THE INPUT: true; the input reads as it did. -/
def equivocationEvidenceSpec : ChangeSpec := { name := "equivocationEvidence", fn := fun _ => fun
  | [d1, d2] => { results := [.lit (.bool true)], args := [d1, d2] }
  | _ => none }
def equivocationEvidenceRow : OpenClaim := { program := "ytlbhkgmlfapjgaa", sum := "5b21412ee84dc2718c6f42e716de6e3d4d3d852f0cb8468b75d1312aa67687ae", func := "forkhead/forkheadlaw9.EquivocationEvidence", spec := "equivocationEvidence", unfollowed := true, recurses := true, apart := false }
def EquivocationEvidenceSaid : Prop := equivocationEvidenceRow.holds Try.pinned (OpenSpec.ofChange equivocationEvidenceSpec)

/-- ITS FALSE NEIGHBOUR: 'it returns false'. Refute it at one input. -/
def equivocationEvidenceWrong : ChangeSpec := { name := "equivocationEvidence", fn := fun _ => fun
  | [d1, d2] => { results := [.lit (.bool false)], args := [d1, d2] }
  | _ => none }
def EquivocationEvidenceWrongFalsely : Prop := equivocationEvidenceRow.holds Try.pinned (OpenSpec.ofChange equivocationEvidenceWrong)

/-- 'forkheadlaw9.EquivocationBuilt': WHATEVER THE INPUT: true; the input reads as it did. -/
def equivocationBuiltSpec : ChangeSpec := { name := "equivocationBuilt", fn := fun _ => fun
  | [d1, d2] => { results := [.lit (.bool true)], args := [d1, d2] }
  | _ => none }
def equivocationBuiltRow : OpenClaim := { program := "ytlbhkgmlfapjgaa", sum := "5b21412ee84dc2718c6f42e716de6e3d4d3d852f0cb8468b75d1312aa67687ae", func := "forkhead/forkheadlaw9.EquivocationBuilt", spec := "equivocationBuilt", unfollowed := true, recurses := true, apart := false }
def EquivocationBuiltSaid : Prop := equivocationBuiltRow.holds Try.pinned (OpenSpec.ofChange equivocationBuiltSpec)

/-- ITS FALSE NEIGHBOUR: 'it returns false'. Refute it at one input. -/
def equivocationBuiltWrong : ChangeSpec := { name := "equivocationBuilt", fn := fun _ => fun
  | [d1, d2] => { results := [.lit (.bool false)], args := [d1, d2] }
  | _ => none }
def EquivocationBuiltWrongFalsely : Prop := equivocationBuiltRow.holds Try.pinned (OpenSpec.ofChange equivocationBuiltWrong)

/-- 'forkheadlaw9.EquivocationSets': WHATEVER THE INPUT: true; the input reads as it did. -/
def equivocationSetsSpec : ChangeSpec := { name := "equivocationSets", fn := fun _ => fun
  | [d1, d2] => { results := [.lit (.bool true)], args := [d1, d2] }
  | _ => none }
def equivocationSetsRow : OpenClaim := { program := "ytlbhkgmlfapjgaa", sum := "5b21412ee84dc2718c6f42e716de6e3d4d3d852f0cb8468b75d1312aa67687ae", func := "forkhead/forkheadlaw9.EquivocationSets", spec := "equivocationSets", apart := false }
def EquivocationSetsSaid : Prop := equivocationSetsRow.holds Try.pinned (OpenSpec.ofChange equivocationSetsSpec)

/-- ITS FALSE NEIGHBOUR: 'it returns false'. Refute it at one input. -/
def equivocationSetsWrong : ChangeSpec := { name := "equivocationSets", fn := fun _ => fun
  | [d1, d2] => { results := [.lit (.bool false)], args := [d1, d2] }
  | _ => none }
def EquivocationSetsWrongFalsely : Prop := equivocationSetsRow.holds Try.pinned (OpenSpec.ofChange equivocationSetsWrong)

/-- 'forkheadlaw9.EquivocationRange': WHATEVER THE INPUT: true; the input reads as it did. -/
def equivocationRangeSpec : ChangeSpec := { name := "equivocationRange", fn := fun _ => fun
  | [d] => { results := [.lit (.bool true)], args := [d] }
  | _ => none }
def equivocationRangeRow : OpenClaim := { program := "ytlbhkgmlfapjgaa", sum := "5b21412ee84dc2718c6f42e716de6e3d4d3d852f0cb8468b75d1312aa67687ae", func := "forkhead/forkheadlaw9.EquivocationRange", spec := "equivocationRange", apart := false }
def EquivocationRangeSaid : Prop := equivocationRangeRow.holds Try.pinned (OpenSpec.ofChange equivocationRangeSpec)

/-- ITS FALSE NEIGHBOUR: 'it returns false'. Refute it at one input. -/
def equivocationRangeWrong : ChangeSpec := { name := "equivocationRange", fn := fun _ => fun
  | [d] => { results := [.lit (.bool false)], args := [d] }
  | _ => none }
def EquivocationRangeWrongFalsely : Prop := equivocationRangeRow.holds Try.pinned (OpenSpec.ofChange equivocationRangeWrong)

/- THE SECOND FORM. 'bulk': how many values and letters a reading holds, each counted each time it is reached (what is shared counts as often as it is met; a slice's spare places count too). A statement '..UptoSaid' is the law's where the arguments, and the package variables that the reading takes, are together of bulk at most 1048576: NARROWER than '..Said'. Prove '..Said' where nothing that the law and all that it calls make is longer than what came in: it says more and counts as full. Else prove '..UptoSaid'. A law counts once. -/
mutual
def uptoBulk {H : Type} : DataW H → Nat
  | .lit (.string bytes) => bytes.length + 1
  | .lit _ => 1
  | .nil => 1
  | .ptr d => uptoBulk d + 1
  | .slice elems spare => uptoBulkAll elems + uptoBulkAll spare + 1
  | .agg parts => uptoBulkAll parts + 1
  | .iface _ d => uptoBulk d + 1
  | .map entries => uptoBulkEntries entries + 1
  | .held _ => 1
def uptoBulkAll {H : Type} : List (DataW H) → Nat
  | [] => 0
  | d :: r => uptoBulk d + uptoBulkAll r
def uptoBulkEntries {H : Type} : List (Lit × DataW H) → Nat
  | [] => 0
  | x :: r => uptoBulkEntry x + uptoBulkEntries r
def uptoBulkEntry {H : Type} : Lit × DataW H → Nat
  | (.string bytes, d) => bytes.length + uptoBulk d + 1
  | (_, d) => uptoBulk d + 1
 end
def uptoSmall : (H : Type) → List (DataW H) → Bool := fun _ ds => decide (uptoBulkAll ds ≤ 1048576)
def OpenSpec.upto (s : _root_.Go.ChangeSpec) : _root_.Go.OpenSpec := { _root_.Go.OpenSpec.ofChange s with cond := some uptoSmall }

/-- 'forkheadlaw9.EquivocationClaims', WHERE WHAT IT READS IS OF BULK AT MOST 1048576: true; the input reads as it did. -/
def equivocationClaimsUptoRow : OpenClaim := { program := "ytlbhkgmlfapjgaa", sum := "5b21412ee84dc2718c6f42e716de6e3d4d3d852f0cb8468b75d1312aa67687ae", func := "forkhead/forkheadlaw9.EquivocationClaims", spec := "equivocationClaims", apart := false, narrowed := true }
def EquivocationClaimsUptoSaid : Prop := equivocationClaimsUptoRow.holds Try.pinned (OpenSpec.upto equivocationClaimsSpec)

/-- 'forkheadlaw9.EquivocationEvidence', WHERE WHAT IT READS IS OF BULK AT MOST 1048576: true; the input reads as it did. -/
def equivocationEvidenceUptoRow : OpenClaim := { program := "ytlbhkgmlfapjgaa", sum := "5b21412ee84dc2718c6f42e716de6e3d4d3d852f0cb8468b75d1312aa67687ae", func := "forkhead/forkheadlaw9.EquivocationEvidence", spec := "equivocationEvidence", unfollowed := true, recurses := true, apart := false, narrowed := true }
def EquivocationEvidenceUptoSaid : Prop := equivocationEvidenceUptoRow.holds Try.pinned (OpenSpec.upto equivocationEvidenceSpec)

/-- 'forkheadlaw9.EquivocationBuilt', WHERE WHAT IT READS IS OF BULK AT MOST 1048576: true; the input reads as it did. -/
def equivocationBuiltUptoRow : OpenClaim := { program := "ytlbhkgmlfapjgaa", sum := "5b21412ee84dc2718c6f42e716de6e3d4d3d852f0cb8468b75d1312aa67687ae", func := "forkhead/forkheadlaw9.EquivocationBuilt", spec := "equivocationBuilt", unfollowed := true, recurses := true, apart := false, narrowed := true }
def EquivocationBuiltUptoSaid : Prop := equivocationBuiltUptoRow.holds Try.pinned (OpenSpec.upto equivocationBuiltSpec)

/-- 'forkheadlaw9.EquivocationSets', WHERE WHAT IT READS IS OF BULK AT MOST 1048576: true; the input reads as it did. -/
def equivocationSetsUptoRow : OpenClaim := { program := "ytlbhkgmlfapjgaa", sum := "5b21412ee84dc2718c6f42e716de6e3d4d3d852f0cb8468b75d1312aa67687ae", func := "forkhead/forkheadlaw9.EquivocationSets", spec := "equivocationSets", apart := false, narrowed := true }
def EquivocationSetsUptoSaid : Prop := equivocationSetsUptoRow.holds Try.pinned (OpenSpec.upto equivocationSetsSpec)

/-- 'forkheadlaw9.EquivocationRange', WHERE WHAT IT READS IS OF BULK AT MOST 1048576: true; the input reads as it did. -/
def equivocationRangeUptoRow : OpenClaim := { program := "ytlbhkgmlfapjgaa", sum := "5b21412ee84dc2718c6f42e716de6e3d4d3d852f0cb8468b75d1312aa67687ae", func := "forkhead/forkheadlaw9.EquivocationRange", spec := "equivocationRange", apart := false, narrowed := true }
def EquivocationRangeUptoSaid : Prop := equivocationRangeUptoRow.holds Try.pinned (OpenSpec.upto equivocationRangeSpec)

end Rows
end Go.Proofs.Ytlbhkgmlfapjgaa
