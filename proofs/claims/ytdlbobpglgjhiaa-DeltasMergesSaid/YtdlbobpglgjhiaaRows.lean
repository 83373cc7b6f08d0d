/-
  No cell of these rows narrows 'for every input' (looked for: loops, veiled, ifaces, maps, wideKeys, modest, calm, conditions, laid).
  DERIVED. THE GIVEN ROWS OF THIS SEAT. 6 by the template 'for every input the law returns true; each argument reads behind the call as it read before'; 0 by the template 'total and deterministic' (their statements: YtdlbobpglgjhiaaTotals.lean).
  GIVEN WITH THE SEED: the statements are not yours to turn. If you find one false, say at which input.
  Laid BY PROGRAM, IN A SANDBOX (cutbox-rows.mjs): the forced cells as the released guide's own fill.sh prints them over the translation 538713f35c765ebb… (all of the seat's roots in one cut). By AI agents, Wed Nov 11 2026. No macro, syntax, notation, axiom, sorry.
-/
import Derived.Test.YtdlbobpglgjhiaaChecked
import GoSem.Claim
import GoSem.ClaimJoined
import GoSem.ClaimMapViews
import Derived.JoinedTies
import Derived.KernelRfl
namespace Go.Proofs.Ytdlbobpglgjhiaa
/- THE CELL 'sum', in the pinned program and in every row, IS THE sha256 OF THE DUMP (.gsa) THAT YtdlbobpglgjhiaaProg.lean LOADS. Nothing in Lean hashes anything: it is a label: what it is worth is what the hold of that sum in a sandbox is worth. -/
noncomputable def Try.pinned : Pinned := { name := "ytdlbobpglgjhiaa", sum := "538713f35c765ebb4f93ab2b8481a27b843f58d90bf2c26624959bef62abd23d", checked := Try.checked }
namespace Rows
def none {H : Type} : Left H := { results := [], args := [] }

/-- 'forkheadlaw14.DeltasMoves': WHATEVER THE INPUT: true; the input reads as it did. -/
def deltasMovesSpec : ChangeSpec := { name := "deltasMoves", fn := fun _ => fun
  | [d1, d2, d3] => { results := [.lit (.bool true)], args := [d1, d2, d3] }
  | _ => none }
def deltasMovesRow : OpenClaim := { program := "ytdlbobpglgjhiaa", sum := "538713f35c765ebb4f93ab2b8481a27b843f58d90bf2c26624959bef62abd23d", func := "forkhead/forkheadlaw14.DeltasMoves", spec := "deltasMoves", inPlace := ["math/bits.Add64"], plainKeys := false, apart := false }
def DeltasMovesSaid : Prop := deltasMovesRow.holds Try.pinned (OpenSpec.ofChange deltasMovesSpec)

/-- ITS FALSE NEIGHBOUR: 'it returns false'. Refute it at one input. -/
def deltasMovesWrong : ChangeSpec := { name := "deltasMoves", fn := fun _ => fun
  | [d1, d2, d3] => { results := [.lit (.bool false)], args := [d1, d2, d3] }
  | _ => none }
def DeltasMovesWrongFalsely : Prop := deltasMovesRow.holds Try.pinned (OpenSpec.ofChange deltasMovesWrong)

/-- 'forkheadlaw14.DeltasApplies': WHATEVER THE INPUT: true; the input reads as it did. -/
def deltasAppliesSpec : ChangeSpec := { name := "deltasApplies", fn := fun _ => fun
  | [d1, d2, d3, d4] => { results := [.lit (.bool true)], args := [d1, d2, d3, d4] }
  | _ => none }
def deltasAppliesRow : OpenClaim := { program := "ytdlbobpglgjhiaa", sum := "538713f35c765ebb4f93ab2b8481a27b843f58d90bf2c26624959bef62abd23d", func := "forkhead/forkheadlaw14.DeltasApplies", spec := "deltasApplies", inPlace := ["math/bits.Add64"], recurses := true, plainKeys := false, apart := false }
def DeltasAppliesSaid : Prop := deltasAppliesRow.holds Try.pinned (OpenSpec.ofChange deltasAppliesSpec)

/-- ITS FALSE NEIGHBOUR: 'it returns false'. Refute it at one input. -/
def deltasAppliesWrong : ChangeSpec := { name := "deltasApplies", fn := fun _ => fun
  | [d1, d2, d3, d4] => { results := [.lit (.bool false)], args := [d1, d2, d3, d4] }
  | _ => none }
def DeltasAppliesWrongFalsely : Prop := deltasAppliesRow.holds Try.pinned (OpenSpec.ofChange deltasAppliesWrong)

/-- 'forkheadlaw14.DeltasOnePass': WHATEVER THE INPUT: true; the input reads as it did. -/
def deltasOnePassSpec : ChangeSpec := { name := "deltasOnePass", fn := fun _ => fun
  | [d1, d2, d3] => { results := [.lit (.bool true)], args := [d1, d2, d3] }
  | _ => none }
def deltasOnePassRow : OpenClaim := { program := "ytdlbobpglgjhiaa", sum := "538713f35c765ebb4f93ab2b8481a27b843f58d90bf2c26624959bef62abd23d", func := "forkhead/forkheadlaw14.DeltasOnePass", spec := "deltasOnePass", inPlace := ["math/bits.Add64"], plainKeys := false, apart := false }
def DeltasOnePassSaid : Prop := deltasOnePassRow.holds Try.pinned (OpenSpec.ofChange deltasOnePassSpec)

/-- ITS FALSE NEIGHBOUR: 'it returns false'. Refute it at one input. -/
def deltasOnePassWrong : ChangeSpec := { name := "deltasOnePass", fn := fun _ => fun
  | [d1, d2, d3] => { results := [.lit (.bool false)], args := [d1, d2, d3] }
  | _ => none }
def DeltasOnePassWrongFalsely : Prop := deltasOnePassRow.holds Try.pinned (OpenSpec.ofChange deltasOnePassWrong)

/-- 'forkheadlaw14.DeltasVotes': WHATEVER THE INPUT: true; the input reads as it did. -/
def deltasVotesSpec : ChangeSpec := { name := "deltasVotes", fn := fun _ => fun
  | [d1, d2, d3] => { results := [.lit (.bool true)], args := [d1, d2, d3] }
  | _ => none }
def deltasVotesRow : OpenClaim := { program := "ytdlbobpglgjhiaa", sum := "538713f35c765ebb4f93ab2b8481a27b843f58d90bf2c26624959bef62abd23d", func := "forkhead/forkheadlaw14.DeltasVotes", spec := "deltasVotes", inPlace := ["math/bits.Add64"], recurses := true, plainKeys := false, apart := false }
def DeltasVotesSaid : Prop := deltasVotesRow.holds Try.pinned (OpenSpec.ofChange deltasVotesSpec)

/-- ITS FALSE NEIGHBOUR: 'it returns false'. Refute it at one input. -/
def deltasVotesWrong : ChangeSpec := { name := "deltasVotes", fn := fun _ => fun
  | [d1, d2, d3] => { results := [.lit (.bool false)], args := [d1, d2, d3] }
  | _ => none }
def DeltasVotesWrongFalsely : Prop := deltasVotesRow.holds Try.pinned (OpenSpec.ofChange deltasVotesWrong)

/-- 'forkheadlaw14.DeltasMerges': WHATEVER THE INPUT: true; the input reads as it did. -/
def deltasMergesSpec : ChangeSpec := { name := "deltasMerges", fn := fun _ => fun
  | [d1, d2, d3, d4] => { results := [.lit (.bool true)], args := [d1, d2, d3, d4] }
  | _ => none }
def deltasMergesRow : OpenClaim := { program := "ytdlbobpglgjhiaa", sum := "538713f35c765ebb4f93ab2b8481a27b843f58d90bf2c26624959bef62abd23d", func := "forkhead/forkheadlaw14.DeltasMerges", spec := "deltasMerges", inPlace := ["math/bits.Add64"], plainKeys := false, apart := false }
def DeltasMergesSaid : Prop := deltasMergesRow.holds Try.pinned (OpenSpec.ofChange deltasMergesSpec)

/-- ITS FALSE NEIGHBOUR: 'it returns false'. Refute it at one input. -/
def deltasMergesWrong : ChangeSpec := { name := "deltasMerges", fn := fun _ => fun
  | [d1, d2, d3, d4] => { results := [.lit (.bool false)], args := [d1, d2, d3, d4] }
  | _ => none }
def DeltasMergesWrongFalsely : Prop := deltasMergesRow.holds Try.pinned (OpenSpec.ofChange deltasMergesWrong)

/-- 'forkheadlaw14.DeltasTogether': WHATEVER THE INPUT: true; the input reads as it did. -/
def deltasTogetherSpec : ChangeSpec := { name := "deltasTogether", fn := fun _ => fun
  | [d1, d2, d3, d4] => { results := [.lit (.bool true)], args := [d1, d2, d3, d4] }
  | _ => none }
def deltasTogetherRow : OpenClaim := { program := "ytdlbobpglgjhiaa", sum := "538713f35c765ebb4f93ab2b8481a27b843f58d90bf2c26624959bef62abd23d", func := "forkhead/forkheadlaw14.DeltasTogether", spec := "deltasTogether", inPlace := ["math/bits.Add64"], plainKeys := false, apart := false }
def DeltasTogetherSaid : Prop := deltasTogetherRow.holds Try.pinned (OpenSpec.ofChange deltasTogetherSpec)

/-- ITS FALSE NEIGHBOUR: 'it returns false'. Refute it at one input. -/
def deltasTogetherWrong : ChangeSpec := { name := "deltasTogether", fn := fun _ => fun
  | [d1, d2, d3, d4] => { results := [.lit (.bool false)], args := [d1, d2, d3, d4] }
  | _ => none }
def DeltasTogetherWrongFalsely : Prop := deltasTogetherRow.holds Try.pinned (OpenSpec.ofChange deltasTogetherWrong)

/- THE SECOND FORM. 'bulk': how many values and letters a reading holds, each counted each time it is reached (what is shared counts as often as it is met; a slice's spare places count too). A statement '..UptoSaid' is the law's where the arguments, and the package variables that the reading takes, are together of bulk at most 1048576: NARROWER than '..Said'. Prove '..Said' where nothing that the law and all that it calls make is longer than what came in: it says more and counts as full. Else prove '..UptoSaid'. A law counts once. -/
mutual
def uptoBulk {H : Type} : DataW H → Nat
  | .lit (.string bytes) => bytes.length + 1
  | .lit _ => 1
  | .nil => 1
  | .ptr d => uptoBulk d + 1
  | .slice elems spare => uptoBulkAll elems + uptoBulkAll spare + 1
  | .agg parts => uptoBulkAll parts + 1
  | .iface _ d => uptoBulk d + 1
  | .map entries => uptoBulkEntries entries + 1
  | .held _ => 1
def uptoBulkAll {H : Type} : List (DataW H) → Nat
  | [] => 0
  | d :: r => uptoBulk d + uptoBulkAll r
def uptoBulkEntries {H : Type} : List (Lit × DataW H) → Nat
  | [] => 0
  | x :: r => uptoBulkEntry x + uptoBulkEntries r
def uptoBulkEntry {H : Type} : Lit × DataW H → Nat
  | (.string bytes, d) => bytes.length + uptoBulk d + 1
  | (_, d) => uptoBulk d + 1
 end
def uptoSmall : (H : Type) → List (DataW H) → Bool := fun _ ds => decide (uptoBulkAll ds ≤ 1048576)
def OpenSpec.upto (s : _root_.Go.ChangeSpec) : _root_.Go.OpenSpec := { _root_.Go.OpenSpec.ofChange s with cond := some uptoSmall }

/-- 'forkheadlaw14.DeltasMoves', WHERE WHAT IT READS IS OF BULK AT MOST 1048576: true; the input reads as it did. -/
def deltasMovesUptoRow : OpenClaim := { program := "ytdlbobpglgjhiaa", sum := "538713f35c765ebb4f93ab2b8481a27b843f58d90bf2c26624959bef62abd23d", func := "forkhead/forkheadlaw14.DeltasMoves", spec := "deltasMoves", inPlace := ["math/bits.Add64"], plainKeys := false, apart := false, narrowed := true }
def DeltasMovesUptoSaid : Prop := deltasMovesUptoRow.holds Try.pinned (OpenSpec.upto deltasMovesSpec)

/-- 'forkheadlaw14.DeltasApplies', WHERE WHAT IT READS IS OF BULK AT MOST 1048576: true; the input reads as it did. -/
def deltasAppliesUptoRow : OpenClaim := { program := "ytdlbobpglgjhiaa", sum := "538713f35c765ebb4f93ab2b8481a27b843f58d90bf2c26624959bef62abd23d", func := "forkhead/forkheadlaw14.DeltasApplies", spec := "deltasApplies", inPlace := ["math/bits.Add64"], recurses := true, plainKeys := false, apart := false, narrowed := true }
def DeltasAppliesUptoSaid : Prop := deltasAppliesUptoRow.holds Try.pinned (OpenSpec.upto deltasAppliesSpec)

/-- 'forkheadlaw14.DeltasOnePass', WHERE WHAT IT READS IS OF BULK AT MOST 1048576: true; the input reads as it did. -/
def deltasOnePassUptoRow : OpenClaim := { program := "ytdlbobpglgjhiaa", sum := "538713f35c765ebb4f93ab2b8481a27b843f58d90bf2c26624959bef62abd23d", func := "forkhead/forkheadlaw14.DeltasOnePass", spec := "deltasOnePass", inPlace := ["math/bits.Add64"], plainKeys := false, apart := false, narrowed := true }
def DeltasOnePassUptoSaid : Prop := deltasOnePassUptoRow.holds Try.pinned (OpenSpec.upto deltasOnePassSpec)

/-- 'forkheadlaw14.DeltasVotes', WHERE WHAT IT READS IS OF BULK AT MOST 1048576: true; the input reads as it did. -/
def deltasVotesUptoRow : OpenClaim := { program := "ytdlbobpglgjhiaa", sum := "538713f35c765ebb4f93ab2b8481a27b843f58d90bf2c26624959bef62abd23d", func := "forkhead/forkheadlaw14.DeltasVotes", spec := "deltasVotes", inPlace := ["math/bits.Add64"], recurses := true, plainKeys := false, apart := false, narrowed := true }
def DeltasVotesUptoSaid : Prop := deltasVotesUptoRow.holds Try.pinned (OpenSpec.upto deltasVotesSpec)

/-- 'forkheadlaw14.DeltasMerges', WHERE WHAT IT READS IS OF BULK AT MOST 1048576: true; the input reads as it did. -/
def deltasMergesUptoRow : OpenClaim := { program := "ytdlbobpglgjhiaa", sum := "538713f35c765ebb4f93ab2b8481a27b843f58d90bf2c26624959bef62abd23d", func := "forkhead/forkheadlaw14.DeltasMerges", spec := "deltasMerges", inPlace := ["math/bits.Add64"], plainKeys := false, apart := false, narrowed := true }
def DeltasMergesUptoSaid : Prop := deltasMergesUptoRow.holds Try.pinned (OpenSpec.upto deltasMergesSpec)

/-- 'forkheadlaw14.DeltasTogether', WHERE WHAT IT READS IS OF BULK AT MOST 1048576: true; the input reads as it did. -/
def deltasTogetherUptoRow : OpenClaim := { program := "ytdlbobpglgjhiaa", sum := "538713f35c765ebb4f93ab2b8481a27b843f58d90bf2c26624959bef62abd23d", func := "forkhead/forkheadlaw14.DeltasTogether", spec := "deltasTogether", inPlace := ["math/bits.Add64"], plainKeys := false, apart := false, narrowed := true }
def DeltasTogetherUptoSaid : Prop := deltasTogetherUptoRow.holds Try.pinned (OpenSpec.upto deltasTogetherSpec)

end Rows
end Go.Proofs.Ytdlbobpglgjhiaa
