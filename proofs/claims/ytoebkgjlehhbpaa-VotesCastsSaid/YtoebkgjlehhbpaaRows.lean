/-
  No cell of these rows narrows 'for every input' (looked for: loops, veiled, ifaces, maps, wideKeys, modest, calm, conditions, laid).
  DERIVED. THE GIVEN ROWS OF THIS SEAT. 4 by the template 'for every input the law returns true; each argument reads behind the call as it read before'; 0 by the template 'total and deterministic' (their statements: YtoebkgjlehhbpaaTotals.lean).
  GIVEN WITH THE SEED: the statements are not yours to turn. If you find one false, say at which input.
  Laid BY PROGRAM, IN A SANDBOX (cutbox-rows.mjs): the forced cells as the released guide's own fill.sh prints them over the translation e3a4987b3315291c… (all of the seat's roots in one cut). By AI agents, Wed Nov 11 2026. No macro, syntax, notation, axiom, sorry.
-/
import Derived.Test.YtoebkgjlehhbpaaChecked
import GoSem.Claim
import GoSem.ClaimJoined
import GoSem.ClaimMapViews
import Derived.JoinedTies
import Derived.KernelRfl
namespace Go.Proofs.Ytoebkgjlehhbpaa
/- THE CELL 'sum', in the pinned program and in every row, IS THE sha256 OF THE DUMP (.gsa) THAT YtoebkgjlehhbpaaProg.lean LOADS. Nothing in Lean hashes anything: it is a label: what it is worth is what the hold of that sum in a sandbox is worth. -/
noncomputable def Try.pinned : Pinned := { name := "ytoebkgjlehhbpaa", sum := "e3a4987b3315291c475dc144760c0ea483e2ff2bea16bbc964f758b0a917a881", checked := Try.checked }
namespace Rows
def none {H : Type} : Left H := { results := [], args := [] }

/-- 'forkheadlaw8.VotesTables': WHATEVER THE INPUT: true; the input reads as it did. -/
def votesTablesSpec : ChangeSpec := { name := "votesTables", fn := fun _ => fun
  | [d] => { results := [.lit (.bool true)], args := [d] }
  | _ => none }
def votesTablesRow : OpenClaim := { program := "ytoebkgjlehhbpaa", sum := "e3a4987b3315291c475dc144760c0ea483e2ff2bea16bbc964f758b0a917a881", func := "forkhead/forkheadlaw8.VotesTables", spec := "votesTables", apart := false }
def VotesTablesSaid : Prop := votesTablesRow.holds Try.pinned (OpenSpec.ofChange votesTablesSpec)

/-- ITS FALSE NEIGHBOUR: 'it returns false'. Refute it at one input. -/
def votesTablesWrong : ChangeSpec := { name := "votesTables", fn := fun _ => fun
  | [d] => { results := [.lit (.bool false)], args := [d] }
  | _ => none }
def VotesTablesWrongFalsely : Prop := votesTablesRow.holds Try.pinned (OpenSpec.ofChange votesTablesWrong)

/-- 'forkheadlaw8.VotesCasts': WHATEVER THE INPUT: true; the input reads as it did. -/
def votesCastsSpec : ChangeSpec := { name := "votesCasts", fn := fun _ => fun
  | [d1, d2] => { results := [.lit (.bool true)], args := [d1, d2] }
  | _ => none }
def votesCastsRow : OpenClaim := { program := "ytoebkgjlehhbpaa", sum := "e3a4987b3315291c475dc144760c0ea483e2ff2bea16bbc964f758b0a917a881", func := "forkhead/forkheadlaw8.VotesCasts", spec := "votesCasts", apart := false }
def VotesCastsSaid : Prop := votesCastsRow.holds Try.pinned (OpenSpec.ofChange votesCastsSpec)

/-- ITS FALSE NEIGHBOUR: 'it returns false'. Refute it at one input. -/
def votesCastsWrong : ChangeSpec := { name := "votesCasts", fn := fun _ => fun
  | [d1, d2] => { results := [.lit (.bool false)], args := [d1, d2] }
  | _ => none }
def VotesCastsWrongFalsely : Prop := votesCastsRow.holds Try.pinned (OpenSpec.ofChange votesCastsWrong)

/-- 'forkheadlaw8.VotesLatest': WHATEVER THE INPUT: true; the input reads as it did. -/
def votesLatestSpec : ChangeSpec := { name := "votesLatest", fn := fun _ => fun
  | [d] => { results := [.lit (.bool true)], args := [d] }
  | _ => none }
def votesLatestRow : OpenClaim := { program := "ytoebkgjlehhbpaa", sum := "e3a4987b3315291c475dc144760c0ea483e2ff2bea16bbc964f758b0a917a881", func := "forkhead/forkheadlaw8.VotesLatest", spec := "votesLatest", apart := false }
def VotesLatestSaid : Prop := votesLatestRow.holds Try.pinned (OpenSpec.ofChange votesLatestSpec)

/-- ITS FALSE NEIGHBOUR: 'it returns false'. Refute it at one input. -/
def votesLatestWrong : ChangeSpec := { name := "votesLatest", fn := fun _ => fun
  | [d] => { results := [.lit (.bool false)], args := [d] }
  | _ => none }
def VotesLatestWrongFalsely : Prop := votesLatestRow.holds Try.pinned (OpenSpec.ofChange votesLatestWrong)

/-- 'forkheadlaw8.VotesCopies': WHATEVER THE INPUT: true; the input reads as it did. -/
def votesCopiesSpec : ChangeSpec := { name := "votesCopies", fn := fun _ => fun
  | [d] => { results := [.lit (.bool true)], args := [d] }
  | _ => none }
def votesCopiesRow : OpenClaim := { program := "ytoebkgjlehhbpaa", sum := "e3a4987b3315291c475dc144760c0ea483e2ff2bea16bbc964f758b0a917a881", func := "forkhead/forkheadlaw8.VotesCopies", spec := "votesCopies", apart := false }
def VotesCopiesSaid : Prop := votesCopiesRow.holds Try.pinned (OpenSpec.ofChange votesCopiesSpec)

/-- ITS FALSE NEIGHBOUR: 'it returns false'. Refute it at one input. -/
def votesCopiesWrong : ChangeSpec := { name := "votesCopies", fn := fun _ => fun
  | [d] => { results := [.lit (.bool false)], args := [d] }
  | _ => none }
def VotesCopiesWrongFalsely : Prop := votesCopiesRow.holds Try.pinned (OpenSpec.ofChange votesCopiesWrong)

/- THE SECOND FORM. 'bulk': how many values and letters a reading holds, each counted each time it is reached (what is shared counts as often as it is met; a slice's spare places count too). A statement '..UptoSaid' is the law's where the arguments, and the package variables that the reading takes, are together of bulk at most 1048576: NARROWER than '..Said'. Prove '..Said' where nothing that the law and all that it calls make is longer than what came in: it says more and counts as full. Else prove '..UptoSaid'. A law counts once. -/
mutual
def uptoBulk {H : Type} : DataW H → Nat
  | .lit (.string bytes) => bytes.length + 1
  | .lit _ => 1
  | .nil => 1
  | .ptr d => uptoBulk d + 1
  | .slice elems spare => uptoBulkAll elems + uptoBulkAll spare + 1
  | .agg parts => uptoBulkAll parts + 1
  | .iface _ d => uptoBulk d + 1
  | .map entries => uptoBulkEntries entries + 1
  | .held _ => 1
def uptoBulkAll {H : Type} : List (DataW H) → Nat
  | [] => 0
  | d :: r => uptoBulk d + uptoBulkAll r
def uptoBulkEntries {H : Type} : List (Lit × DataW H) → Nat
  | [] => 0
  | x :: r => uptoBulkEntry x + uptoBulkEntries r
def uptoBulkEntry {H : Type} : Lit × DataW H → Nat
  | (.string bytes, d) => bytes.length + uptoBulk d + 1
  | (_, d) => uptoBulk d + 1
 end
def uptoSmall : (H : Type) → List (DataW H) → Bool := fun _ ds => decide (uptoBulkAll ds ≤ 1048576)
def OpenSpec.upto (s : _root_.Go.ChangeSpec) : _root_.Go.OpenSpec := { _root_.Go.OpenSpec.ofChange s with cond := some uptoSmall }

/-- 'forkheadlaw8.VotesTables', WHERE WHAT IT READS IS OF BULK AT MOST 1048576: true; the input reads as it did. -/
def votesTablesUptoRow : OpenClaim := { program := "ytoebkgjlehhbpaa", sum := "e3a4987b3315291c475dc144760c0ea483e2ff2bea16bbc964f758b0a917a881", func := "forkhead/forkheadlaw8.VotesTables", spec := "votesTables", apart := false, narrowed := true }
def VotesTablesUptoSaid : Prop := votesTablesUptoRow.holds Try.pinned (OpenSpec.upto votesTablesSpec)

/-- 'forkheadlaw8.VotesCasts', WHERE WHAT IT READS IS OF BULK AT MOST 1048576: true; the input reads as it did. -/
def votesCastsUptoRow : OpenClaim := { program := "ytoebkgjlehhbpaa", sum := "e3a4987b3315291c475dc144760c0ea483e2ff2bea16bbc964f758b0a917a881", func := "forkhead/forkheadlaw8.VotesCasts", spec := "votesCasts", apart := false, narrowed := true }
def VotesCastsUptoSaid : Prop := votesCastsUptoRow.holds Try.pinned (OpenSpec.upto votesCastsSpec)

/-- 'forkheadlaw8.VotesLatest', WHERE WHAT IT READS IS OF BULK AT MOST 1048576: true; the input reads as it did. -/
def votesLatestUptoRow : OpenClaim := { program := "ytoebkgjlehhbpaa", sum := "e3a4987b3315291c475dc144760c0ea483e2ff2bea16bbc964f758b0a917a881", func := "forkhead/forkheadlaw8.VotesLatest", spec := "votesLatest", apart := false, narrowed := true }
def VotesLatestUptoSaid : Prop := votesLatestUptoRow.holds Try.pinned (OpenSpec.upto votesLatestSpec)

/-- 'forkheadlaw8.VotesCopies', WHERE WHAT IT READS IS OF BULK AT MOST 1048576: true; the input reads as it did. -/
def votesCopiesUptoRow : OpenClaim := { program := "ytoebkgjlehhbpaa", sum := "e3a4987b3315291c475dc144760c0ea483e2ff2bea16bbc964f758b0a917a881", func := "forkhead/forkheadlaw8.VotesCopies", spec := "votesCopies", apart := false, narrowed := true }
def VotesCopiesUptoSaid : Prop := votesCopiesUptoRow.holds Try.pinned (OpenSpec.upto votesCopiesSpec)

end Rows
end Go.Proofs.Ytoebkgjlehhbpaa
