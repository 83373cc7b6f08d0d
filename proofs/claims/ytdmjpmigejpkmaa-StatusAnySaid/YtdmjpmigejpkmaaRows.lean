/-
  No cell of these rows narrows 'for every input' (looked for: loops, veiled, ifaces, maps, wideKeys, modest, calm, conditions, laid).
  DERIVED. THE GIVEN ROWS OF THIS SEAT. 6 by the template 'for every input the law returns true; each argument reads behind the call as it read before'; 0 by the template 'total and deterministic' (their statements: YtdmjpmigejpkmaaTotals.lean).
  GIVEN WITH THE SEED: the statements are not yours to turn. If you find one false, say at which input.
  Laid BY PROGRAM, IN A SANDBOX (cutbox-rows.mjs): the forced cells as the released guide's own fill.sh prints them over the translation bb158ef4782f9a3d… (all of the seat's roots in one cut). By AI agents, Wed Nov 11 2026. No macro, syntax, notation, axiom, sorry.
-/
import Derived.Test.YtdmjpmigejpkmaaChecked
import GoSem.Claim
import GoSem.ClaimJoined
import GoSem.ClaimMapViews
import Derived.JoinedTies
import Derived.KernelRfl
namespace Go.Proofs.Ytdmjpmigejpkmaa
/- THE CELL 'sum', in the pinned program and in every row, IS THE sha256 OF THE DUMP (.gsa) THAT YtdmjpmigejpkmaaProg.lean LOADS. Nothing in Lean hashes anything: it is a label: what it is worth is what the hold of that sum in a sandbox is worth. -/
noncomputable def Try.pinned : Pinned := { name := "ytdmjpmigejpkmaa", sum := "bb158ef4782f9a3d22b83e5095dda8ac9cbcc9d751f020915105866aded8378a", checked := Try.checked }
namespace Rows
def none {H : Type} : Left H := { results := [], args := [] }

/-- 'forkheadlaw16.StatusValid': WHATEVER THE INPUT: true; the input reads as it did. -/
def statusValidSpec : ChangeSpec := { name := "statusValid", fn := fun _ => fun
  | [d1, d2, d3] => { results := [.lit (.bool true)], args := [d1, d2, d3] }
  | _ => none }
def statusValidRow : OpenClaim := { program := "ytdmjpmigejpkmaa", sum := "bb158ef4782f9a3d22b83e5095dda8ac9cbcc9d751f020915105866aded8378a", func := "forkhead/forkheadlaw16.StatusValid", spec := "statusValid", plainKeys := false, apart := false }
def StatusValidSaid : Prop := statusValidRow.holds Try.pinned (OpenSpec.ofChange statusValidSpec)

/-- ITS FALSE NEIGHBOUR: 'it returns false'. Refute it at one input. -/
def statusValidWrong : ChangeSpec := { name := "statusValid", fn := fun _ => fun
  | [d1, d2, d3] => { results := [.lit (.bool false)], args := [d1, d2, d3] }
  | _ => none }
def StatusValidWrongFalsely : Prop := statusValidRow.holds Try.pinned (OpenSpec.ofChange statusValidWrong)

/-- 'forkheadlaw16.StatusAny': WHATEVER THE INPUT: true; the input reads as it did. -/
def statusAnySpec : ChangeSpec := { name := "statusAny", fn := fun _ => fun
  | [d] => { results := [.lit (.bool true)], args := [d] }
  | _ => none }
def statusAnyRow : OpenClaim := { program := "ytdmjpmigejpkmaa", sum := "bb158ef4782f9a3d22b83e5095dda8ac9cbcc9d751f020915105866aded8378a", func := "forkhead/forkheadlaw16.StatusAny", spec := "statusAny", plainKeys := false, apart := false }
def StatusAnySaid : Prop := statusAnyRow.holds Try.pinned (OpenSpec.ofChange statusAnySpec)

/-- ITS FALSE NEIGHBOUR: 'it returns false'. Refute it at one input. -/
def statusAnyWrong : ChangeSpec := { name := "statusAny", fn := fun _ => fun
  | [d] => { results := [.lit (.bool false)], args := [d] }
  | _ => none }
def StatusAnyWrongFalsely : Prop := statusAnyRow.holds Try.pinned (OpenSpec.ofChange statusAnyWrong)

/-- 'forkheadlaw16.StatusChanges': WHATEVER THE INPUT: true; the input reads as it did. -/
def statusChangesSpec : ChangeSpec := { name := "statusChanges", fn := fun _ => fun
  | [d1, d2] => { results := [.lit (.bool true)], args := [d1, d2] }
  | _ => none }
def statusChangesRow : OpenClaim := { program := "ytdmjpmigejpkmaa", sum := "bb158ef4782f9a3d22b83e5095dda8ac9cbcc9d751f020915105866aded8378a", func := "forkhead/forkheadlaw16.StatusChanges", spec := "statusChanges", recurses := true, plainKeys := false, apart := false }
def StatusChangesSaid : Prop := statusChangesRow.holds Try.pinned (OpenSpec.ofChange statusChangesSpec)

/-- ITS FALSE NEIGHBOUR: 'it returns false'. Refute it at one input. -/
def statusChangesWrong : ChangeSpec := { name := "statusChanges", fn := fun _ => fun
  | [d1, d2] => { results := [.lit (.bool false)], args := [d1, d2] }
  | _ => none }
def StatusChangesWrongFalsely : Prop := statusChangesRow.holds Try.pinned (OpenSpec.ofChange statusChangesWrong)

/-- 'forkheadlaw16.StatusCounts': WHATEVER THE INPUT: true; the input reads as it did. -/
def statusCountsSpec : ChangeSpec := { name := "statusCounts", fn := fun _ => fun
  | [d1, d2] => { results := [.lit (.bool true)], args := [d1, d2] }
  | _ => none }
def statusCountsRow : OpenClaim := { program := "ytdmjpmigejpkmaa", sum := "bb158ef4782f9a3d22b83e5095dda8ac9cbcc9d751f020915105866aded8378a", func := "forkhead/forkheadlaw16.StatusCounts", spec := "statusCounts", plainKeys := false, apart := false }
def StatusCountsSaid : Prop := statusCountsRow.holds Try.pinned (OpenSpec.ofChange statusCountsSpec)

/-- ITS FALSE NEIGHBOUR: 'it returns false'. Refute it at one input. -/
def statusCountsWrong : ChangeSpec := { name := "statusCounts", fn := fun _ => fun
  | [d1, d2] => { results := [.lit (.bool false)], args := [d1, d2] }
  | _ => none }
def StatusCountsWrongFalsely : Prop := statusCountsRow.holds Try.pinned (OpenSpec.ofChange statusCountsWrong)

/-- 'forkheadlaw16.StatusClosed': WHATEVER THE INPUT: true; the input reads as it did. -/
def statusClosedSpec : ChangeSpec := { name := "statusClosed", fn := fun _ => fun
  | [d1, d2] => { results := [.lit (.bool true)], args := [d1, d2] }
  | _ => none }
def statusClosedRow : OpenClaim := { program := "ytdmjpmigejpkmaa", sum := "bb158ef4782f9a3d22b83e5095dda8ac9cbcc9d751f020915105866aded8378a", func := "forkhead/forkheadlaw16.StatusClosed", spec := "statusClosed", plainKeys := false, apart := false }
def StatusClosedSaid : Prop := statusClosedRow.holds Try.pinned (OpenSpec.ofChange statusClosedSpec)

/-- ITS FALSE NEIGHBOUR: 'it returns false'. Refute it at one input. -/
def statusClosedWrong : ChangeSpec := { name := "statusClosed", fn := fun _ => fun
  | [d1, d2] => { results := [.lit (.bool false)], args := [d1, d2] }
  | _ => none }
def StatusClosedWrongFalsely : Prop := statusClosedRow.holds Try.pinned (OpenSpec.ofChange statusClosedWrong)

/-- 'forkheadlaw16.StatusMeets': WHATEVER THE INPUT: true; the input reads as it did. -/
def statusMeetsSpec : ChangeSpec := { name := "statusMeets", fn := fun _ => fun
  | [d1, d2, d3] => { results := [.lit (.bool true)], args := [d1, d2, d3] }
  | _ => none }
def statusMeetsRow : OpenClaim := { program := "ytdmjpmigejpkmaa", sum := "bb158ef4782f9a3d22b83e5095dda8ac9cbcc9d751f020915105866aded8378a", func := "forkhead/forkheadlaw16.StatusMeets", spec := "statusMeets", recurses := true, plainKeys := false, apart := false }
def StatusMeetsSaid : Prop := statusMeetsRow.holds Try.pinned (OpenSpec.ofChange statusMeetsSpec)

/-- ITS FALSE NEIGHBOUR: 'it returns false'. Refute it at one input. -/
def statusMeetsWrong : ChangeSpec := { name := "statusMeets", fn := fun _ => fun
  | [d1, d2, d3] => { results := [.lit (.bool false)], args := [d1, d2, d3] }
  | _ => none }
def StatusMeetsWrongFalsely : Prop := statusMeetsRow.holds Try.pinned (OpenSpec.ofChange statusMeetsWrong)

/- THE SECOND FORM. 'bulk': how many values and letters a reading holds, each counted each time it is reached (what is shared counts as often as it is met; a slice's spare places count too). A statement '..UptoSaid' is the law's where the arguments, and the package variables that the reading takes, are together of bulk at most 1048576: NARROWER than '..Said'. Prove '..Said' where nothing that the law and all that it calls make is longer than what came in: it says more and counts as full. Else prove '..UptoSaid'. A law counts once. -/
mutual
def uptoBulk {H : Type} : DataW H → Nat
  | .lit (.string bytes) => bytes.length + 1
  | .lit _ => 1
  | .nil => 1
  | .ptr d => uptoBulk d + 1
  | .slice elems spare => uptoBulkAll elems + uptoBulkAll spare + 1
  | .agg parts => uptoBulkAll parts + 1
  | .iface _ d => uptoBulk d + 1
  | .map entries => uptoBulkEntries entries + 1
  | .held _ => 1
def uptoBulkAll {H : Type} : List (DataW H) → Nat
  | [] => 0
  | d :: r => uptoBulk d + uptoBulkAll r
def uptoBulkEntries {H : Type} : List (Lit × DataW H) → Nat
  | [] => 0
  | x :: r => uptoBulkEntry x + uptoBulkEntries r
def uptoBulkEntry {H : Type} : Lit × DataW H → Nat
  | (.string bytes, d) => bytes.length + uptoBulk d + 1
  | (_, d) => uptoBulk d + 1
 end
def uptoSmall : (H : Type) → List (DataW H) → Bool := fun _ ds => decide (uptoBulkAll ds ≤ 1048576)
def OpenSpec.upto (s : _root_.Go.ChangeSpec) : _root_.Go.OpenSpec := { _root_.Go.OpenSpec.ofChange s with cond := some uptoSmall }

/-- 'forkheadlaw16.StatusValid', WHERE WHAT IT READS IS OF BULK AT MOST 1048576: true; the input reads as it did. -/
def statusValidUptoRow : OpenClaim := { program := "ytdmjpmigejpkmaa", sum := "bb158ef4782f9a3d22b83e5095dda8ac9cbcc9d751f020915105866aded8378a", func := "forkhead/forkheadlaw16.StatusValid", spec := "statusValid", plainKeys := false, apart := false, narrowed := true }
def StatusValidUptoSaid : Prop := statusValidUptoRow.holds Try.pinned (OpenSpec.upto statusValidSpec)

/-- 'forkheadlaw16.StatusAny', WHERE WHAT IT READS IS OF BULK AT MOST 1048576: true; the input reads as it did. -/
def statusAnyUptoRow : OpenClaim := { program := "ytdmjpmigejpkmaa", sum := "bb158ef4782f9a3d22b83e5095dda8ac9cbcc9d751f020915105866aded8378a", func := "forkhead/forkheadlaw16.StatusAny", spec := "statusAny", plainKeys := false, apart := false, narrowed := true }
def StatusAnyUptoSaid : Prop := statusAnyUptoRow.holds Try.pinned (OpenSpec.upto statusAnySpec)

/-- 'forkheadlaw16.StatusChanges', WHERE WHAT IT READS IS OF BULK AT MOST 1048576: true; the input reads as it did. -/
def statusChangesUptoRow : OpenClaim := { program := "ytdmjpmigejpkmaa", sum := "bb158ef4782f9a3d22b83e5095dda8ac9cbcc9d751f020915105866aded8378a", func := "forkhead/forkheadlaw16.StatusChanges", spec := "statusChanges", recurses := true, plainKeys := false, apart := false, narrowed := true }
def StatusChangesUptoSaid : Prop := statusChangesUptoRow.holds Try.pinned (OpenSpec.upto statusChangesSpec)

/-- 'forkheadlaw16.StatusCounts', WHERE WHAT IT READS IS OF BULK AT MOST 1048576: true; the input reads as it did. -/
def statusCountsUptoRow : OpenClaim := { program := "ytdmjpmigejpkmaa", sum := "bb158ef4782f9a3d22b83e5095dda8ac9cbcc9d751f020915105866aded8378a", func := "forkhead/forkheadlaw16.StatusCounts", spec := "statusCounts", plainKeys := false, apart := false, narrowed := true }
def StatusCountsUptoSaid : Prop := statusCountsUptoRow.holds Try.pinned (OpenSpec.upto statusCountsSpec)

/-- 'forkheadlaw16.StatusClosed', WHERE WHAT IT READS IS OF BULK AT MOST 1048576: true; the input reads as it did. -/
def statusClosedUptoRow : OpenClaim := { program := "ytdmjpmigejpkmaa", sum := "bb158ef4782f9a3d22b83e5095dda8ac9cbcc9d751f020915105866aded8378a", func := "forkhead/forkheadlaw16.StatusClosed", spec := "statusClosed", plainKeys := false, apart := false, narrowed := true }
def StatusClosedUptoSaid : Prop := statusClosedUptoRow.holds Try.pinned (OpenSpec.upto statusClosedSpec)

/-- 'forkheadlaw16.StatusMeets', WHERE WHAT IT READS IS OF BULK AT MOST 1048576: true; the input reads as it did. -/
def statusMeetsUptoRow : OpenClaim := { program := "ytdmjpmigejpkmaa", sum := "bb158ef4782f9a3d22b83e5095dda8ac9cbcc9d751f020915105866aded8378a", func := "forkhead/forkheadlaw16.StatusMeets", spec := "statusMeets", recurses := true, plainKeys := false, apart := false, narrowed := true }
def StatusMeetsUptoSaid : Prop := statusMeetsUptoRow.holds Try.pinned (OpenSpec.upto statusMeetsSpec)

end Rows
end Go.Proofs.Ytdmjpmigejpkmaa
