/-
  No cell of these rows narrows 'for every input' (looked for: loops, veiled, ifaces, maps, wideKeys, modest, calm, conditions, laid).
  DERIVED. THE GIVEN ROWS OF THIS SEAT. 6 by the template 'for every input the law returns true; each argument reads behind the call as it read before'; 0 by the template 'total and deterministic' (their statements: YtdbkphkgjaecoaaTotals.lean).
  GIVEN WITH THE SEED: the statements are not yours to turn. If you find one false, say at which input.
  Laid BY PROGRAM, IN A SANDBOX (cutbox-rows.mjs): the forced cells as the released guide's own fill.sh prints them over the translation 1b963629f8117c6d… (all of the seat's roots in one cut). By AI agents, Wed Nov 11 2026. No macro, syntax, notation, axiom, sorry.
-/
import Derived.Test.YtdbkphkgjaecoaaChecked
import GoSem.Claim
import GoSem.ClaimJoined
import GoSem.ClaimMapViews
import Derived.JoinedTies
import Derived.KernelRfl
namespace Go.Proofs.Ytdbkphkgjaecoaa
/- THE CELL 'sum', in the pinned program and in every row, IS THE sha256 OF THE DUMP (.gsa) THAT YtdbkphkgjaecoaaProg.lean LOADS. Nothing in Lean hashes anything: it is a label: what it is worth is what the hold of that sum in a sandbox is worth. -/
noncomputable def Try.pinned : Pinned := { name := "ytdbkphkgjaecoaa", sum := "1b963629f8117c6d5fb3750a70311903c524914f4865461114259cd045704c00", checked := Try.checked }
namespace Rows
def none {H : Type} : Left H := { results := [], args := [] }

/-- 'forkheadlaw12.AncestryPaths': WHATEVER THE INPUT: true; the input reads as it did. -/
def ancestryPathsSpec : ChangeSpec := { name := "ancestryPaths", fn := fun _ => fun
  | [d1, d2, d3] => { results := [.lit (.bool true)], args := [d1, d2, d3] }
  | _ => none }
def ancestryPathsRow : OpenClaim := { program := "ytdbkphkgjaecoaa", sum := "1b963629f8117c6d5fb3750a70311903c524914f4865461114259cd045704c00", func := "forkhead/forkheadlaw12.AncestryPaths", spec := "ancestryPaths", recurses := true, apart := false }
def AncestryPathsSaid : Prop := ancestryPathsRow.holds Try.pinned (OpenSpec.ofChange ancestryPathsSpec)

/-- ITS FALSE NEIGHBOUR: 'it returns false'. Refute it at one input. -/
def ancestryPathsWrong : ChangeSpec := { name := "ancestryPaths", fn := fun _ => fun
  | [d1, d2, d3] => { results := [.lit (.bool false)], args := [d1, d2, d3] }
  | _ => none }
def AncestryPathsWrongFalsely : Prop := ancestryPathsRow.holds Try.pinned (OpenSpec.ofChange ancestryPathsWrong)

/-- 'forkheadlaw12.AncestrySlots': WHATEVER THE INPUT: true; the input reads as it did. -/
def ancestrySlotsSpec : ChangeSpec := { name := "ancestrySlots", fn := fun _ => fun
  | [d1, d2, d3] => { results := [.lit (.bool true)], args := [d1, d2, d3] }
  | _ => none }
def ancestrySlotsRow : OpenClaim := { program := "ytdbkphkgjaecoaa", sum := "1b963629f8117c6d5fb3750a70311903c524914f4865461114259cd045704c00", func := "forkhead/forkheadlaw12.AncestrySlots", spec := "ancestrySlots", recurses := true, apart := false }
def AncestrySlotsSaid : Prop := ancestrySlotsRow.holds Try.pinned (OpenSpec.ofChange ancestrySlotsSpec)

/-- ITS FALSE NEIGHBOUR: 'it returns false'. Refute it at one input. -/
def ancestrySlotsWrong : ChangeSpec := { name := "ancestrySlots", fn := fun _ => fun
  | [d1, d2, d3] => { results := [.lit (.bool false)], args := [d1, d2, d3] }
  | _ => none }
def AncestrySlotsWrongFalsely : Prop := ancestrySlotsRow.holds Try.pinned (OpenSpec.ofChange ancestrySlotsWrong)

/-- 'forkheadlaw12.AncestryCommon': WHATEVER THE INPUT: true; the input reads as it did. -/
def ancestryCommonSpec : ChangeSpec := { name := "ancestryCommon", fn := fun _ => fun
  | [d1, d2] => { results := [.lit (.bool true)], args := [d1, d2] }
  | _ => none }
def ancestryCommonRow : OpenClaim := { program := "ytdbkphkgjaecoaa", sum := "1b963629f8117c6d5fb3750a70311903c524914f4865461114259cd045704c00", func := "forkhead/forkheadlaw12.AncestryCommon", spec := "ancestryCommon", recurses := true, apart := false }
def AncestryCommonSaid : Prop := ancestryCommonRow.holds Try.pinned (OpenSpec.ofChange ancestryCommonSpec)

/-- ITS FALSE NEIGHBOUR: 'it returns false'. Refute it at one input. -/
def ancestryCommonWrong : ChangeSpec := { name := "ancestryCommon", fn := fun _ => fun
  | [d1, d2] => { results := [.lit (.bool false)], args := [d1, d2] }
  | _ => none }
def AncestryCommonWrongFalsely : Prop := ancestryCommonRow.holds Try.pinned (OpenSpec.ofChange ancestryCommonWrong)

/-- 'forkheadlaw12.AncestryOrder': WHATEVER THE INPUT: true; the input reads as it did. -/
def ancestryOrderSpec : ChangeSpec := { name := "ancestryOrder", fn := fun _ => fun
  | [d1, d2, d3, d4] => { results := [.lit (.bool true)], args := [d1, d2, d3, d4] }
  | _ => none }
def ancestryOrderRow : OpenClaim := { program := "ytdbkphkgjaecoaa", sum := "1b963629f8117c6d5fb3750a70311903c524914f4865461114259cd045704c00", func := "forkhead/forkheadlaw12.AncestryOrder", spec := "ancestryOrder", apart := false }
def AncestryOrderSaid : Prop := ancestryOrderRow.holds Try.pinned (OpenSpec.ofChange ancestryOrderSpec)

/-- ITS FALSE NEIGHBOUR: 'it returns false'. Refute it at one input. -/
def ancestryOrderWrong : ChangeSpec := { name := "ancestryOrder", fn := fun _ => fun
  | [d1, d2, d3, d4] => { results := [.lit (.bool false)], args := [d1, d2, d3, d4] }
  | _ => none }
def AncestryOrderWrongFalsely : Prop := ancestryOrderRow.holds Try.pinned (OpenSpec.ofChange ancestryOrderWrong)

/-- 'forkheadlaw12.AncestryMeets': WHATEVER THE INPUT: true; the input reads as it did. -/
def ancestryMeetsSpec : ChangeSpec := { name := "ancestryMeets", fn := fun _ => fun
  | [d1, d2, d3] => { results := [.lit (.bool true)], args := [d1, d2, d3] }
  | _ => none }
def ancestryMeetsRow : OpenClaim := { program := "ytdbkphkgjaecoaa", sum := "1b963629f8117c6d5fb3750a70311903c524914f4865461114259cd045704c00", func := "forkhead/forkheadlaw12.AncestryMeets", spec := "ancestryMeets", apart := false }
def AncestryMeetsSaid : Prop := ancestryMeetsRow.holds Try.pinned (OpenSpec.ofChange ancestryMeetsSpec)

/-- ITS FALSE NEIGHBOUR: 'it returns false'. Refute it at one input. -/
def ancestryMeetsWrong : ChangeSpec := { name := "ancestryMeets", fn := fun _ => fun
  | [d1, d2, d3] => { results := [.lit (.bool false)], args := [d1, d2, d3] }
  | _ => none }
def AncestryMeetsWrongFalsely : Prop := ancestryMeetsRow.holds Try.pinned (OpenSpec.ofChange ancestryMeetsWrong)

/-- 'forkheadlaw12.AncestryLater': WHATEVER THE INPUT: true; the input reads as it did. -/
def ancestryLaterSpec : ChangeSpec := { name := "ancestryLater", fn := fun _ => fun
  | [d1, d2, d3, d4] => { results := [.lit (.bool true)], args := [d1, d2, d3, d4] }
  | _ => none }
def ancestryLaterRow : OpenClaim := { program := "ytdbkphkgjaecoaa", sum := "1b963629f8117c6d5fb3750a70311903c524914f4865461114259cd045704c00", func := "forkhead/forkheadlaw12.AncestryLater", spec := "ancestryLater", apart := false }
def AncestryLaterSaid : Prop := ancestryLaterRow.holds Try.pinned (OpenSpec.ofChange ancestryLaterSpec)

/-- ITS FALSE NEIGHBOUR: 'it returns false'. Refute it at one input. -/
def ancestryLaterWrong : ChangeSpec := { name := "ancestryLater", fn := fun _ => fun
  | [d1, d2, d3, d4] => { results := [.lit (.bool false)], args := [d1, d2, d3, d4] }
  | _ => none }
def AncestryLaterWrongFalsely : Prop := ancestryLaterRow.holds Try.pinned (OpenSpec.ofChange ancestryLaterWrong)

/- THE SECOND FORM. 'bulk': how many values and letters a reading holds, each counted each time it is reached (what is shared counts as often as it is met; a slice's spare places count too). A statement '..UptoSaid' is the law's where the arguments, and the package variables that the reading takes, are together of bulk at most 1048576: NARROWER than '..Said'. Prove '..Said' where nothing that the law and all that it calls make is longer than what came in: it says more and counts as full. Else prove '..UptoSaid'. A law counts once. -/
mutual
def uptoBulk {H : Type} : DataW H → Nat
  | .lit (.string bytes) => bytes.length + 1
  | .lit _ => 1
  | .nil => 1
  | .ptr d => uptoBulk d + 1
  | .slice elems spare => uptoBulkAll elems + uptoBulkAll spare + 1
  | .agg parts => uptoBulkAll parts + 1
  | .iface _ d => uptoBulk d + 1
  | .map entries => uptoBulkEntries entries + 1
  | .held _ => 1
def uptoBulkAll {H : Type} : List (DataW H) → Nat
  | [] => 0
  | d :: r => uptoBulk d + uptoBulkAll r
def uptoBulkEntries {H : Type} : List (Lit × DataW H) → Nat
  | [] => 0
  | x :: r => uptoBulkEntry x + uptoBulkEntries r
def uptoBulkEntry {H : Type} : Lit × DataW H → Nat
  | (.string bytes, d) => bytes.length + uptoBulk d + 1
  | (_, d) => uptoBulk d + 1
 end
def uptoSmall : (H : Type) → List (DataW H) → Bool := fun _ ds => decide (uptoBulkAll ds ≤ 1048576)
def OpenSpec.upto (s : _root_.Go.ChangeSpec) : _root_.Go.OpenSpec := { _root_.Go.OpenSpec.ofChange s with cond := some uptoSmall }

/-- 'forkheadlaw12.AncestryPaths', WHERE WHAT IT READS IS OF BULK AT MOST 1048576: true; the input reads as it did. -/
def ancestryPathsUptoRow : OpenClaim := { program := "ytdbkphkgjaecoaa", sum := "1b963629f8117c6d5fb3750a70311903c524914f4865461114259cd045704c00", func := "forkhead/forkheadlaw12.AncestryPaths", spec := "ancestryPaths", recurses := true, apart := false, narrowed := true }
def AncestryPathsUptoSaid : Prop := ancestryPathsUptoRow.holds Try.pinned (OpenSpec.upto ancestryPathsSpec)

/-- 'forkheadlaw12.AncestrySlots', WHERE WHAT IT READS IS OF BULK AT MOST 1048576: true; the input reads as it did. -/
def ancestrySlotsUptoRow : OpenClaim := { program := "ytdbkphkgjaecoaa", sum := "1b963629f8117c6d5fb3750a70311903c524914f4865461114259cd045704c00", func := "forkhead/forkheadlaw12.AncestrySlots", spec := "ancestrySlots", recurses := true, apart := false, narrowed := true }
def AncestrySlotsUptoSaid : Prop := ancestrySlotsUptoRow.holds Try.pinned (OpenSpec.upto ancestrySlotsSpec)

/-- 'forkheadlaw12.AncestryCommon', WHERE WHAT IT READS IS OF BULK AT MOST 1048576: true; the input reads as it did. -/
def ancestryCommonUptoRow : OpenClaim := { program := "ytdbkphkgjaecoaa", sum := "1b963629f8117c6d5fb3750a70311903c524914f4865461114259cd045704c00", func := "forkhead/forkheadlaw12.AncestryCommon", spec := "ancestryCommon", recurses := true, apart := false, narrowed := true }
def AncestryCommonUptoSaid : Prop := ancestryCommonUptoRow.holds Try.pinned (OpenSpec.upto ancestryCommonSpec)

/-- 'forkheadlaw12.AncestryOrder', WHERE WHAT IT READS IS OF BULK AT MOST 1048576: true; the input reads as it did. -/
def ancestryOrderUptoRow : OpenClaim := { program := "ytdbkphkgjaecoaa", sum := "1b963629f8117c6d5fb3750a70311903c524914f4865461114259cd045704c00", func := "forkhead/forkheadlaw12.AncestryOrder", spec := "ancestryOrder", apart := false, narrowed := true }
def AncestryOrderUptoSaid : Prop := ancestryOrderUptoRow.holds Try.pinned (OpenSpec.upto ancestryOrderSpec)

/-- 'forkheadlaw12.AncestryMeets', WHERE WHAT IT READS IS OF BULK AT MOST 1048576: true; the input reads as it did. -/
def ancestryMeetsUptoRow : OpenClaim := { program := "ytdbkphkgjaecoaa", sum := "1b963629f8117c6d5fb3750a70311903c524914f4865461114259cd045704c00", func := "forkhead/forkheadlaw12.AncestryMeets", spec := "ancestryMeets", apart := false, narrowed := true }
def AncestryMeetsUptoSaid : Prop := ancestryMeetsUptoRow.holds Try.pinned (OpenSpec.upto ancestryMeetsSpec)

/-- 'forkheadlaw12.AncestryLater', WHERE WHAT IT READS IS OF BULK AT MOST 1048576: true; the input reads as it did. -/
def ancestryLaterUptoRow : OpenClaim := { program := "ytdbkphkgjaecoaa", sum := "1b963629f8117c6d5fb3750a70311903c524914f4865461114259cd045704c00", func := "forkhead/forkheadlaw12.AncestryLater", spec := "ancestryLater", apart := false, narrowed := true }
def AncestryLaterUptoSaid : Prop := ancestryLaterUptoRow.holds Try.pinned (OpenSpec.upto ancestryLaterSpec)

end Rows
end Go.Proofs.Ytdbkphkgjaecoaa
