/-
  No cell of these rows narrows 'for every input' (looked for: loops, veiled, ifaces, maps, wideKeys, modest, calm, conditions, laid).
  DERIVED. THE GIVEN ROWS OF THIS SEAT. 7 by the template 'for every input the law returns true; each argument reads behind the call as it read before'; 0 by the template 'total and deterministic' (their statements: YtgleleccmpncnaaTotals.lean).
  GIVEN WITH THE SEED: the statements are not yours to turn. If you find one false, say at which input.
  Laid BY PROGRAM, IN A SANDBOX (cutbox-rows.mjs): the forced cells as the released guide's own fill.sh prints them over the translation 6ab1a17b1f87f9d9… (all of the seat's roots in one cut). By AI agents, Wed Nov 11 2026. No macro, syntax, notation, axiom, sorry.
-/
import Derived.Test.YtgleleccmpncnaaChecked
import GoSem.Claim
import GoSem.ClaimJoined
import GoSem.ClaimMapViews
import Derived.JoinedTies
import Derived.KernelRfl
namespace Go.Proofs.Ytgleleccmpncnaa
/- THE CELL 'sum', in the pinned program and in every row, IS THE sha256 OF THE DUMP (.gsa) THAT YtgleleccmpncnaaProg.lean LOADS. Nothing in Lean hashes anything: it is a label: what it is worth is what the hold of that sum in a sandbox is worth. -/
noncomputable def Try.pinned : Pinned := { name := "ytgleleccmpncnaa", sum := "6ab1a17b1f87f9d928fb1e3f4a5bf54bc3e787228c4980e79dc5ec786cbbbbdd", checked := Try.checked }
namespace Rows
def none {H : Type} : Left H := { results := [], args := [] }

/-- 'forkheadlaw2.WideTexts': WHATEVER THE INPUT: true; the input reads as it did. -/
def wideTextsSpec : ChangeSpec := { name := "wideTexts", fn := fun _ => fun
  | [d1, d2] => { results := [.lit (.bool true)], args := [d1, d2] }
  | _ => none }
def wideTextsRow : OpenClaim := { program := "ytgleleccmpncnaa", sum := "6ab1a17b1f87f9d928fb1e3f4a5bf54bc3e787228c4980e79dc5ec786cbbbbdd", func := "forkhead/forkheadlaw2.WideTexts", spec := "wideTexts", inPlace := ["math/bits.Add64"], named := ["math/bits.divideError", "math/bits.overflowError"], apart := false }
def WideTextsSaid : Prop := wideTextsRow.holds Try.pinned (OpenSpec.ofChange wideTextsSpec)

/-- ITS FALSE NEIGHBOUR: 'it returns false'. Refute it at one input. -/
def wideTextsWrong : ChangeSpec := { name := "wideTexts", fn := fun _ => fun
  | [d1, d2] => { results := [.lit (.bool false)], args := [d1, d2] }
  | _ => none }
def WideTextsWrongFalsely : Prop := wideTextsRow.holds Try.pinned (OpenSpec.ofChange wideTextsWrong)

/-- 'forkheadlaw2.WideBytes': WHATEVER THE INPUT: true; the input reads as it did. -/
def wideBytesSpec : ChangeSpec := { name := "wideBytes", fn := fun _ => fun
  | [d1, d2] => { results := [.lit (.bool true)], args := [d1, d2] }
  | _ => none }
def wideBytesRow : OpenClaim := { program := "ytgleleccmpncnaa", sum := "6ab1a17b1f87f9d928fb1e3f4a5bf54bc3e787228c4980e79dc5ec786cbbbbdd", func := "forkhead/forkheadlaw2.WideBytes", spec := "wideBytes", inPlace := ["math/bits.Add64"], named := ["math/bits.divideError", "math/bits.overflowError"], apart := false }
def WideBytesSaid : Prop := wideBytesRow.holds Try.pinned (OpenSpec.ofChange wideBytesSpec)

/-- ITS FALSE NEIGHBOUR: 'it returns false'. Refute it at one input. -/
def wideBytesWrong : ChangeSpec := { name := "wideBytes", fn := fun _ => fun
  | [d1, d2] => { results := [.lit (.bool false)], args := [d1, d2] }
  | _ => none }
def WideBytesWrongFalsely : Prop := wideBytesRow.holds Try.pinned (OpenSpec.ofChange wideBytesWrong)

/-- 'forkheadlaw3.RootsOrder': WHATEVER THE INPUT: true; the input reads as it did. -/
def rootsOrderSpec : ChangeSpec := { name := "rootsOrder", fn := fun _ => fun
  | [d1, d2, d3] => { results := [.lit (.bool true)], args := [d1, d2, d3] }
  | _ => none }
def rootsOrderRow : OpenClaim := { program := "ytgleleccmpncnaa", sum := "6ab1a17b1f87f9d928fb1e3f4a5bf54bc3e787228c4980e79dc5ec786cbbbbdd", func := "forkhead/forkheadlaw3.RootsOrder", spec := "rootsOrder", inPlace := ["internal/bytealg.Compare", "internal/bytealg.IndexByteString"], apart := false }
def RootsOrderSaid : Prop := rootsOrderRow.holds Try.pinned (OpenSpec.ofChange rootsOrderSpec)

/-- ITS FALSE NEIGHBOUR: 'it returns false'. Refute it at one input. -/
def rootsOrderWrong : ChangeSpec := { name := "rootsOrder", fn := fun _ => fun
  | [d1, d2, d3] => { results := [.lit (.bool false)], args := [d1, d2, d3] }
  | _ => none }
def RootsOrderWrongFalsely : Prop := rootsOrderRow.holds Try.pinned (OpenSpec.ofChange rootsOrderWrong)

/-- 'forkheadlaw3.RootsTexts': WHATEVER THE INPUT: true; the input reads as it did. -/
def rootsTextsSpec : ChangeSpec := { name := "rootsTexts", fn := fun _ => fun
  | [d1, d2] => { results := [.lit (.bool true)], args := [d1, d2] }
  | _ => none }
def rootsTextsRow : OpenClaim := { program := "ytgleleccmpncnaa", sum := "6ab1a17b1f87f9d928fb1e3f4a5bf54bc3e787228c4980e79dc5ec786cbbbbdd", func := "forkhead/forkheadlaw3.RootsTexts", spec := "rootsTexts", inPlace := ["internal/bytealg.IndexByteString", "internal/bytealg.Compare"], apart := false }
def RootsTextsSaid : Prop := rootsTextsRow.holds Try.pinned (OpenSpec.ofChange rootsTextsSpec)

/-- ITS FALSE NEIGHBOUR: 'it returns false'. Refute it at one input. -/
def rootsTextsWrong : ChangeSpec := { name := "rootsTexts", fn := fun _ => fun
  | [d1, d2] => { results := [.lit (.bool false)], args := [d1, d2] }
  | _ => none }
def RootsTextsWrongFalsely : Prop := rootsTextsRow.holds Try.pinned (OpenSpec.ofChange rootsTextsWrong)

/-- 'forkheadlaw3.RootsEdited': WHATEVER THE INPUT: true; the input reads as it did. -/
def rootsEditedSpec : ChangeSpec := { name := "rootsEdited", fn := fun _ => fun
  | [d1, d2, d3] => { results := [.lit (.bool true)], args := [d1, d2, d3] }
  | _ => none }
def rootsEditedRow : OpenClaim := { program := "ytgleleccmpncnaa", sum := "6ab1a17b1f87f9d928fb1e3f4a5bf54bc3e787228c4980e79dc5ec786cbbbbdd", func := "forkhead/forkheadlaw3.RootsEdited", spec := "rootsEdited", inPlace := ["internal/bytealg.IndexByteString", "internal/bytealg.Compare"], apart := false }
def RootsEditedSaid : Prop := rootsEditedRow.holds Try.pinned (OpenSpec.ofChange rootsEditedSpec)

/-- ITS FALSE NEIGHBOUR: 'it returns false'. Refute it at one input. -/
def rootsEditedWrong : ChangeSpec := { name := "rootsEdited", fn := fun _ => fun
  | [d1, d2, d3] => { results := [.lit (.bool false)], args := [d1, d2, d3] }
  | _ => none }
def RootsEditedWrongFalsely : Prop := rootsEditedRow.holds Try.pinned (OpenSpec.ofChange rootsEditedWrong)

/-- 'forkheadlaw3.RootsLists': WHATEVER THE INPUT: true; the input reads as it did. -/
def rootsListsSpec : ChangeSpec := { name := "rootsLists", fn := fun _ => fun
  | [d1, d2] => { results := [.lit (.bool true)], args := [d1, d2] }
  | _ => none }
def rootsListsRow : OpenClaim := { program := "ytgleleccmpncnaa", sum := "6ab1a17b1f87f9d928fb1e3f4a5bf54bc3e787228c4980e79dc5ec786cbbbbdd", func := "forkhead/forkheadlaw3.RootsLists", spec := "rootsLists", inPlace := ["internal/bytealg.IndexByteString", "internal/bytealg.Compare"], unfollowed := true, recurses := true, apart := false }
def RootsListsSaid : Prop := rootsListsRow.holds Try.pinned (OpenSpec.ofChange rootsListsSpec)

/-- ITS FALSE NEIGHBOUR: 'it returns false'. Refute it at one input. -/
def rootsListsWrong : ChangeSpec := { name := "rootsLists", fn := fun _ => fun
  | [d1, d2] => { results := [.lit (.bool false)], args := [d1, d2] }
  | _ => none }
def RootsListsWrongFalsely : Prop := rootsListsRow.holds Try.pinned (OpenSpec.ofChange rootsListsWrong)

/-- 'forkheadlaw3.RootsSorted': WHATEVER THE INPUT: true; the input reads as it did. -/
def rootsSortedSpec : ChangeSpec := { name := "rootsSorted", fn := fun _ => fun
  | [d] => { results := [.lit (.bool true)], args := [d] }
  | _ => none }
def rootsSortedRow : OpenClaim := { program := "ytgleleccmpncnaa", sum := "6ab1a17b1f87f9d928fb1e3f4a5bf54bc3e787228c4980e79dc5ec786cbbbbdd", func := "forkhead/forkheadlaw3.RootsSorted", spec := "rootsSorted", inPlace := ["internal/bytealg.IndexByteString", "internal/bytealg.Compare"], unfollowed := true, recurses := true, apart := false }
def RootsSortedSaid : Prop := rootsSortedRow.holds Try.pinned (OpenSpec.ofChange rootsSortedSpec)

/-- ITS FALSE NEIGHBOUR: 'it returns false'. Refute it at one input. -/
def rootsSortedWrong : ChangeSpec := { name := "rootsSorted", fn := fun _ => fun
  | [d] => { results := [.lit (.bool false)], args := [d] }
  | _ => none }
def RootsSortedWrongFalsely : Prop := rootsSortedRow.holds Try.pinned (OpenSpec.ofChange rootsSortedWrong)

/- THE SECOND FORM. 'bulk': how many values and letters a reading holds, each counted each time it is reached (what is shared counts as often as it is met; a slice's spare places count too). A statement '..UptoSaid' is the law's where the arguments, and the package variables that the reading takes, are together of bulk at most 1048576: NARROWER than '..Said'. Prove '..Said' where nothing that the law and all that it calls make is longer than what came in: it says more and counts as full. Else prove '..UptoSaid'. A law counts once. -/
mutual
def uptoBulk {H : Type} : DataW H → Nat
  | .lit (.string bytes) => bytes.length + 1
  | .lit _ => 1
  | .nil => 1
  | .ptr d => uptoBulk d + 1
  | .slice elems spare => uptoBulkAll elems + uptoBulkAll spare + 1
  | .agg parts => uptoBulkAll parts + 1
  | .iface _ d => uptoBulk d + 1
  | .map entries => uptoBulkEntries entries + 1
  | .held _ => 1
def uptoBulkAll {H : Type} : List (DataW H) → Nat
  | [] => 0
  | d :: r => uptoBulk d + uptoBulkAll r
def uptoBulkEntries {H : Type} : List (Lit × DataW H) → Nat
  | [] => 0
  | x :: r => uptoBulkEntry x + uptoBulkEntries r
def uptoBulkEntry {H : Type} : Lit × DataW H → Nat
  | (.string bytes, d) => bytes.length + uptoBulk d + 1
  | (_, d) => uptoBulk d + 1
 end
def uptoSmall : (H : Type) → List (DataW H) → Bool := fun _ ds => decide (uptoBulkAll ds ≤ 1048576)
def OpenSpec.upto (s : _root_.Go.ChangeSpec) : _root_.Go.OpenSpec := { _root_.Go.OpenSpec.ofChange s with cond := some uptoSmall }

/-- 'forkheadlaw2.WideTexts', WHERE WHAT IT READS IS OF BULK AT MOST 1048576: true; the input reads as it did. -/
def wideTextsUptoRow : OpenClaim := { program := "ytgleleccmpncnaa", sum := "6ab1a17b1f87f9d928fb1e3f4a5bf54bc3e787228c4980e79dc5ec786cbbbbdd", func := "forkhead/forkheadlaw2.WideTexts", spec := "wideTexts", inPlace := ["math/bits.Add64"], named := ["math/bits.divideError", "math/bits.overflowError"], apart := false, narrowed := true }
def WideTextsUptoSaid : Prop := wideTextsUptoRow.holds Try.pinned (OpenSpec.upto wideTextsSpec)

/-- 'forkheadlaw2.WideBytes', WHERE WHAT IT READS IS OF BULK AT MOST 1048576: true; the input reads as it did. -/
def wideBytesUptoRow : OpenClaim := { program := "ytgleleccmpncnaa", sum := "6ab1a17b1f87f9d928fb1e3f4a5bf54bc3e787228c4980e79dc5ec786cbbbbdd", func := "forkhead/forkheadlaw2.WideBytes", spec := "wideBytes", inPlace := ["math/bits.Add64"], named := ["math/bits.divideError", "math/bits.overflowError"], apart := false, narrowed := true }
def WideBytesUptoSaid : Prop := wideBytesUptoRow.holds Try.pinned (OpenSpec.upto wideBytesSpec)

/-- 'forkheadlaw3.RootsOrder', WHERE WHAT IT READS IS OF BULK AT MOST 1048576: true; the input reads as it did. -/
def rootsOrderUptoRow : OpenClaim := { program := "ytgleleccmpncnaa", sum := "6ab1a17b1f87f9d928fb1e3f4a5bf54bc3e787228c4980e79dc5ec786cbbbbdd", func := "forkhead/forkheadlaw3.RootsOrder", spec := "rootsOrder", inPlace := ["internal/bytealg.Compare", "internal/bytealg.IndexByteString"], apart := false, narrowed := true }
def RootsOrderUptoSaid : Prop := rootsOrderUptoRow.holds Try.pinned (OpenSpec.upto rootsOrderSpec)

/-- 'forkheadlaw3.RootsTexts', WHERE WHAT IT READS IS OF BULK AT MOST 1048576: true; the input reads as it did. -/
def rootsTextsUptoRow : OpenClaim := { program := "ytgleleccmpncnaa", sum := "6ab1a17b1f87f9d928fb1e3f4a5bf54bc3e787228c4980e79dc5ec786cbbbbdd", func := "forkhead/forkheadlaw3.RootsTexts", spec := "rootsTexts", inPlace := ["internal/bytealg.IndexByteString", "internal/bytealg.Compare"], apart := false, narrowed := true }
def RootsTextsUptoSaid : Prop := rootsTextsUptoRow.holds Try.pinned (OpenSpec.upto rootsTextsSpec)

/-- 'forkheadlaw3.RootsEdited', WHERE WHAT IT READS IS OF BULK AT MOST 1048576: true; the input reads as it did. -/
def rootsEditedUptoRow : OpenClaim := { program := "ytgleleccmpncnaa", sum := "6ab1a17b1f87f9d928fb1e3f4a5bf54bc3e787228c4980e79dc5ec786cbbbbdd", func := "forkhead/forkheadlaw3.RootsEdited", spec := "rootsEdited", inPlace := ["internal/bytealg.IndexByteString", "internal/bytealg.Compare"], apart := false, narrowed := true }
def RootsEditedUptoSaid : Prop := rootsEditedUptoRow.holds Try.pinned (OpenSpec.upto rootsEditedSpec)

/-- 'forkheadlaw3.RootsLists', WHERE WHAT IT READS IS OF BULK AT MOST 1048576: true; the input reads as it did. -/
def rootsListsUptoRow : OpenClaim := { program := "ytgleleccmpncnaa", sum := "6ab1a17b1f87f9d928fb1e3f4a5bf54bc3e787228c4980e79dc5ec786cbbbbdd", func := "forkhead/forkheadlaw3.RootsLists", spec := "rootsLists", inPlace := ["internal/bytealg.IndexByteString", "internal/bytealg.Compare"], unfollowed := true, recurses := true, apart := false, narrowed := true }
def RootsListsUptoSaid : Prop := rootsListsUptoRow.holds Try.pinned (OpenSpec.upto rootsListsSpec)

/-- 'forkheadlaw3.RootsSorted', WHERE WHAT IT READS IS OF BULK AT MOST 1048576: true; the input reads as it did. -/
def rootsSortedUptoRow : OpenClaim := { program := "ytgleleccmpncnaa", sum := "6ab1a17b1f87f9d928fb1e3f4a5bf54bc3e787228c4980e79dc5ec786cbbbbdd", func := "forkhead/forkheadlaw3.RootsSorted", spec := "rootsSorted", inPlace := ["internal/bytealg.IndexByteString", "internal/bytealg.Compare"], unfollowed := true, recurses := true, apart := false, narrowed := true }
def RootsSortedUptoSaid : Prop := rootsSortedUptoRow.holds Try.pinned (OpenSpec.upto rootsSortedSpec)

end Rows
end Go.Proofs.Ytgleleccmpncnaa
