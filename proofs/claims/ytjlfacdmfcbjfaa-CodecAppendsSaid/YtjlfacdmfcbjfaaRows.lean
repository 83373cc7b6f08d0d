/-
  No cell of these rows narrows 'for every input' (looked for: loops, veiled, ifaces, maps, wideKeys, modest, calm, conditions, laid).
  DERIVED. THE GIVEN ROWS OF THIS SEAT. 6 by the template 'for every input the law returns true; each argument reads behind the call as it read before'; 0 by the template 'total and deterministic' (their statements: YtjlfacdmfcbjfaaTotals.lean).
  GIVEN WITH THE SEED: the statements are not yours to turn. If you find one false, say at which input.
  Laid BY PROGRAM, IN A SANDBOX (cutbox-rows.mjs): the forced cells as the released guide's own fill.sh prints them over the translation 3589d6353b03f9cc… (all of the seat's roots in one cut). By AI agents, Wed Nov 11 2026. No macro, syntax, notation, axiom, sorry.
-/
import Derived.Test.YtjlfacdmfcbjfaaChecked
import GoSem.Claim
import GoSem.ClaimJoined
import GoSem.ClaimMapViews
import Derived.JoinedTies
import Derived.KernelRfl
namespace Go.Proofs.Ytjlfacdmfcbjfaa
/- THE CELL 'sum', in the pinned program and in every row, IS THE sha256 OF THE DUMP (.gsa) THAT YtjlfacdmfcbjfaaProg.lean LOADS. Nothing in Lean hashes anything: it is a label: what it is worth is what the hold of that sum in a sandbox is worth. -/
noncomputable def Try.pinned : Pinned := { name := "ytjlfacdmfcbjfaa", sum := "3589d6353b03f9cc9d73d4b247b6534855376661f1ceaff26753f3c48257d98d", checked := Try.checked }
namespace Rows
def none {H : Type} : Left H := { results := [], args := [] }

/-- 'forkheadlaw4.CodecAppends': WHATEVER THE INPUT: true; the input reads as it did. -/
def codecAppendsSpec : ChangeSpec := { name := "codecAppends", fn := fun _ => fun
  | [d1, d2, d3, d4, d5, d6] => { results := [.lit (.bool true)], args := [d1, d2, d3, d4, d5, d6] }
  | _ => none }
def codecAppendsRow : OpenClaim := { program := "ytjlfacdmfcbjfaa", sum := "3589d6353b03f9cc9d73d4b247b6534855376661f1ceaff26753f3c48257d98d", func := "forkhead/forkheadlaw4.CodecAppends", spec := "codecAppends", apart := false }
def CodecAppendsSaid : Prop := codecAppendsRow.holds Try.pinned (OpenSpec.ofChange codecAppendsSpec)

/-- ITS FALSE NEIGHBOUR: 'it returns false'. Refute it at one input. -/
def codecAppendsWrong : ChangeSpec := { name := "codecAppends", fn := fun _ => fun
  | [d1, d2, d3, d4, d5, d6] => { results := [.lit (.bool false)], args := [d1, d2, d3, d4, d5, d6] }
  | _ => none }
def CodecAppendsWrongFalsely : Prop := codecAppendsRow.holds Try.pinned (OpenSpec.ofChange codecAppendsWrong)

/-- 'forkheadlaw4.CodecSums': WHATEVER THE INPUT: true; the input reads as it did. -/
def codecSumsSpec : ChangeSpec := { name := "codecSums", fn := fun _ => fun
  | [d] => { results := [.lit (.bool true)], args := [d] }
  | _ => none }
def codecSumsRow : OpenClaim := { program := "ytjlfacdmfcbjfaa", sum := "3589d6353b03f9cc9d73d4b247b6534855376661f1ceaff26753f3c48257d98d", func := "forkhead/forkheadlaw4.CodecSums", spec := "codecSums", apart := false }
def CodecSumsSaid : Prop := codecSumsRow.holds Try.pinned (OpenSpec.ofChange codecSumsSpec)

/-- ITS FALSE NEIGHBOUR: 'it returns false'. Refute it at one input. -/
def codecSumsWrong : ChangeSpec := { name := "codecSums", fn := fun _ => fun
  | [d] => { results := [.lit (.bool false)], args := [d] }
  | _ => none }
def CodecSumsWrongFalsely : Prop := codecSumsRow.holds Try.pinned (OpenSpec.ofChange codecSumsWrong)

/-- 'forkheadlaw4.CodecSumsDiffer': WHATEVER THE INPUT: true; the input reads as it did. -/
def codecSumsDifferSpec : ChangeSpec := { name := "codecSumsDiffer", fn := fun _ => fun
  | [d1, d2, d3] => { results := [.lit (.bool true)], args := [d1, d2, d3] }
  | _ => none }
def codecSumsDifferRow : OpenClaim := { program := "ytjlfacdmfcbjfaa", sum := "3589d6353b03f9cc9d73d4b247b6534855376661f1ceaff26753f3c48257d98d", func := "forkhead/forkheadlaw4.CodecSumsDiffer", spec := "codecSumsDiffer", apart := false }
def CodecSumsDifferSaid : Prop := codecSumsDifferRow.holds Try.pinned (OpenSpec.ofChange codecSumsDifferSpec)

/-- ITS FALSE NEIGHBOUR: 'it returns false'. Refute it at one input. -/
def codecSumsDifferWrong : ChangeSpec := { name := "codecSumsDiffer", fn := fun _ => fun
  | [d1, d2, d3] => { results := [.lit (.bool false)], args := [d1, d2, d3] }
  | _ => none }
def CodecSumsDifferWrongFalsely : Prop := codecSumsDifferRow.holds Try.pinned (OpenSpec.ofChange codecSumsDifferWrong)

/-- 'forkheadlaw4.CodecBack': WHATEVER THE INPUT: true; the input reads as it did. -/
def codecBackSpec : ChangeSpec := { name := "codecBack", fn := fun _ => fun
  | [d1, d2, d3, d4, d5, d6] => { results := [.lit (.bool true)], args := [d1, d2, d3, d4, d5, d6] }
  | _ => none }
def codecBackRow : OpenClaim := { program := "ytjlfacdmfcbjfaa", sum := "3589d6353b03f9cc9d73d4b247b6534855376661f1ceaff26753f3c48257d98d", func := "forkhead/forkheadlaw4.CodecBack", spec := "codecBack", apart := false }
def CodecBackSaid : Prop := codecBackRow.holds Try.pinned (OpenSpec.ofChange codecBackSpec)

/-- ITS FALSE NEIGHBOUR: 'it returns false'. Refute it at one input. -/
def codecBackWrong : ChangeSpec := { name := "codecBack", fn := fun _ => fun
  | [d1, d2, d3, d4, d5, d6] => { results := [.lit (.bool false)], args := [d1, d2, d3, d4, d5, d6] }
  | _ => none }
def CodecBackWrongFalsely : Prop := codecBackRow.holds Try.pinned (OpenSpec.ofChange codecBackWrong)

/-- 'forkheadlaw4.CodecSticky': WHATEVER THE INPUT: true; the input reads as it did. -/
def codecStickySpec : ChangeSpec := { name := "codecSticky", fn := fun _ => fun
  | [d1, d2] => { results := [.lit (.bool true)], args := [d1, d2] }
  | _ => none }
def codecStickyRow : OpenClaim := { program := "ytjlfacdmfcbjfaa", sum := "3589d6353b03f9cc9d73d4b247b6534855376661f1ceaff26753f3c48257d98d", func := "forkhead/forkheadlaw4.CodecSticky", spec := "codecSticky", apart := false }
def CodecStickySaid : Prop := codecStickyRow.holds Try.pinned (OpenSpec.ofChange codecStickySpec)

/-- ITS FALSE NEIGHBOUR: 'it returns false'. Refute it at one input. -/
def codecStickyWrong : ChangeSpec := { name := "codecSticky", fn := fun _ => fun
  | [d1, d2] => { results := [.lit (.bool false)], args := [d1, d2] }
  | _ => none }
def CodecStickyWrongFalsely : Prop := codecStickyRow.holds Try.pinned (OpenSpec.ofChange codecStickyWrong)

/-- 'forkheadlaw3.RootsLists': WHATEVER THE INPUT: true; the input reads as it did. -/
def rootsListsSpec : ChangeSpec := { name := "rootsLists", fn := fun _ => fun
  | [d1, d2] => { results := [.lit (.bool true)], args := [d1, d2] }
  | _ => none }
def rootsListsRow : OpenClaim := { program := "ytjlfacdmfcbjfaa", sum := "3589d6353b03f9cc9d73d4b247b6534855376661f1ceaff26753f3c48257d98d", func := "forkhead/forkheadlaw3.RootsLists", spec := "rootsLists", inPlace := ["internal/bytealg.IndexByteString", "internal/bytealg.Compare"], unfollowed := true, recurses := true, apart := false }
def RootsListsSaid : Prop := rootsListsRow.holds Try.pinned (OpenSpec.ofChange rootsListsSpec)

/-- ITS FALSE NEIGHBOUR: 'it returns false'. Refute it at one input. -/
def rootsListsWrong : ChangeSpec := { name := "rootsLists", fn := fun _ => fun
  | [d1, d2] => { results := [.lit (.bool false)], args := [d1, d2] }
  | _ => none }
def RootsListsWrongFalsely : Prop := rootsListsRow.holds Try.pinned (OpenSpec.ofChange rootsListsWrong)

/- THE SECOND FORM. 'bulk': how many values and letters a reading holds, each counted each time it is reached (what is shared counts as often as it is met; a slice's spare places count too). A statement '..UptoSaid' is the law's where the arguments, and the package variables that the reading takes, are together of bulk at most 1048576: NARROWER than '..Said'. Prove '..Said' where nothing that the law and all that it calls make is longer than what came in: it says more and counts as full. Else prove '..UptoSaid'. A law counts once. -/
mutual
def uptoBulk {H : Type} : DataW H → Nat
  | .lit (.string bytes) => bytes.length + 1
  | .lit _ => 1
  | .nil => 1
  | .ptr d => uptoBulk d + 1
  | .slice elems spare => uptoBulkAll elems + uptoBulkAll spare + 1
  | .agg parts => uptoBulkAll parts + 1
  | .iface _ d => uptoBulk d + 1
  | .map entries => uptoBulkEntries entries + 1
  | .held _ => 1
def uptoBulkAll {H : Type} : List (DataW H) → Nat
  | [] => 0
  | d :: r => uptoBulk d + uptoBulkAll r
def uptoBulkEntries {H : Type} : List (Lit × DataW H) → Nat
  | [] => 0
  | x :: r => uptoBulkEntry x + uptoBulkEntries r
def uptoBulkEntry {H : Type} : Lit × DataW H → Nat
  | (.string bytes, d) => bytes.length + uptoBulk d + 1
  | (_, d) => uptoBulk d + 1
 end
def uptoSmall : (H : Type) → List (DataW H) → Bool := fun _ ds => decide (uptoBulkAll ds ≤ 1048576)
def OpenSpec.upto (s : _root_.Go.ChangeSpec) : _root_.Go.OpenSpec := { _root_.Go.OpenSpec.ofChange s with cond := some uptoSmall }

/-- 'forkheadlaw4.CodecAppends', WHERE WHAT IT READS IS OF BULK AT MOST 1048576: true; the input reads as it did. -/
def codecAppendsUptoRow : OpenClaim := { program := "ytjlfacdmfcbjfaa", sum := "3589d6353b03f9cc9d73d4b247b6534855376661f1ceaff26753f3c48257d98d", func := "forkhead/forkheadlaw4.CodecAppends", spec := "codecAppends", apart := false, narrowed := true }
def CodecAppendsUptoSaid : Prop := codecAppendsUptoRow.holds Try.pinned (OpenSpec.upto codecAppendsSpec)

/-- 'forkheadlaw4.CodecSums', WHERE WHAT IT READS IS OF BULK AT MOST 1048576: true; the input reads as it did. -/
def codecSumsUptoRow : OpenClaim := { program := "ytjlfacdmfcbjfaa", sum := "3589d6353b03f9cc9d73d4b247b6534855376661f1ceaff26753f3c48257d98d", func := "forkhead/forkheadlaw4.CodecSums", spec := "codecSums", apart := false, narrowed := true }
def CodecSumsUptoSaid : Prop := codecSumsUptoRow.holds Try.pinned (OpenSpec.upto codecSumsSpec)

/-- 'forkheadlaw4.CodecSumsDiffer', WHERE WHAT IT READS IS OF BULK AT MOST 1048576: true; the input reads as it did. -/
def codecSumsDifferUptoRow : OpenClaim := { program := "ytjlfacdmfcbjfaa", sum := "3589d6353b03f9cc9d73d4b247b6534855376661f1ceaff26753f3c48257d98d", func := "forkhead/forkheadlaw4.CodecSumsDiffer", spec := "codecSumsDiffer", apart := false, narrowed := true }
def CodecSumsDifferUptoSaid : Prop := codecSumsDifferUptoRow.holds Try.pinned (OpenSpec.upto codecSumsDifferSpec)

/-- 'forkheadlaw4.CodecBack', WHERE WHAT IT READS IS OF BULK AT MOST 1048576: true; the input reads as it did. -/
def codecBackUptoRow : OpenClaim := { program := "ytjlfacdmfcbjfaa", sum := "3589d6353b03f9cc9d73d4b247b6534855376661f1ceaff26753f3c48257d98d", func := "forkhead/forkheadlaw4.CodecBack", spec := "codecBack", apart := false, narrowed := true }
def CodecBackUptoSaid : Prop := codecBackUptoRow.holds Try.pinned (OpenSpec.upto codecBackSpec)

/-- 'forkheadlaw4.CodecSticky', WHERE WHAT IT READS IS OF BULK AT MOST 1048576: true; the input reads as it did. -/
def codecStickyUptoRow : OpenClaim := { program := "ytjlfacdmfcbjfaa", sum := "3589d6353b03f9cc9d73d4b247b6534855376661f1ceaff26753f3c48257d98d", func := "forkhead/forkheadlaw4.CodecSticky", spec := "codecSticky", apart := false, narrowed := true }
def CodecStickyUptoSaid : Prop := codecStickyUptoRow.holds Try.pinned (OpenSpec.upto codecStickySpec)

/-- 'forkheadlaw3.RootsLists', WHERE WHAT IT READS IS OF BULK AT MOST 1048576: true; the input reads as it did. -/
def rootsListsUptoRow : OpenClaim := { program := "ytjlfacdmfcbjfaa", sum := "3589d6353b03f9cc9d73d4b247b6534855376661f1ceaff26753f3c48257d98d", func := "forkhead/forkheadlaw3.RootsLists", spec := "rootsLists", inPlace := ["internal/bytealg.IndexByteString", "internal/bytealg.Compare"], unfollowed := true, recurses := true, apart := false, narrowed := true }
def RootsListsUptoSaid : Prop := rootsListsUptoRow.holds Try.pinned (OpenSpec.upto rootsListsSpec)

end Rows
end Go.Proofs.Ytjlfacdmfcbjfaa
