/-
  No cell of these rows narrows 'for every input' (looked for: loops, veiled, ifaces, maps, wideKeys, modest, calm, conditions, laid).
  DERIVED. THE GIVEN ROWS OF THIS SEAT. 3 by the template 'for every input the law returns true; each argument reads behind the call as it read before'; 0 by the template 'total and deterministic' (their statements: YtlfidpldmnbgbaaTotals.lean).
  GIVEN WITH THE SEED: the statements are not yours to turn. If you find one false, say at which input.
  Laid BY PROGRAM, IN A SANDBOX (cutbox-rows.mjs): the forced cells as the released guide's own fill.sh prints them over the translation c1a4f67dc281664c… (all of the seat's roots in one cut). By AI agents, Wed Nov 11 2026. No macro, syntax, notation, axiom, sorry.
-/
import Derived.Test.YtlfidpldmnbgbaaChecked
import GoSem.Claim
import GoSem.ClaimJoined
import GoSem.ClaimMapViews
import Derived.JoinedTies
import Derived.KernelRfl
namespace Go.Proofs.Ytlfidpldmnbgbaa
/- THE CELL 'sum', in the pinned program and in every row, IS THE sha256 OF THE DUMP (.gsa) THAT YtlfidpldmnbgbaaProg.lean LOADS. Nothing in Lean hashes anything: it is a label: what it is worth is what the hold of that sum in a sandbox is worth. -/
noncomputable def Try.pinned : Pinned := { name := "ytlfidpldmnbgbaa", sum := "c1a4f67dc281664c30d28a9f10616809599d1aed0a95edc936a1f87a3fa5fedf", checked := Try.checked }
namespace Rows
def none {H : Type} : Left H := { results := [], args := [] }

/-- 'forkheadlaw1.UnitsArithmetic': WHATEVER THE INPUT: true; the input reads as it did. -/
def unitsArithmeticSpec : ChangeSpec := { name := "unitsArithmetic", fn := fun _ => fun
  | [d1, d2] => { results := [.lit (.bool true)], args := [d1, d2] }
  | _ => none }
def unitsArithmeticRow : OpenClaim := { program := "ytlfidpldmnbgbaa", sum := "c1a4f67dc281664c30d28a9f10616809599d1aed0a95edc936a1f87a3fa5fedf", func := "forkhead/forkheadlaw1.UnitsArithmetic", spec := "unitsArithmetic", inPlace := ["math/bits.Add64"], apart := false }
def UnitsArithmeticSaid : Prop := unitsArithmeticRow.holds Try.pinned (OpenSpec.ofChange unitsArithmeticSpec)

/-- ITS FALSE NEIGHBOUR: 'it returns false'. Refute it at one input. -/
def unitsArithmeticWrong : ChangeSpec := { name := "unitsArithmetic", fn := fun _ => fun
  | [d1, d2] => { results := [.lit (.bool false)], args := [d1, d2] }
  | _ => none }
def UnitsArithmeticWrongFalsely : Prop := unitsArithmeticRow.holds Try.pinned (OpenSpec.ofChange unitsArithmeticWrong)

/-- 'forkheadlaw1.UnitsSums': WHATEVER THE INPUT: true; the input reads as it did. -/
def unitsSumsSpec : ChangeSpec := { name := "unitsSums", fn := fun _ => fun
  | [d] => { results := [.lit (.bool true)], args := [d] }
  | _ => none }
def unitsSumsRow : OpenClaim := { program := "ytlfidpldmnbgbaa", sum := "c1a4f67dc281664c30d28a9f10616809599d1aed0a95edc936a1f87a3fa5fedf", func := "forkhead/forkheadlaw1.UnitsSums", spec := "unitsSums", inPlace := ["math/bits.Add64"], apart := false }
def UnitsSumsSaid : Prop := unitsSumsRow.holds Try.pinned (OpenSpec.ofChange unitsSumsSpec)

/-- ITS FALSE NEIGHBOUR: 'it returns false'. Refute it at one input. -/
def unitsSumsWrong : ChangeSpec := { name := "unitsSums", fn := fun _ => fun
  | [d] => { results := [.lit (.bool false)], args := [d] }
  | _ => none }
def UnitsSumsWrongFalsely : Prop := unitsSumsRow.holds Try.pinned (OpenSpec.ofChange unitsSumsWrong)

/-- 'forkheadlaw1.UnitsEpochs': WHATEVER THE INPUT: true; the input reads as it did. -/
def unitsEpochsSpec : ChangeSpec := { name := "unitsEpochs", fn := fun _ => fun
  | [d1, d2] => { results := [.lit (.bool true)], args := [d1, d2] }
  | _ => none }
def unitsEpochsRow : OpenClaim := { program := "ytlfidpldmnbgbaa", sum := "c1a4f67dc281664c30d28a9f10616809599d1aed0a95edc936a1f87a3fa5fedf", func := "forkhead/forkheadlaw1.UnitsEpochs", spec := "unitsEpochs", apart := false }
def UnitsEpochsSaid : Prop := unitsEpochsRow.holds Try.pinned (OpenSpec.ofChange unitsEpochsSpec)

/-- ITS FALSE NEIGHBOUR: 'it returns false'. Refute it at one input. -/
def unitsEpochsWrong : ChangeSpec := { name := "unitsEpochs", fn := fun _ => fun
  | [d1, d2] => { results := [.lit (.bool false)], args := [d1, d2] }
  | _ => none }
def UnitsEpochsWrongFalsely : Prop := unitsEpochsRow.holds Try.pinned (OpenSpec.ofChange unitsEpochsWrong)

/- THE SECOND FORM. 'bulk': how many values and letters a reading holds, each counted each time it is reached (what is shared counts as often as it is met; a slice's spare places count too). A statement '..UptoSaid' is the law's where the arguments, and the package variables that the reading takes, are together of bulk at most 1048576: NARROWER than '..Said'. Prove '..Said' where nothing that the law and all that it calls make is longer than what came in: it says more and counts as full. Else prove '..UptoSaid'. A law counts once. -/
mutual
def uptoBulk {H : Type} : DataW H → Nat
  | .lit (.string bytes) => bytes.length + 1
  | .lit _ => 1
  | .nil => 1
  | .ptr d => uptoBulk d + 1
  | .slice elems spare => uptoBulkAll elems + uptoBulkAll spare + 1
  | .agg parts => uptoBulkAll parts + 1
  | .iface _ d => uptoBulk d + 1
  | .map entries => uptoBulkEntries entries + 1
  | .held _ => 1
def uptoBulkAll {H : Type} : List (DataW H) → Nat
  | [] => 0
  | d :: r => uptoBulk d + uptoBulkAll r
def uptoBulkEntries {H : Type} : List (Lit × DataW H) → Nat
  | [] => 0
  | x :: r => uptoBulkEntry x + uptoBulkEntries r
def uptoBulkEntry {H : Type} : Lit × DataW H → Nat
  | (.string bytes, d) => bytes.length + uptoBulk d + 1
  | (_, d) => uptoBulk d + 1
 end
def uptoSmall : (H : Type) → List (DataW H) → Bool := fun _ ds => decide (uptoBulkAll ds ≤ 1048576)
def OpenSpec.upto (s : _root_.Go.ChangeSpec) : _root_.Go.OpenSpec := { _root_.Go.OpenSpec.ofChange s with cond := some uptoSmall }

/-- 'forkheadlaw1.UnitsArithmetic', WHERE WHAT IT READS IS OF BULK AT MOST 1048576: true; the input reads as it did. -/
def unitsArithmeticUptoRow : OpenClaim := { program := "ytlfidpldmnbgbaa", sum := "c1a4f67dc281664c30d28a9f10616809599d1aed0a95edc936a1f87a3fa5fedf", func := "forkhead/forkheadlaw1.UnitsArithmetic", spec := "unitsArithmetic", inPlace := ["math/bits.Add64"], apart := false, narrowed := true }
def UnitsArithmeticUptoSaid : Prop := unitsArithmeticUptoRow.holds Try.pinned (OpenSpec.upto unitsArithmeticSpec)

/-- 'forkheadlaw1.UnitsSums', WHERE WHAT IT READS IS OF BULK AT MOST 1048576: true; the input reads as it did. -/
def unitsSumsUptoRow : OpenClaim := { program := "ytlfidpldmnbgbaa", sum := "c1a4f67dc281664c30d28a9f10616809599d1aed0a95edc936a1f87a3fa5fedf", func := "forkhead/forkheadlaw1.UnitsSums", spec := "unitsSums", inPlace := ["math/bits.Add64"], apart := false, narrowed := true }
def UnitsSumsUptoSaid : Prop := unitsSumsUptoRow.holds Try.pinned (OpenSpec.upto unitsSumsSpec)

/-- 'forkheadlaw1.UnitsEpochs', WHERE WHAT IT READS IS OF BULK AT MOST 1048576: true; the input reads as it did. -/
def unitsEpochsUptoRow : OpenClaim := { program := "ytlfidpldmnbgbaa", sum := "c1a4f67dc281664c30d28a9f10616809599d1aed0a95edc936a1f87a3fa5fedf", func := "forkhead/forkheadlaw1.UnitsEpochs", spec := "unitsEpochs", apart := false, narrowed := true }
def UnitsEpochsUptoSaid : Prop := unitsEpochsUptoRow.holds Try.pinned (OpenSpec.upto unitsEpochsSpec)

end Rows
end Go.Proofs.Ytlfidpldmnbgbaa
