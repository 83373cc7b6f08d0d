/- The reference's Children, Leaves, At, Heir. -/
import Derived.Test.YtdbkphkgjaecoaaTrG
set_option linter.unusedVariables false

set_option linter.unusedSimpArgs false
namespace Go.Proofs.Ytdbkphkgjaecoaa
open Go.RowKit

set_option maxRecDepth 100000

def upI (ns : List NdD) (k : Nat) : Int := ((ns[k]?).map NdD.up).getD 0

theorem upI_at {ns : List NdD} {k : Nat} (h : k < ns.length) : upI ns k = ns[k].up := by simp [upI, List.getElem?_eq_getElem h]

def childN (ns : List NdD) (i : Int) : List Int := if 0 ≤ i ∧ i < ns.length then selK (fun k => decide (upI ns k = i)) ns.length else []

theorem childN_len (ns : List NdD) (i : Int) : (childN ns i).length ≤ ns.length := by
  unfold childN
  split
  · exact selK_len _ _
  · simp

def leafN (ns : List NdD) : List Int := selK (fun k => decide ((childN ns (k : Int)).length = 0)) ns.length
end Go.Proofs.Ytdbkphkgjaecoaa
