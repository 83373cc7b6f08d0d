/- Slices of roots; the reference's Contains (layer 1) and Weight. -/
import Derived.Test.YtgdlkkeiijhecaaVoA
import Derived.Test.YtgdlkkeiijhecaaEvA
set_option linter.unusedVariables false

set_option linter.unusedSimpArgs false
namespace Go.Proofs.Ytgdlkkeiijhecaa
open Go.RowKit

set_option maxRecDepth 100000

/-- An element of a slice of roots. -/
def RtEl (P : Value → Prop) (w : World) (X : Array Value) (r : List Int) : Prop := X = (bytesL r).toArray ∧ IsBytes 32 r

theorem rtOK : ElOK 32 RtEl where
  size := fun h => by rw [h.1, List.size_toArray, bytesL_len h.2]
  one := fun h v hv => by rw [h.1] at hv; exact bytesL_one _ v (by simpa using hv)
  mono := fun h _ => h
  grown := fun h _ _ => h
  off := fun h _ => h

/-- A slice of roots. -/
abbrev RootsV (w : World) (v : Value) (rs : List (List Int)) : Prop := ElV RtEl 32 w v rs

theorem RootsV.call {w w' : World} {v : Value} {rs : List (List Int)} (h : RootsV w v rs) (hb : Below w.heap.size w w') : RootsV w' v rs := ElV.below rtOK h hb

theorem RootsV.elem {w : World} {a : Option Addr} {l cap : Nat} {rs : List (List Int)} (h : RootsV w (.slice a l cap) rs) {i : Nat} (hi : i < rs.length) :
    ∃ b off, a = some ⟨b, off, none⟩ ∧ l = rs.length ∧ b < w.heap.size ∧ w.rangeAt b (off + i * 32) (bytesL rs[i]) ∧ IsBytes 32 rs[i] := by
  obtain ⟨b, off, X, h1, h2, h3, h4, ⟨h5, h6⟩, _⟩ := ElV.at rtOK h hi
  exact ⟨b, off, h1, h2, h3, by rw [h5] at h4; exact h4, h6⟩

/-- Whether validator k counts for these roots. -/
def weiP (vs : List VoD) (es : List Int) (rs : List (List Int)) (k : Nat) : Bool := (vs.getD k zeV).has && !decide ((k : Int) ∈ es) && decide ((vs.getD k zeV).r ∈ rs)

def weiK (vs : List VoD) (es : List Int) (bs : List Int) (rs : List (List Int)) : Nat → Int
  | 0 => 0
  | k + 1 => if weiP vs es rs k then IntKind.u64.wrap (weiK vs es bs rs k + bs.getD k 0) else weiK vs es bs rs k

def weiN (vs : List VoD) (es : List Int) (bs : List Int) (rs : List (List Int)) : Int := weiK vs es bs rs (min bs.length vs.length)

theorem weiK_yes {vs : List VoD} {es bs : List Int} {rs : List (List Int)} {k : Nat} (h : weiP vs es rs k = true) : weiK vs es bs rs (k + 1) = IntKind.u64.wrap (weiK vs es bs rs k + bs.getD k 0) := by
  show (if weiP vs es rs k = true then IntKind.u64.wrap (weiK vs es bs rs k + bs.getD k 0) else weiK vs es bs rs k) = _
  rw [if_pos h]

theorem weiK_no {vs : List VoD} {es bs : List Int} {rs : List (List Int)} {k : Nat} (h : weiP vs es rs k = false) : weiK vs es bs rs (k + 1) = weiK vs es bs rs k := by
  show (if weiP vs es rs k = true then IntKind.u64.wrap (weiK vs es bs rs k + bs.getD k 0) else weiK vs es bs rs k) = _
  rw [if_neg (by rw [h]; simp)]
end Go.Proofs.Ytgdlkkeiijhecaa
