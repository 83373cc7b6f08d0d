/- Contract of wide.isNotation: one to 80 decimal digits, no leading zero but for "0" itself. -/
import Derived.Test.YtjlfacdmfcbjfaaWorld
import Derived.Test.YtjlfacdmfcbjfaaMath
set_option linter.unusedVariables false
namespace Go.Proofs.Ytjlfacdmfcbjfaa
open Go.RowKit

/-- Byte i of a string, as a number; 0 beyond its end. -/
def sB (s : ByteArray) (i : Nat) : Int := if h : i < s.size then ((s[i]'h).toNat : Int) else 0

def isDig (c : Int) : Bool := decide (48 ≤ c) && decide (c ≤ 57)

/-- Every byte is a decimal digit. -/
def digs (s : ByteArray) : Bool := (List.range s.size).all fun j => isDig (sB s j)

def notB (s : ByteArray) : Bool := decide (1 ≤ s.size) && decide (s.size ≤ 80) && digs s && (sB s 0 != 48 || s.size == 1)

theorem sB_at {s : ByteArray} {k : Nat} (h : k < s.size) : ((s[k]'h).toNat : Int) = sB s k := by unfold sB; rw [dif_pos h]

theorem sB_rng (s : ByteArray) (k : Nat) : 0 ≤ sB s k ∧ sB s k ≤ 255 := by
  unfold sB
  split
  · rename_i h
    have := (s[k]'h).toNat_lt
    omega
  · omega

theorem digs_all {s : ByteArray} (h : ∀ j, j < s.size → isDig (sB s j) = true) : digs s = true := by
  unfold digs
  rw [List.all_eq_true]
  intro j hj
  exact h j (List.mem_range.1 hj)

theorem digs_not {s : ByteArray} {k : Nat} (hk : k < s.size) (h : isDig (sB s k) = false) : digs s = false := by
  unfold digs
  rw [List.all_eq_false]
  exact ⟨k, List.mem_range.2 hk, by simp [h]⟩

end Go.Proofs.Ytjlfacdmfcbjfaa
