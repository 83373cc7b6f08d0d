/- Contracts of the functions of layer 1 (units) and of their references: each returns exactly the plain function named here; the memory is as it was. Conditions: each number is in the range of uint64. -/
import Derived.Test.YtdmjpmigejpkmaaBase
import Derived.Test.YtdmjpmigejpkmaaShelf
import Derived.WalkKit
import Derived.WalkSpells
import Derived.WalkLawsBesides
import Derived.Laws.Externs
import Derived.Lib.Hide
set_option linter.unusedVariables false
namespace Go.Proofs.Ytdmjpmigejpkmaa
open Go.RowKit

def addV (x y : Int) : Int := if x + y ≤ 18446744073709551615 then x + y else 0

def addE (x y : Int) : Int := if x + y ≤ 18446744073709551615 then 0 else 4

def subV (x y : Int) : Int := if y ≤ x then x - y else 0

def subE (x y : Int) : Int := if y ≤ x then 0 else 4

def mulV (x y : Int) : Int := if x * y ≤ 18446744073709551615 then x * y else 0

def mulE (x y : Int) : Int := if x * y ≤ 18446744073709551615 then 0 else 4

theorem add_lo {x y : Int} (h : x + y ≤ 18446744073709551615) : addV x y = x + y ∧ addE x y = 0 := by unfold addV addE; rw [if_pos h, if_pos h]; exact ⟨rfl, rfl⟩

theorem add_hi {x y : Int} (h : 18446744073709551615 < x + y) : addV x y = 0 ∧ addE x y = 4 := by unfold addV addE; rw [if_neg (by omega), if_neg (by omega)]; exact ⟨rfl, rfl⟩

theorem sub_lo {x y : Int} (h : y ≤ x) : subV x y = x - y ∧ subE x y = 0 := by unfold subV subE; rw [if_pos h, if_pos h]; exact ⟨rfl, rfl⟩

theorem sub_hi {x y : Int} (h : x < y) : subV x y = 0 ∧ subE x y = 4 := by unfold subV subE; rw [if_neg (by omega), if_neg (by omega)]; exact ⟨rfl, rfl⟩

theorem mul_lo {x y : Int} (h : x * y ≤ 18446744073709551615) : mulV x y = x * y ∧ mulE x y = 0 := by unfold mulV mulE; rw [if_pos h, if_pos h]; exact ⟨rfl, rfl⟩

theorem mul_hi {x y : Int} (h : 18446744073709551615 < x * y) : mulV x y = 0 ∧ mulE x y = 4 := by unfold mulV mulE; rw [if_neg (by omega), if_neg (by omega)]; exact ⟨rfl, rfl⟩

theorem addV_rng (x y : Int) (hx : 0 ≤ x) (hy : 0 ≤ y) : 0 ≤ addV x y ∧ addV x y ≤ 18446744073709551615 := by unfold addV; split <;> omega

theorem mulV_rng (x y : Int) (hx : 0 ≤ x) (hy : 0 ≤ y) : 0 ≤ mulV x y ∧ mulV x y ≤ 18446744073709551615 := by
  have := Int.mul_nonneg hx hy
  unfold mulV; split <;> omega

theorem carry_yes {n : Int} (h0 : 0 ≤ n) (h : (n / 18446744073709551616 != 0) = true) : 18446744073709551615 < n := by
  have h' : n / 18446744073709551616 ≠ 0 := by simpa using h
  omega

theorem carry_no {n : Int} (h0 : 0 ≤ n) (h : (n / 18446744073709551616 != 0) = false) : n ≤ 18446744073709551615 ∧ n % 18446744073709551616 = n := by
  have h' : n / 18446744073709551616 = 0 := by simpa using h
  omega

theorem quot_lt {x y : Int} (hx : 0 ≤ x) (hy : 0 < y) (h : 18446744073709551615 / y < x) : 18446744073709551615 < x * y := by
  have := Int.lt_mul_of_ediv_lt hy h
  omega

theorem quot_ge {x y : Int} (hx : 0 ≤ x) (hy : 0 < y) (h : x ≤ 18446744073709551615 / y) : x * y ≤ 18446744073709551615 :=
  Int.mul_le_of_le_ediv hy h

theorem wrap_u64 {n : Int} (h0 : 0 ≤ n) (h : n ≤ 18446744073709551615) : IntKind.u64.wrap n = n := by
  simp only [IntKind.wrap, IntKind.signed, IntKind.bits]
  simp
  omega
/-! Epochs -/

def lenB (n : Int) : Bool := decide (1 ≤ n) && decide (n ≤ 64)

def epochV (s n : Int) : Int := if lenB n = true then s / n else 0

def epochE (n : Int) : Int := if lenB n = true then 0 else 3

def startV (e n : Int) : Int := if lenB n = true then mulV e n else 0

def startE (e n : Int) : Int := if lenB n = true then mulE e n else 3

def startB (s n : Int) : Bool := lenB n && (s % n == 0)

theorem lenB_iff {n : Int} : lenB n = true ↔ 1 ≤ n ∧ n ≤ 64 := by simp [lenB]

theorem lenB_some {n : Int} (h : 1 ≤ n) : decide (n ≤ 64) = lenB n := by simp [lenB, h]

theorem lenB_none {n : Int} (h : n < 1) : false = lenB n := by
  have : ¬ 1 ≤ n := by omega
  simp [lenB, this]
end Go.Proofs.Ytdmjpmigejpkmaa
