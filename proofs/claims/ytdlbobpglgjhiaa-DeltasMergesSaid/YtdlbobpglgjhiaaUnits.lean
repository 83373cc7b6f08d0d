/- Contracts of the functions of layer 1 (units) and of their references: each returns exactly the plain function named here; the memory is as it was. Conditions: each number is in the range of uint64. -/
import Derived.Test.YtdlbobpglgjhiaaBase
import Derived.Test.YtdlbobpglgjhiaaShelf
import Derived.WalkKit
import Derived.WalkSpells
import Derived.WalkLawsBesides
import Derived.Laws.Externs
import Derived.Lib.Hide
set_option linter.unusedVariables false
namespace Go.Proofs.Ytdlbobpglgjhiaa
open Go.RowKit

def addV (x y : Int) : Int := if x + y ≤ 18446744073709551615 then x + y else 0

def addE (x y : Int) : Int := if x + y ≤ 18446744073709551615 then 0 else 4

def subV (x y : Int) : Int := if y ≤ x then x - y else 0

def subE (x y : Int) : Int := if y ≤ x then 0 else 4

def mulV (x y : Int) : Int := if x * y ≤ 18446744073709551615 then x * y else 0

def mulE (x y : Int) : Int := if x * y ≤ 18446744073709551615 then 0 else 4

theorem add_lo {x y : Int} (h : x + y ≤ 18446744073709551615) : addV x y = x + y ∧ addE x y = 0 := by unfold addV addE; rw [if_pos h, if_pos h]; exact ⟨rfl, rfl⟩

theorem add_hi {x y : Int} (h : 18446744073709551615 < x + y) : addV x y = 0 ∧ addE x y = 4 := by unfold addV addE; rw [if_neg (by omega), if_neg (by omega)]; exact ⟨rfl, rfl⟩

theorem sub_lo {x y : Int} (h : y ≤ x) : subV x y = x - y ∧ subE x y = 0 := by unfold subV subE; rw [if_pos h, if_pos h]; exact ⟨rfl, rfl⟩

theorem sub_hi {x y : Int} (h : x < y) : subV x y = 0 ∧ subE x y = 4 := by unfold subV subE; rw [if_neg (by omega), if_neg (by omega)]; exact ⟨rfl, rfl⟩

theorem mul_lo {x y : Int} (h : x * y ≤ 18446744073709551615) : mulV x y = x * y ∧ mulE x y = 0 := by unfold mulV mulE; rw [if_pos h, if_pos h]; exact ⟨rfl, rfl⟩

theorem mul_hi {x y : Int} (h : 18446744073709551615 < x * y) : mulV x y = 0 ∧ mulE x y = 4 := by unfold mulV mulE; rw [if_neg (by omega), if_neg (by omega)]; exact ⟨rfl, rfl⟩

theorem addV_rng (x y : Int) (hx : 0 ≤ x) (hy : 0 ≤ y) : 0 ≤ addV x y ∧ addV x y ≤ 18446744073709551615 := by unfold addV; split <;> omega

theorem mulV_rng (x y : Int) (hx : 0 ≤ x) (hy : 0 ≤ y) : 0 ≤ mulV x y ∧ mulV x y ≤ 18446744073709551615 := by
  have := Int.mul_nonneg hx hy
  unfold mulV; split <;> omega

theorem run_Add64 (x y : Int) (hx : 0 ≤ x) (hy : 0 ≤ y) (w : World) :
    (callFunc 48 #[.int .u64 x, .int .u64 y, .int .u64 0]).run Try.prog w =
      .ok (.value (.tuple #[.int .u64 ((x + y) % 18446744073709551616), .int .u64 ((x + y) / 18446744073709551616)])) w := by
  rw [run_callFunc_extern Try.func48 (by kernel_rfl) (by kernel_rfl) (by kernel_rfl) (e := add64Entry) (by kernel_rfl), run_add64 x y 0 (by omega) (by omega) (by omega) (by omega)]
  simp only [Result.andThen, Int.add_zero]

theorem carry_yes {n : Int} (h0 : 0 ≤ n) (h : (n / 18446744073709551616 != 0) = true) : 18446744073709551615 < n := by
  have h' : n / 18446744073709551616 ≠ 0 := by simpa using h
  omega

theorem carry_no {n : Int} (h0 : 0 ≤ n) (h : (n / 18446744073709551616 != 0) = false) : n ≤ 18446744073709551615 ∧ n % 18446744073709551616 = n := by
  have h' : n / 18446744073709551616 = 0 := by simpa using h
  omega

set_option maxHeartbeats 400000 in
theorem add_any (x y : Int) (hx : 0 ≤ x) (hx' : x ≤ 18446744073709551615) (hy : 0 ≤ y) (hy' : y ≤ 18446744073709551615) (w : World) :
    Calls Try.prog 42 #[.int .u64 x, .int .u64 y] w fun e w' => e = .returned (.tuple #[.int .u64 (addV x y), .int .i64 (addE x y)]) ∧ w = w' := by
  have hr := run_Add64 x y hx hy
  go_enter Try.func42, Try.ntmps42
  go_wp2_with fail
  · have h := add_hi (carry_yes (n := x + y) (by omega) ‹_›)
    go_ret2
    exact ⟨tup2 h.1.symm h.2.symm, rfl⟩
  · have h1 := carry_no (n := x + y) (by omega) ‹_›
    have h := add_lo h1.1
    go_ret2
    exact ⟨tup2 (by rw [h.1, h1.2]) h.2.symm, rfl⟩

set_option maxHeartbeats 400000 in
theorem radd_any (x y : Int) (hx : 0 ≤ x) (hx' : x ≤ 18446744073709551615) (hy : 0 ≤ y) (hy' : y ≤ 18446744073709551615) (w : World) :
    Calls Try.prog 36 #[.int .u64 x, .int .u64 y] w fun e w' => e = .returned (.tuple #[.int .u64 (addV x y), .int .i64 (addE x y)]) ∧ w = w' := by
  by_cases hc : x + y ≤ 18446744073709551615
  · have h := add_lo hc
    have H := Lib.hid h; clear h
    go_enter Try.func36, Try.ntmps36
    go_wp2_with fail
    go_ret2
    exact ⟨tup2 H.out.1.symm H.out.2.symm, rfl⟩
  · have h := add_hi (x := x) (y := y) (by omega)
    have H := Lib.hid h; clear h
    go_enter Try.func36, Try.ntmps36
    go_wp2_with fail
    go_ret2
    exact ⟨tup2 H.out.1.symm H.out.2.symm, rfl⟩

set_option maxHeartbeats 400000 in
theorem sub_any (x y : Int) (hx : 0 ≤ x) (hx' : x ≤ 18446744073709551615) (hy : 0 ≤ y) (hy' : y ≤ 18446744073709551615) (w : World) :
    Calls Try.prog 43 #[.int .u64 x, .int .u64 y] w fun e w' => e = .returned (.tuple #[.int .u64 (subV x y), .int .i64 (subE x y)]) ∧ w = w' := by
  by_cases hc : y ≤ x
  · have h := sub_lo hc
    have H := Lib.hid h; clear h
    go_enter Try.func43, Try.ntmps43
    go_wp2_with fail
    go_ret2
    exact ⟨tup2 H.out.1.symm H.out.2.symm, rfl⟩
  · have h := sub_hi (x := x) (y := y) (by omega)
    have H := Lib.hid h; clear h
    go_enter Try.func43, Try.ntmps43
    go_wp2_with fail
    go_ret2
    exact ⟨tup2 H.out.1.symm H.out.2.symm, rfl⟩

set_option maxHeartbeats 400000 in
theorem rsub_any (x y : Int) (hx : 0 ≤ x) (hx' : x ≤ 18446744073709551615) (hy : 0 ≤ y) (hy' : y ≤ 18446744073709551615) (w : World) :
    Calls Try.prog 37 #[.int .u64 x, .int .u64 y] w fun e w' => e = .returned (.tuple #[.int .u64 (subV x y), .int .i64 (subE x y)]) ∧ w = w' := by
  by_cases hc : y ≤ x
  · have h := sub_lo hc
    have H := Lib.hid h; clear h
    go_enter Try.func37, Try.ntmps37
    go_wp2_with fail
    go_ret2
    exact ⟨tup2 H.out.1.symm H.out.2.symm, rfl⟩
  · have h := sub_hi (x := x) (y := y) (by omega)
    have H := Lib.hid h; clear h
    go_enter Try.func37, Try.ntmps37
    go_wp2_with fail
    go_ret2
    exact ⟨tup2 H.out.1.symm H.out.2.symm, rfl⟩

theorem quot_lt {x y : Int} (hx : 0 ≤ x) (hy : 0 < y) (h : 18446744073709551615 / y < x) : 18446744073709551615 < x * y := by
  have := Int.lt_mul_of_ediv_lt hy h
  omega

theorem quot_ge {x y : Int} (hx : 0 ≤ x) (hy : 0 < y) (h : x ≤ 18446744073709551615 / y) : x * y ≤ 18446744073709551615 :=
  Int.mul_le_of_le_ediv hy h

theorem wrap_u64 {n : Int} (h0 : 0 ≤ n) (h : n ≤ 18446744073709551615) : IntKind.u64.wrap n = n := by
  simp only [IntKind.wrap, IntKind.signed, IntKind.bits]
  simp
  omega
/-! Epochs -/

def lenB (n : Int) : Bool := decide (1 ≤ n) && decide (n ≤ 64)

def epochV (s n : Int) : Int := if lenB n = true then s / n else 0

def epochE (n : Int) : Int := if lenB n = true then 0 else 3

def startV (e n : Int) : Int := if lenB n = true then mulV e n else 0

def startE (e n : Int) : Int := if lenB n = true then mulE e n else 3

def startB (s n : Int) : Bool := lenB n && (s % n == 0)

theorem lenB_iff {n : Int} : lenB n = true ↔ 1 ≤ n ∧ n ≤ 64 := by simp [lenB]

theorem lenB_some {n : Int} (h : 1 ≤ n) : decide (n ≤ 64) = lenB n := by simp [lenB, h]

theorem lenB_none {n : Int} (h : n < 1) : false = lenB n := by
  have : ¬ 1 ≤ n := by omega
  simp [lenB, this]
end Go.Proofs.Ytdlbobpglgjhiaa
