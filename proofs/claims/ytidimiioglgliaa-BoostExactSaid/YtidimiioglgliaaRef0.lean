/- Contracts of the reference's half and put: half limb i of a number; the number with half limb i set. Conditions: i from 0 to 7; for put: the number has no half limb from i on. -/
import Derived.Test.YtidimiioglgliaaMath
import Derived.Test.YtidimiioglgliaaWorld
set_option linter.unusedVariables false
namespace Go.Proofs.Ytidimiioglgliaa
open Go.RowKit

/-- Half limb i. -/
def hf (n : Int) (i : Nat) : Int := n / (4294967296 : Int) ^ i % 4294967296

theorem hf_rng (n : Int) (i : Nat) : 0 ≤ hf n i ∧ hf n i < 4294967296 := by unfold hf; omega

theorem or_lo (b x : Int) (hb : 0 ≤ b) (hb2 : b < 4294967296) (hx : 0 ≤ x) (hx2 : x < 4294967296) : bits .or .u64 b (x * 4294967296) = b + x * 4294967296 := by
  obtain ⟨b, rfl⟩ := Int.eq_ofNat_of_zero_le hb
  obtain ⟨x, rfl⟩ := Int.eq_ofNat_of_zero_le hx
  have h := or_low 32 x b (by omega) (by omega)
  have e : ((x : Int) * 4294967296) = ((x * 2 ^ 32 : Nat) : Int) := by omega
  rw [e, bits_or_u64_nat _ _ (by omega) (by omega), Nat.or_comm]
  rw [bits_or_u64_nat _ _ (by omega) (by omega)] at h
  omega

theorem or_zero (x : Int) (hx : 0 ≤ x) (hx2 : x < 18446744073709551616) : bits .or .u64 0 x = x := by
  obtain ⟨x, rfl⟩ := Int.eq_ofNat_of_zero_le hx
  rw [show (0 : Int) = ((0 : Nat) : Int) from rfl, bits_or_u64_nat _ _ (by omega) (by omega), Nat.zero_or]

set_option maxHeartbeats 400000 in
theorem half_0 (n : Int) (hn : W256 n) (w : World) :
    Calls Try.prog 21 #[.agg #[.int .u64 (l0 (n)), .int .u64 (l1 (n)), .int .u64 (l2 (n)), .int .u64 (l3 (n))], .int .i64 0] w fun e w' => e = .returned (.int .u64 (hf n 0)) ∧ Below w.heap.size w w' := by
  obtain ⟨x0, x1, x2, x3, ex0, ex1, ex2, ex3, hx0, kx0, hx1, kx1, hx2, kx2, hx3, kx3, hN⟩ := limbs_ex hn
  rw [ex0, ex1, ex2, ex3]
  have e : bits .and .u64 (x0) 4294967295 = hf n 0 := by
    rw [and32 _ (by omega) (by omega)]
    unfold hf
    rw [show (4294967296 : Int) ^ 0 = 1 from by decide]
    omega
  clear ex0 ex1 ex2 ex3 hN
  go_enter Try.func21, Try.ntmps21
  go_wp2_with fail
  go_ret
  exact ⟨rfl, (Below.refl _ _).alloc (Nat.le_refl _) _⟩

set_option maxHeartbeats 400000 in
theorem half_1 (n : Int) (hn : W256 n) (w : World) :
    Calls Try.prog 21 #[.agg #[.int .u64 (l0 (n)), .int .u64 (l1 (n)), .int .u64 (l2 (n)), .int .u64 (l3 (n))], .int .i64 1] w fun e w' => e = .returned (.int .u64 (hf n 1)) ∧ Below w.heap.size w w' := by
  obtain ⟨x0, x1, x2, x3, ex0, ex1, ex2, ex3, hx0, kx0, hx1, kx1, hx2, kx2, hx3, kx3, hN⟩ := limbs_ex hn
  rw [ex0, ex1, ex2, ex3]
  have e : bits .and .u64 (x0 / 4294967296) 4294967295 = hf n 1 := by
    rw [and32 _ (by omega) (by omega)]
    unfold hf
    rw [show (4294967296 : Int) ^ 1 = 4294967296 from by decide]
    omega
  clear ex0 ex1 ex2 ex3 hN
  go_enter Try.func21, Try.ntmps21
  go_wp2_with fail
  go_ret
  exact ⟨rfl, (Below.refl _ _).alloc (Nat.le_refl _) _⟩

set_option maxHeartbeats 400000 in
theorem half_2 (n : Int) (hn : W256 n) (w : World) :
    Calls Try.prog 21 #[.agg #[.int .u64 (l0 (n)), .int .u64 (l1 (n)), .int .u64 (l2 (n)), .int .u64 (l3 (n))], .int .i64 2] w fun e w' => e = .returned (.int .u64 (hf n 2)) ∧ Below w.heap.size w w' := by
  obtain ⟨x0, x1, x2, x3, ex0, ex1, ex2, ex3, hx0, kx0, hx1, kx1, hx2, kx2, hx3, kx3, hN⟩ := limbs_ex hn
  rw [ex0, ex1, ex2, ex3]
  have e : bits .and .u64 (x1) 4294967295 = hf n 2 := by
    rw [and32 _ (by omega) (by omega)]
    unfold hf
    rw [show (4294967296 : Int) ^ 2 = 18446744073709551616 from by decide]
    omega
  clear ex0 ex1 ex2 ex3 hN
  go_enter Try.func21, Try.ntmps21
  go_wp2_with fail
  go_ret
  exact ⟨rfl, (Below.refl _ _).alloc (Nat.le_refl _) _⟩

set_option maxHeartbeats 400000 in
theorem half_3 (n : Int) (hn : W256 n) (w : World) :
    Calls Try.prog 21 #[.agg #[.int .u64 (l0 (n)), .int .u64 (l1 (n)), .int .u64 (l2 (n)), .int .u64 (l3 (n))], .int .i64 3] w fun e w' => e = .returned (.int .u64 (hf n 3)) ∧ Below w.heap.size w w' := by
  obtain ⟨x0, x1, x2, x3, ex0, ex1, ex2, ex3, hx0, kx0, hx1, kx1, hx2, kx2, hx3, kx3, hN⟩ := limbs_ex hn
  rw [ex0, ex1, ex2, ex3]
  have e : bits .and .u64 (x1 / 4294967296) 4294967295 = hf n 3 := by
    rw [and32 _ (by omega) (by omega)]
    unfold hf
    rw [show (4294967296 : Int) ^ 3 = 79228162514264337593543950336 from by decide]
    omega
  clear ex0 ex1 ex2 ex3 hN
  go_enter Try.func21, Try.ntmps21
  go_wp2_with fail
  go_ret
  exact ⟨rfl, (Below.refl _ _).alloc (Nat.le_refl _) _⟩

set_option maxHeartbeats 400000 in
theorem half_4 (n : Int) (hn : W256 n) (w : World) :
    Calls Try.prog 21 #[.agg #[.int .u64 (l0 (n)), .int .u64 (l1 (n)), .int .u64 (l2 (n)), .int .u64 (l3 (n))], .int .i64 4] w fun e w' => e = .returned (.int .u64 (hf n 4)) ∧ Below w.heap.size w w' := by
  obtain ⟨x0, x1, x2, x3, ex0, ex1, ex2, ex3, hx0, kx0, hx1, kx1, hx2, kx2, hx3, kx3, hN⟩ := limbs_ex hn
  rw [ex0, ex1, ex2, ex3]
  have e : bits .and .u64 (x2) 4294967295 = hf n 4 := by
    rw [and32 _ (by omega) (by omega)]
    unfold hf
    rw [show (4294967296 : Int) ^ 4 = 340282366920938463463374607431768211456 from by decide]
    omega
  clear ex0 ex1 ex2 ex3 hN
  go_enter Try.func21, Try.ntmps21
  go_wp2_with fail
  go_ret
  exact ⟨rfl, (Below.refl _ _).alloc (Nat.le_refl _) _⟩

set_option maxHeartbeats 400000 in
theorem half_5 (n : Int) (hn : W256 n) (w : World) :
    Calls Try.prog 21 #[.agg #[.int .u64 (l0 (n)), .int .u64 (l1 (n)), .int .u64 (l2 (n)), .int .u64 (l3 (n))], .int .i64 5] w fun e w' => e = .returned (.int .u64 (hf n 5)) ∧ Below w.heap.size w w' := by
  obtain ⟨x0, x1, x2, x3, ex0, ex1, ex2, ex3, hx0, kx0, hx1, kx1, hx2, kx2, hx3, kx3, hN⟩ := limbs_ex hn
  rw [ex0, ex1, ex2, ex3]
  have e : bits .and .u64 (x2 / 4294967296) 4294967295 = hf n 5 := by
    rw [and32 _ (by omega) (by omega)]
    unfold hf
    rw [show (4294967296 : Int) ^ 5 = 1461501637330902918203684832716283019655932542976 from by decide]
    omega
  clear ex0 ex1 ex2 ex3 hN
  go_enter Try.func21, Try.ntmps21
  go_wp2_with fail
  go_ret
  exact ⟨rfl, (Below.refl _ _).alloc (Nat.le_refl _) _⟩

set_option maxHeartbeats 400000 in
theorem half_6 (n : Int) (hn : W256 n) (w : World) :
    Calls Try.prog 21 #[.agg #[.int .u64 (l0 (n)), .int .u64 (l1 (n)), .int .u64 (l2 (n)), .int .u64 (l3 (n))], .int .i64 6] w fun e w' => e = .returned (.int .u64 (hf n 6)) ∧ Below w.heap.size w w' := by
  obtain ⟨x0, x1, x2, x3, ex0, ex1, ex2, ex3, hx0, kx0, hx1, kx1, hx2, kx2, hx3, kx3, hN⟩ := limbs_ex hn
  rw [ex0, ex1, ex2, ex3]
  have e : bits .and .u64 (x3) 4294967295 = hf n 6 := by
    rw [and32 _ (by omega) (by omega)]
    unfold hf
    rw [show (4294967296 : Int) ^ 6 = 6277101735386680763835789423207666416102355444464034512896 from by decide]
    omega
  clear ex0 ex1 ex2 ex3 hN
  go_enter Try.func21, Try.ntmps21
  go_wp2_with fail
  go_ret
  exact ⟨rfl, (Below.refl _ _).alloc (Nat.le_refl _) _⟩

set_option maxHeartbeats 400000 in
theorem half_7 (n : Int) (hn : W256 n) (w : World) :
    Calls Try.prog 21 #[.agg #[.int .u64 (l0 (n)), .int .u64 (l1 (n)), .int .u64 (l2 (n)), .int .u64 (l3 (n))], .int .i64 7] w fun e w' => e = .returned (.int .u64 (hf n 7)) ∧ Below w.heap.size w w' := by
  obtain ⟨x0, x1, x2, x3, ex0, ex1, ex2, ex3, hx0, kx0, hx1, kx1, hx2, kx2, hx3, kx3, hN⟩ := limbs_ex hn
  rw [ex0, ex1, ex2, ex3]
  have e : bits .and .u64 (x3 / 4294967296) 4294967295 = hf n 7 := by
    rw [and32 _ (by omega) (by omega)]
    unfold hf
    rw [show (4294967296 : Int) ^ 7 = 26959946667150639794667015087019630673637144422540572481103610249216 from by decide]
    omega
  clear ex0 ex1 ex2 ex3 hN
  go_enter Try.func21, Try.ntmps21
  go_wp2_with fail
  go_ret
  exact ⟨rfl, (Below.refl _ _).alloc (Nat.le_refl _) _⟩

set_option maxHeartbeats 400000 in
theorem put_0 (n x : Int) (hn : 0 ≤ n) (hn2 : n < 1) (hx : 0 ≤ x) (hx2' : x < 4294967296) (w : World) :
    Calls Try.prog 22 #[.agg #[.int .u64 (l0 (n)), .int .u64 (l1 (n)), .int .u64 (l2 (n)), .int .u64 (l3 (n))], .int .i64 0, .int .u64 x] w fun e w' => e = .returned (.agg #[.int .u64 (l0 (n + x * 1)), .int .u64 (l1 (n + x * 1)), .int .u64 (l2 (n + x * 1)), .int .u64 (l3 (n + x * 1))]) ∧ Below w.heap.size w w' := by
  obtain ⟨x0, x1, x2, x3, ex0, ex1, ex2, ex3, hx0, kx0, hx1, kx1, hx2, kx2, hx3, kx3, hN⟩ := limbs_ex (n := n) (by unfold W256; omega)
  rw [ex0, ex1, ex2, ex3]
  clear ex0 ex1 ex2 ex3
  have hz : x0 = 0 := by omega
  subst hz
  have e : bits .or .u64 0 x = x := or_zero x hx (by omega)
  obtain ⟨_, p0, p1, p2, p3⟩ := limbs_of (n := n + x * 1) (a := x) (b := x1) (c := x2) (d := x3) (by omega) (by omega) (by omega) (by omega) (by omega)
  rw [p0, p1, p2, p3]
  clear p0 p1 p2 p3 hN
  go_enter Try.func22, Try.ntmps22
  go_wp2_with fail
  refine bodyPost_ret (v := .agg #[.int .u64 (x), .int .u64 (x1), .int .u64 (x2), .int .u64 (x3)]) (by simp [results, Try.results22, go_sem]) rfl ⟨rfl, ?_⟩
  exact ((Below.refl _ _).alloc (Nat.le_refl _) _).alloc (by simp) _

set_option maxHeartbeats 400000 in
theorem put_1 (n x : Int) (hn : 0 ≤ n) (hn2 : n < 4294967296) (hx : 0 ≤ x) (hx2' : x < 4294967296) (w : World) :
    Calls Try.prog 22 #[.agg #[.int .u64 (l0 (n)), .int .u64 (l1 (n)), .int .u64 (l2 (n)), .int .u64 (l3 (n))], .int .i64 1, .int .u64 x] w fun e w' => e = .returned (.agg #[.int .u64 (l0 (n + x * 4294967296)), .int .u64 (l1 (n + x * 4294967296)), .int .u64 (l2 (n + x * 4294967296)), .int .u64 (l3 (n + x * 4294967296))]) ∧ Below w.heap.size w w' := by
  obtain ⟨x0, x1, x2, x3, ex0, ex1, ex2, ex3, hx0, kx0, hx1, kx1, hx2, kx2, hx3, kx3, hN⟩ := limbs_ex (n := n) (by unfold W256; omega)
  rw [ex0, ex1, ex2, ex3]
  clear ex0 ex1 ex2 ex3
  have hlt : x0 < 4294967296 := by omega
  have e : bits .or .u64 x0 (x * 4294967296) = x0 + x * 4294967296 := or_lo x0 x hx0 hlt hx hx2'
  obtain ⟨_, p0, p1, p2, p3⟩ := limbs_of (n := n + x * 4294967296) (a := x0 + x * 4294967296) (b := x1) (c := x2) (d := x3) (by omega) (by omega) (by omega) (by omega) (by omega)
  rw [p0, p1, p2, p3]
  clear p0 p1 p2 p3 hN
  go_enter Try.func22, Try.ntmps22
  go_wp2_with fail
  refine bodyPost_ret (v := .agg #[.int .u64 (x0 + x * 4294967296), .int .u64 (x1), .int .u64 (x2), .int .u64 (x3)]) (by simp [results, Try.results22, go_sem]) rfl ⟨rfl, ?_⟩
  exact ((Below.refl _ _).alloc (Nat.le_refl _) _).alloc (by simp) _

set_option maxHeartbeats 400000 in
theorem put_2 (n x : Int) (hn : 0 ≤ n) (hn2 : n < 18446744073709551616) (hx : 0 ≤ x) (hx2' : x < 4294967296) (w : World) :
    Calls Try.prog 22 #[.agg #[.int .u64 (l0 (n)), .int .u64 (l1 (n)), .int .u64 (l2 (n)), .int .u64 (l3 (n))], .int .i64 2, .int .u64 x] w fun e w' => e = .returned (.agg #[.int .u64 (l0 (n + x * 18446744073709551616)), .int .u64 (l1 (n + x * 18446744073709551616)), .int .u64 (l2 (n + x * 18446744073709551616)), .int .u64 (l3 (n + x * 18446744073709551616))]) ∧ Below w.heap.size w w' := by
  obtain ⟨x0, x1, x2, x3, ex0, ex1, ex2, ex3, hx0, kx0, hx1, kx1, hx2, kx2, hx3, kx3, hN⟩ := limbs_ex (n := n) (by unfold W256; omega)
  rw [ex0, ex1, ex2, ex3]
  clear ex0 ex1 ex2 ex3
  have hz : x1 = 0 := by omega
  subst hz
  have e : bits .or .u64 0 x = x := or_zero x hx (by omega)
  obtain ⟨_, p0, p1, p2, p3⟩ := limbs_of (n := n + x * 18446744073709551616) (a := x0) (b := x) (c := x2) (d := x3) (by omega) (by omega) (by omega) (by omega) (by omega)
  rw [p0, p1, p2, p3]
  clear p0 p1 p2 p3 hN
  go_enter Try.func22, Try.ntmps22
  go_wp2_with fail
  refine bodyPost_ret (v := .agg #[.int .u64 (x0), .int .u64 (x), .int .u64 (x2), .int .u64 (x3)]) (by simp [results, Try.results22, go_sem]) rfl ⟨rfl, ?_⟩
  exact ((Below.refl _ _).alloc (Nat.le_refl _) _).alloc (by simp) _

set_option maxHeartbeats 400000 in
theorem put_3 (n x : Int) (hn : 0 ≤ n) (hn2 : n < 79228162514264337593543950336) (hx : 0 ≤ x) (hx2' : x < 4294967296) (w : World) :
    Calls Try.prog 22 #[.agg #[.int .u64 (l0 (n)), .int .u64 (l1 (n)), .int .u64 (l2 (n)), .int .u64 (l3 (n))], .int .i64 3, .int .u64 x] w fun e w' => e = .returned (.agg #[.int .u64 (l0 (n + x * 79228162514264337593543950336)), .int .u64 (l1 (n + x * 79228162514264337593543950336)), .int .u64 (l2 (n + x * 79228162514264337593543950336)), .int .u64 (l3 (n + x * 79228162514264337593543950336))]) ∧ Below w.heap.size w w' := by
  obtain ⟨x0, x1, x2, x3, ex0, ex1, ex2, ex3, hx0, kx0, hx1, kx1, hx2, kx2, hx3, kx3, hN⟩ := limbs_ex (n := n) (by unfold W256; omega)
  rw [ex0, ex1, ex2, ex3]
  clear ex0 ex1 ex2 ex3
  have hlt : x1 < 4294967296 := by omega
  have e : bits .or .u64 x1 (x * 4294967296) = x1 + x * 4294967296 := or_lo x1 x hx1 hlt hx hx2'
  obtain ⟨_, p0, p1, p2, p3⟩ := limbs_of (n := n + x * 79228162514264337593543950336) (a := x0) (b := x1 + x * 4294967296) (c := x2) (d := x3) (by omega) (by omega) (by omega) (by omega) (by omega)
  rw [p0, p1, p2, p3]
  clear p0 p1 p2 p3 hN
  go_enter Try.func22, Try.ntmps22
  go_wp2_with fail
  refine bodyPost_ret (v := .agg #[.int .u64 (x0), .int .u64 (x1 + x * 4294967296), .int .u64 (x2), .int .u64 (x3)]) (by simp [results, Try.results22, go_sem]) rfl ⟨rfl, ?_⟩
  exact ((Below.refl _ _).alloc (Nat.le_refl _) _).alloc (by simp) _

set_option maxHeartbeats 400000 in
theorem put_4 (n x : Int) (hn : 0 ≤ n) (hn2 : n < 340282366920938463463374607431768211456) (hx : 0 ≤ x) (hx2' : x < 4294967296) (w : World) :
    Calls Try.prog 22 #[.agg #[.int .u64 (l0 (n)), .int .u64 (l1 (n)), .int .u64 (l2 (n)), .int .u64 (l3 (n))], .int .i64 4, .int .u64 x] w fun e w' => e = .returned (.agg #[.int .u64 (l0 (n + x * 340282366920938463463374607431768211456)), .int .u64 (l1 (n + x * 340282366920938463463374607431768211456)), .int .u64 (l2 (n + x * 340282366920938463463374607431768211456)), .int .u64 (l3 (n + x * 340282366920938463463374607431768211456))]) ∧ Below w.heap.size w w' := by
  obtain ⟨x0, x1, x2, x3, ex0, ex1, ex2, ex3, hx0, kx0, hx1, kx1, hx2, kx2, hx3, kx3, hN⟩ := limbs_ex (n := n) (by unfold W256; omega)
  rw [ex0, ex1, ex2, ex3]
  clear ex0 ex1 ex2 ex3
  have hz : x2 = 0 := by omega
  subst hz
  have e : bits .or .u64 0 x = x := or_zero x hx (by omega)
  obtain ⟨_, p0, p1, p2, p3⟩ := limbs_of (n := n + x * 340282366920938463463374607431768211456) (a := x0) (b := x1) (c := x) (d := x3) (by omega) (by omega) (by omega) (by omega) (by omega)
  rw [p0, p1, p2, p3]
  clear p0 p1 p2 p3 hN
  go_enter Try.func22, Try.ntmps22
  go_wp2_with fail
  refine bodyPost_ret (v := .agg #[.int .u64 (x0), .int .u64 (x1), .int .u64 (x), .int .u64 (x3)]) (by simp [results, Try.results22, go_sem]) rfl ⟨rfl, ?_⟩
  exact ((Below.refl _ _).alloc (Nat.le_refl _) _).alloc (by simp) _

set_option maxHeartbeats 400000 in
theorem put_5 (n x : Int) (hn : 0 ≤ n) (hn2 : n < 1461501637330902918203684832716283019655932542976) (hx : 0 ≤ x) (hx2' : x < 4294967296) (w : World) :
    Calls Try.prog 22 #[.agg #[.int .u64 (l0 (n)), .int .u64 (l1 (n)), .int .u64 (l2 (n)), .int .u64 (l3 (n))], .int .i64 5, .int .u64 x] w fun e w' => e = .returned (.agg #[.int .u64 (l0 (n + x * 1461501637330902918203684832716283019655932542976)), .int .u64 (l1 (n + x * 1461501637330902918203684832716283019655932542976)), .int .u64 (l2 (n + x * 1461501637330902918203684832716283019655932542976)), .int .u64 (l3 (n + x * 1461501637330902918203684832716283019655932542976))]) ∧ Below w.heap.size w w' := by
  obtain ⟨x0, x1, x2, x3, ex0, ex1, ex2, ex3, hx0, kx0, hx1, kx1, hx2, kx2, hx3, kx3, hN⟩ := limbs_ex (n := n) (by unfold W256; omega)
  rw [ex0, ex1, ex2, ex3]
  clear ex0 ex1 ex2 ex3
  have hlt : x2 < 4294967296 := by omega
  have e : bits .or .u64 x2 (x * 4294967296) = x2 + x * 4294967296 := or_lo x2 x hx2 hlt hx hx2'
  obtain ⟨_, p0, p1, p2, p3⟩ := limbs_of (n := n + x * 1461501637330902918203684832716283019655932542976) (a := x0) (b := x1) (c := x2 + x * 4294967296) (d := x3) (by omega) (by omega) (by omega) (by omega) (by omega)
  rw [p0, p1, p2, p3]
  clear p0 p1 p2 p3 hN
  go_enter Try.func22, Try.ntmps22
  go_wp2_with fail
  refine bodyPost_ret (v := .agg #[.int .u64 (x0), .int .u64 (x1), .int .u64 (x2 + x * 4294967296), .int .u64 (x3)]) (by simp [results, Try.results22, go_sem]) rfl ⟨rfl, ?_⟩
  exact ((Below.refl _ _).alloc (Nat.le_refl _) _).alloc (by simp) _

set_option maxHeartbeats 400000 in
theorem put_6 (n x : Int) (hn : 0 ≤ n) (hn2 : n < 6277101735386680763835789423207666416102355444464034512896) (hx : 0 ≤ x) (hx2' : x < 4294967296) (w : World) :
    Calls Try.prog 22 #[.agg #[.int .u64 (l0 (n)), .int .u64 (l1 (n)), .int .u64 (l2 (n)), .int .u64 (l3 (n))], .int .i64 6, .int .u64 x] w fun e w' => e = .returned (.agg #[.int .u64 (l0 (n + x * 6277101735386680763835789423207666416102355444464034512896)), .int .u64 (l1 (n + x * 6277101735386680763835789423207666416102355444464034512896)), .int .u64 (l2 (n + x * 6277101735386680763835789423207666416102355444464034512896)), .int .u64 (l3 (n + x * 6277101735386680763835789423207666416102355444464034512896))]) ∧ Below w.heap.size w w' := by
  obtain ⟨x0, x1, x2, x3, ex0, ex1, ex2, ex3, hx0, kx0, hx1, kx1, hx2, kx2, hx3, kx3, hN⟩ := limbs_ex (n := n) (by unfold W256; omega)
  rw [ex0, ex1, ex2, ex3]
  clear ex0 ex1 ex2 ex3
  have hz : x3 = 0 := by omega
  subst hz
  have e : bits .or .u64 0 x = x := or_zero x hx (by omega)
  obtain ⟨_, p0, p1, p2, p3⟩ := limbs_of (n := n + x * 6277101735386680763835789423207666416102355444464034512896) (a := x0) (b := x1) (c := x2) (d := x) (by omega) (by omega) (by omega) (by omega) (by omega)
  rw [p0, p1, p2, p3]
  clear p0 p1 p2 p3 hN
  go_enter Try.func22, Try.ntmps22
  go_wp2_with fail
  refine bodyPost_ret (v := .agg #[.int .u64 (x0), .int .u64 (x1), .int .u64 (x2), .int .u64 (x)]) (by simp [results, Try.results22, go_sem]) rfl ⟨rfl, ?_⟩
  exact ((Below.refl _ _).alloc (Nat.le_refl _) _).alloc (by simp) _

set_option maxHeartbeats 400000 in
theorem put_7 (n x : Int) (hn : 0 ≤ n) (hn2 : n < 26959946667150639794667015087019630673637144422540572481103610249216) (hx : 0 ≤ x) (hx2' : x < 4294967296) (w : World) :
    Calls Try.prog 22 #[.agg #[.int .u64 (l0 (n)), .int .u64 (l1 (n)), .int .u64 (l2 (n)), .int .u64 (l3 (n))], .int .i64 7, .int .u64 x] w fun e w' => e = .returned (.agg #[.int .u64 (l0 (n + x * 26959946667150639794667015087019630673637144422540572481103610249216)), .int .u64 (l1 (n + x * 26959946667150639794667015087019630673637144422540572481103610249216)), .int .u64 (l2 (n + x * 26959946667150639794667015087019630673637144422540572481103610249216)), .int .u64 (l3 (n + x * 26959946667150639794667015087019630673637144422540572481103610249216))]) ∧ Below w.heap.size w w' := by
  obtain ⟨x0, x1, x2, x3, ex0, ex1, ex2, ex3, hx0, kx0, hx1, kx1, hx2, kx2, hx3, kx3, hN⟩ := limbs_ex (n := n) (by unfold W256; omega)
  rw [ex0, ex1, ex2, ex3]
  clear ex0 ex1 ex2 ex3
  have hlt : x3 < 4294967296 := by omega
  have e : bits .or .u64 x3 (x * 4294967296) = x3 + x * 4294967296 := or_lo x3 x hx3 hlt hx hx2'
  obtain ⟨_, p0, p1, p2, p3⟩ := limbs_of (n := n + x * 26959946667150639794667015087019630673637144422540572481103610249216) (a := x0) (b := x1) (c := x2) (d := x3 + x * 4294967296) (by omega) (by omega) (by omega) (by omega) (by omega)
  rw [p0, p1, p2, p3]
  clear p0 p1 p2 p3 hN
  go_enter Try.func22, Try.ntmps22
  go_wp2_with fail
  refine bodyPost_ret (v := .agg #[.int .u64 (x0), .int .u64 (x1), .int .u64 (x2), .int .u64 (x3 + x * 4294967296)]) (by simp [results, Try.results22, go_sem]) rfl ⟨rfl, ?_⟩
  exact ((Below.refl _ _).alloc (Nat.le_refl _) _).alloc (by simp) _

theorem half_any (n : Int) (i : Nat) (hi : i < 8) (hn : W256 n) (w : World) :
    Calls Try.prog 21 #[.agg #[.int .u64 (l0 (n)), .int .u64 (l1 (n)), .int .u64 (l2 (n)), .int .u64 (l3 (n))], .int .i64 i] w fun e w' => e = .returned (.int .u64 (hf n i)) ∧ Below w.heap.size w w' := by
  have : i = 0 ∨ i = 1 ∨ i = 2 ∨ i = 3 ∨ i = 4 ∨ i = 5 ∨ i = 6 ∨ i = 7 := by omega
  rcases this with rfl | rfl | rfl | rfl | rfl | rfl | rfl | rfl
  · exact half_0 n hn w
  · exact half_1 n hn w
  · exact half_2 n hn w
  · exact half_3 n hn w
  · exact half_4 n hn w
  · exact half_5 n hn w
  · exact half_6 n hn w
  · exact half_7 n hn w

theorem put_any (n x : Int) (i : Nat) (hi : i < 8) (hn : 0 ≤ n) (hn2 : n < (4294967296 : Int) ^ i) (hx : 0 ≤ x) (hx2 : x < 4294967296) (w : World) :
    Calls Try.prog 22 #[.agg #[.int .u64 (l0 (n)), .int .u64 (l1 (n)), .int .u64 (l2 (n)), .int .u64 (l3 (n))], .int .i64 i, .int .u64 x] w fun e w' => e = .returned (.agg #[.int .u64 (l0 (n + x * (4294967296 : Int) ^ i)), .int .u64 (l1 (n + x * (4294967296 : Int) ^ i)), .int .u64 (l2 (n + x * (4294967296 : Int) ^ i)), .int .u64 (l3 (n + x * (4294967296 : Int) ^ i))]) ∧ Below w.heap.size w w' := by
  have : i = 0 ∨ i = 1 ∨ i = 2 ∨ i = 3 ∨ i = 4 ∨ i = 5 ∨ i = 6 ∨ i = 7 := by omega
  rcases this with rfl | rfl | rfl | rfl | rfl | rfl | rfl | rfl
  · rw [show (4294967296 : Int) ^ 0 = 1 from by decide] at *; exact put_0 n x hn hn2 hx hx2 w
  · rw [show (4294967296 : Int) ^ 1 = 4294967296 from by decide] at *; exact put_1 n x hn hn2 hx hx2 w
  · rw [show (4294967296 : Int) ^ 2 = 18446744073709551616 from by decide] at *; exact put_2 n x hn hn2 hx hx2 w
  · rw [show (4294967296 : Int) ^ 3 = 79228162514264337593543950336 from by decide] at *; exact put_3 n x hn hn2 hx hx2 w
  · rw [show (4294967296 : Int) ^ 4 = 340282366920938463463374607431768211456 from by decide] at *; exact put_4 n x hn hn2 hx hx2 w
  · rw [show (4294967296 : Int) ^ 5 = 1461501637330902918203684832716283019655932542976 from by decide] at *; exact put_5 n x hn hn2 hx hx2 w
  · rw [show (4294967296 : Int) ^ 6 = 6277101735386680763835789423207666416102355444464034512896 from by decide] at *; exact put_6 n x hn hn2 hx hx2 w
  · rw [show (4294967296 : Int) ^ 7 = 26959946667150639794667015087019630673637144422540572481103610249216 from by decide] at *; exact put_7 n x hn hn2 hx hx2 w

/-- The number modulo the next power: one half limb more. -/
theorem mod_next (n : Int) (k : Nat) : n % (4294967296 : Int) ^ (k + 1) = n % (4294967296 : Int) ^ k + (4294967296 : Int) ^ k * hf n k := by
  unfold hf
  rw [Int.pow_succ]
  have hp : (0 : Int) < (4294967296 : Int) ^ k := Int.pow_pos (by omega)
  generalize (4294967296 : Int) ^ k = P at *
  have h1 := Int.mul_ediv_add_emod n P
  have h2 := Int.mul_ediv_add_emod (n / P) 4294967296
  have h3 := Int.emod_nonneg n (show P ≠ 0 by omega)
  have h4 := Int.emod_lt_of_pos n hp
  have h5 := Int.emod_nonneg (n / P) (show (4294967296 : Int) ≠ 0 by omega)
  have h6 := Int.emod_lt_of_pos (n / P) (show (0 : Int) < 4294967296 by omega)
  generalize n / P % 4294967296 = r at *
  generalize n % P = s at *
  have hle : P * r ≤ P * 4294967295 := Int.mul_le_mul_of_nonneg_left (by omega) (by omega)
  have hge : 0 ≤ P * r := Int.mul_nonneg (by omega) (by omega)
  have hn : n = P * 4294967296 * (n / P / 4294967296) + (s + P * r) := by
    have : P * (n / P) = P * 4294967296 * (n / P / 4294967296) + P * r := by
      rw [Int.mul_assoc, ← Int.mul_add, h2]
    omega
  rw [hn, Int.mul_add_emod_self_left, Int.emod_eq_of_lt (by omega) (by omega)]

theorem pow_pos32 (k : Nat) : (0 : Int) < (4294967296 : Int) ^ k := Int.pow_pos (by omega)

theorem pow8 : (4294967296 : Int) ^ 8 = 115792089237316195423570985008687907853269984665640564039457584007913129639936 := by decide

theorem pow_le8 {k : Nat} (h : k ≤ 8) : (4294967296 : Int) ^ k ≤ 115792089237316195423570985008687907853269984665640564039457584007913129639936 := by
  have : k = 0 ∨ k = 1 ∨ k = 2 ∨ k = 3 ∨ k = 4 ∨ k = 5 ∨ k = 6 ∨ k = 7 ∨ k = 8 := by omega
  rcases this with rfl | rfl | rfl | rfl | rfl | rfl | rfl | rfl | rfl <;> decide
end Go.Proofs.Ytidimiioglgliaa
