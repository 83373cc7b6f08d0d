/- The base's At: a number from a list. -/
import Derived.Test.YtdbkphkgjaecoaaEvA
import Derived.Test.YtdbkphkgjaecoaaRt
set_option linter.unusedVariables false

set_option linter.unusedSimpArgs false
namespace Go.Proofs.Ytdbkphkgjaecoaa
open Go.RowKit

set_option maxRecDepth 100000

theorem i64_and16 (n : Int) : bits .and .i64 n 65535 = n % 65536 := by
  have h3 : (BitVec.ofInt 64 65535).toNat = 2 ^ 16 - 1 := by decide
  have key : (BitVec.ofInt 64 n &&& BitVec.ofInt 64 65535).toNat = (n % ((2 ^ 64 : Nat) : Int)).toNat % 2 ^ 16 := by
    rw [BitVec.toNat_and, BitVec.toNat_ofInt, h3, Nat.and_two_pow_sub_one_eq_mod]
  show IntKind.i64.wrap ((BitVec.ofInt 64 n &&& BitVec.ofInt 64 65535).toNat : Nat) = n % 65536
  rw [key, IntKind.wrap_i64]
  omega

theorem i64_and24 (n : Int) : bits .and .i64 n 16777215 = n % 16777216 := by
  have h3 : (BitVec.ofInt 64 16777215).toNat = 2 ^ 24 - 1 := by decide
  have key : (BitVec.ofInt 64 n &&& BitVec.ofInt 64 16777215).toNat = (n % ((2 ^ 64 : Nat) : Int)).toNat % 2 ^ 24 := by
    rw [BitVec.toNat_and, BitVec.toNat_ofInt, h3, Nat.and_two_pow_sub_one_eq_mod]
  show IntKind.i64.wrap ((BitVec.ofInt 64 n &&& BitVec.ofInt 64 16777215).toNat : Nat) = n % 16777216
  rw [key, IntKind.wrap_i64]
  omega

theorem i64_and16_nat (n : Int) : ∃ m : Nat, m ≤ 65535 ∧ bits .and .i64 n 65535 = m := ⟨(n % 65536).toNat, by omega, by rw [i64_and16]; omega⟩

theorem i64_and24_nat (n : Int) : ∃ m : Nat, m ≤ 16777215 ∧ bits .and .i64 n 16777215 = m := ⟨(n % 16777216).toNat, by omega, by rw [i64_and24]; omega⟩

/-- What At gives, as a plain function. -/
def atN (l : List Int) (i : Nat) : Nat := if l.length = 0 then i % 65536 else (l.getD (i % l.length) 0 % 16777216).toNat + i / l.length

set_option maxHeartbeats 4000000 in
theorem at_val (v : Value) (l : List Int) (i : Nat) (w : World) (h : IntsV w v l) (hi : i ≤ 1000000) :
    Calls Try.prog 26 #[v, .int .i64 i] w fun e w' => e = .returned (.int .i64 (atN l i)) ∧ Below w.heap.size w w' := by
  obtain ⟨a, len, cap, rfl⟩ := ints_shape' h.1
  have HI := Lib.hid h
  have HL := Lib.hid h.len
  have hmx := h.len.2
  unfold maxLen at hmx
  obtain ⟨q, hq⟩ : ∃ q, atN l i = q := ⟨_, rfl⟩
  rw [hq]
  unfold atN at hq
  rw [HL.out.1] at hq
  have HQ := Lib.hid hq
  clear h hq
  by_cases h0 : len = 0
  · subst h0
    have hk : bits .and .i64 i 65535 = (q : Int) := by rw [i64_and16, ← HQ.out, if_pos rfl]; omega
    go_enter Try.func26, Try.ntmps26
    go_wp2_with fail
    go_ret
    exact ⟨rfl, Below.refl _ _⟩
  have hz : ((len : Int) == 0) = false := by simp; omega
  have hz0 : ¬ (len : Int) = 0 := by omega
  have hr : i % len < len := Nat.mod_lt _ (by omega)
  have HQ2 : Hid ((l.getD (i % len) 0 % 16777216).toNat + i / len = q) := by have := HQ.out; rw [if_neg h0] at this; exact this
  have hdl : i / len ≤ i := Nat.div_le_self _ _
  obtain ⟨b, off, rfl, hbb, hce⟩ := HI.out.at (k := i % len) (by rw [HL.out.1]; exact hr)
  have hm : Int.tmod (i : Int) (len : Int) = ((i % len : Nat) : Int) := by rw [Int.tmod_eq_emod_of_nonneg (by omega)]; rfl
  have hd : Int.tdiv (i : Int) (len : Int) = ((i / len : Nat) : Int) := by rw [Int.tdiv_eq_ediv_of_nonneg (by omega)]; rfl
  obtain ⟨r, hrr⟩ : ∃ r, i % len = r := ⟨_, rfl⟩
  obtain ⟨d, hdd⟩ : ∃ d, i / len = d := ⟨_, rfl⟩
  rw [hrr] at hm hce hr HQ2
  rw [hdd] at hd hdl HQ2
  obtain ⟨x, hx⟩ : ∃ x, l.getD r 0 = x := ⟨_, rfl⟩
  rw [hx] at hce HQ2
  have ha : bits .and .i64 x 16777215 = (((x % 16777216).toNat : Nat) : Int) := by rw [i64_and24]; omega
  have hyb : (x % 16777216).toNat ≤ 16777215 := by omega
  obtain ⟨y, hy⟩ : ∃ y, (x % 16777216).toNat = y := ⟨_, rfl⟩
  rw [hy] at ha hyb HQ2
  have HCE := Lib.hid hce
  have hri : (r : Int) < len := by omega
  clear hrr hdd hx hce hy h0 HQ
  go_enter Try.func26, Try.ntmps26
  go_wp2_with fail
  refine wp_region_fam2 (by kernel_rfl) (by kernel_rfl) ?_
  intro T F hT hF hG
  have c0 : ∀ t, (F t).cell? ⟨b, off + r, none⟩ = some (.int .i64 x) := fun t => ((hF t).cell (p := ⟨b, off + r, none⟩) hbb).trans HCE.out
  repeat (go_big_quiet_step (fail))
  refine wpQuiet_nil ?_
  rintro _ ⟨t, rfl⟩
  have hft := hF t
  go_wp2_with fail
  go_ret
  exact ⟨by rw [← HQ2.out]; simp, hft⟩

theorem at_any (v : Value) (l : List Int) (i : Nat) (w : World) (h : IntsV w v l) (hi : i ≤ 1000000) :
    Calls Try.prog 26 #[v, .int .i64 i] w fun e w' => (∃ k : Nat, k ≤ 20000000 ∧ e = .returned (.int .i64 k)) ∧ Below w.heap.size w w' := by
  refine (at_val v l i w h hi).mono ?_
  rintro e w' ⟨rfl, hb⟩
  refine ⟨⟨_, ?_, rfl⟩, hb⟩
  unfold atN
  have := Nat.div_le_self i l.length
  split <;> omega
end Go.Proofs.Ytdbkphkgjaecoaa
