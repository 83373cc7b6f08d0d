/- The reference's Amount. -/
import Derived.Test.YtidimiioglgliaaPas
import Derived.Test.YtidimiioglgliaaTrA
set_option linter.unusedVariables false

set_option linter.unusedSimpArgs false
namespace Go.Proofs.Ytidimiioglgliaa
open Go.RowKit

set_option maxRecDepth 100000

/-- The amount of the boost (P15.1) and the error. -/
def amtN (spe bp total : Int) : Int × Int :=
  if spe < 1 ∨ 64 < spe ∨ 100 < bp ∨ 4611686018427387904 < total then (0, 3) else (total / spe / 100 * bp + total / spe % 100 * bp / 100, 0)

theorem amt_rng {spe bp total : Int} (h1 : 1 ≤ spe) (h2 : bp ≤ 100) (h0 : 0 ≤ bp) (h3 : total ≤ 4611686018427387904) (h4 : 0 ≤ total) :
    (0 ≤ total / spe ∧ total / spe ≤ 4611686018427387904) ∧ (0 ≤ total / spe / 100 * bp ∧ total / spe / 100 * bp ≤ 4611686018427387904) ∧ (0 ≤ total / spe % 100 * bp ∧ total / spe % 100 * bp ≤ 9900) := by
  have hq0 : 0 ≤ total / spe := Int.ediv_nonneg h4 (by omega)
  have hq1 : total / spe ≤ total := Int.ediv_le_self _ h4
  generalize total / spe = q at *
  have a0 : 0 ≤ q / 100 := by omega
  have b0 : 0 ≤ q % 100 := by omega
  have b1 : q % 100 ≤ 99 := by omega
  have c1 : q / 100 * bp ≤ q / 100 * 100 := Int.mul_le_mul_of_nonneg_left h2 a0
  have c2 : q % 100 * bp ≤ q % 100 * 100 := Int.mul_le_mul_of_nonneg_left h2 b0
  exact ⟨⟨hq0, by omega⟩, ⟨Int.mul_nonneg a0 h0, by omega⟩, ⟨Int.mul_nonneg b0 h0, by omega⟩⟩

theorem u64_in {x : Int} (h0 : 0 ≤ x) (h1 : x ≤ 18446744073709551615) : IntKind.u64.wrap x = x := by
  simp [IntKind.wrap, IntKind.u64, IntKind.bits, IntKind.signed]; omega

set_option maxHeartbeats 4000000 in
theorem amt_any (C : Array Value) (spe bp total : Int) (w : World) (h6 : C[6]? = some (.int .u64 spe)) (h7 : C[7]? = some (.int .u64 bp)) (hs : 0 ≤ spe ∧ spe ≤ 18446744073709551615) (hb : 0 ≤ bp ∧ bp ≤ 18446744073709551615) (ht : 0 ≤ total ∧ total ≤ 18446744073709551615) :
    Calls Try.prog 8 #[.agg C, .int .u64 total] w fun e w' => e = .returned (.tuple #[.int .u64 (amtN spe bp total).1, .int .i64 (amtN spe bp total).2]) ∧ Below w.heap.size w w' := by
  have S0 := Lib.hid (pas_new w C 31)
  have H6 : Hid (∀ u, PaS w C u → u.cell? ⟨w.heap.size, 6, none⟩ = some (.int .u64 spe)) := fun u hu => by rw [hu.t.cell]; exact h6
  have H7 : Hid (∀ u, PaS w C u → u.cell? ⟨w.heap.size, 7, none⟩ = some (.int .u64 bp)) := fun u hu => by rw [hu.t.cell]; exact h7
  have c6 := H6.out _ S0.out
  have c7 := H7.out _ S0.out
  clear h6 h7 H6 H7
  obtain ⟨R, hR⟩ : ∃ R, Hid (amtN spe bp total = R) := ⟨_, Lib.hid rfl⟩
  rw [hR.out]
  have e1 : decide (spe < 1) = true ∨ decide (spe < 1) = false := by cases decide (spe < 1) <;> simp
  by_cases k1 : spe < 1
  · have hr : R = (0, 3) := by rw [← hR.out]; unfold amtN; rw [if_pos (.inl k1)]
    subst hr
    go_enter Try.func8, Try.ntmps8
    go_wp2_with fail
    go_ret2
    exact ⟨rfl, S0.out.b⟩
  by_cases k2 : 64 < spe
  · have hr : R = (0, 3) := by rw [← hR.out]; unfold amtN; rw [if_pos (.inr (.inl k2))]
    subst hr
    go_enter Try.func8, Try.ntmps8
    go_wp2_with fail
    go_ret2
    exact ⟨rfl, S0.out.b⟩
  by_cases k3 : 100 < bp
  · have hr : R = (0, 3) := by rw [← hR.out]; unfold amtN; rw [if_pos (.inr (.inr (.inl k3)))]
    subst hr
    go_enter Try.func8, Try.ntmps8
    go_wp2_with fail
    go_ret2
    exact ⟨rfl, S0.out.b⟩
  by_cases k4 : 4611686018427387904 < total
  · have hr : R = (0, 3) := by rw [← hR.out]; unfold amtN; rw [if_pos (.inr (.inr (.inr k4)))]
    subst hr
    go_enter Try.func8, Try.ntmps8
    go_wp2_with fail
    go_ret2
    exact ⟨rfl, S0.out.b⟩
  have hr : R = (total / spe / 100 * bp + total / spe % 100 * bp / 100, 0) := by rw [← hR.out]; unfold amtN; rw [if_neg (by omega)]
  subst hr
  obtain ⟨⟨r1, r2⟩, ⟨r3, r4⟩, ⟨r5, r6⟩⟩ := amt_rng (spe := spe) (bp := bp) (total := total) (by omega) (by omega) hb.1 (by omega) ht.1
  have w1 : IntKind.u64.wrap (total / spe) = total / spe := u64_in r1 (by omega)
  have w2 : IntKind.u64.wrap (total / spe / 100 * bp) = total / spe / 100 * bp := u64_in r3 (by omega)
  have w3 : IntKind.u64.wrap (total / spe % 100 * bp) = total / spe % 100 * bp := u64_in r5 (by omega)
  have w4 : IntKind.u64.wrap (total / spe / 100 * bp + total / spe % 100 * bp / 100) = total / spe / 100 * bp + total / spe % 100 * bp / 100 := u64_in (by omega) (by omega)
  have w5 : IntKind.u64.wrap (total / spe % 100 * bp / 100) = total / spe % 100 * bp / 100 := u64_in (by omega) (by omega)
  have w0 : IntKind.u64.wrap (total / spe / 100) = total / spe / 100 := u64_in (by omega) (by omega)
  have t1 : (total / spe).tdiv 100 = total / spe / 100 := Int.tdiv_eq_ediv_of_nonneg r1
  have t2 : (total / spe).tmod 100 = total / spe % 100 := Int.tmod_eq_emod_of_nonneg r1
  have t3 : (total / spe % 100 * bp).tdiv 100 = total / spe % 100 * bp / 100 := Int.tdiv_eq_ediv_of_nonneg r5
  have HW : Hid (IntKind.u64.wrap (IntKind.u64.wrap (IntKind.u64.wrap ((total / spe).tdiv 100) * bp) + IntKind.u64.wrap ((IntKind.u64.wrap ((total / spe).tmod 100 * bp)).tdiv 100)) = total / spe / 100 * bp + total / spe % 100 * bp / 100) := by
    show _ = _
    rw [t1, w0, w2, t2, w3, t3, w5, w4]
  clear r1 r2 r3 r4 r5 r6 w2 w3 w4 w5 w0 t1 t2 t3
  go_enter Try.func8, Try.ntmps8
  go_wp2_with fail
  go_ret2
  exact ⟨by rw [← HW.out]; rfl, S0.out.b⟩
end Go.Proofs.Ytidimiioglgliaa
