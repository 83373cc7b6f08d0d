/- boost's Amount; stage 15's awake. -/
import Derived.Test.YtidimiioglgliaaTrM
set_option linter.unusedVariables false

set_option linter.unusedSimpArgs false
namespace Go.Proofs.Ytidimiioglgliaa
open Go.RowKit

set_option maxRecDepth 100000

set_option maxHeartbeats 4000000 in
theorem camt_any (C : Array Value) (spe bp total : Int) (w : World) (h6 : C[6]? = some (.int .u64 spe)) (h7 : C[7]? = some (.int .u64 bp)) (hs : 0 ≤ spe ∧ spe ≤ 18446744073709551615) (hb : 0 ≤ bp ∧ bp ≤ 18446744073709551615) (ht : 0 ≤ total ∧ total ≤ 18446744073709551615) :
    Calls Try.prog 7 #[.agg C, .int .u64 total] w fun e w' => e = .returned (.tuple #[.int .u64 (amtN spe bp total).1, .int .i64 (amtN spe bp total).2]) ∧ Below w.heap.size w w' := by
  have S0 := Lib.hid (pas_new w C 31)
  have H6 : Hid (∀ u, PaS w C u → u.cell? ⟨w.heap.size, 6, none⟩ = some (.int .u64 spe)) := fun u hu => by rw [hu.t.cell]; exact h6
  have H7 : Hid (∀ u, PaS w C u → u.cell? ⟨w.heap.size, 7, none⟩ = some (.int .u64 bp)) := fun u hu => by rw [hu.t.cell]; exact h7
  have c6 := H6.out _ S0.out
  have c7 := H7.out _ S0.out
  clear h6 h7 H6 H7
  obtain ⟨R, hR⟩ : ∃ R, Hid (amtN spe bp total = R) := ⟨_, Lib.hid rfl⟩
  rw [hR.out]
  by_cases k1 : spe < 1
  · have hr : R = (0, 3) := by rw [← hR.out]; unfold amtN; rw [if_pos (.inl k1)]
    subst hr
    go_enter Try.func7, Try.ntmps7
    go_wp2_with fail
    go_ret2
    exact ⟨rfl, S0.out.b⟩
  by_cases k2 : 64 < spe
  · have hr : R = (0, 3) := by rw [← hR.out]; unfold amtN; rw [if_pos (.inr (.inl k2))]
    subst hr
    go_enter Try.func7, Try.ntmps7
    go_wp2_with fail
    go_ret2
    exact ⟨rfl, S0.out.b⟩
  by_cases k3 : 100 < bp
  · have hr : R = (0, 3) := by rw [← hR.out]; unfold amtN; rw [if_pos (.inr (.inr (.inl k3)))]
    subst hr
    go_enter Try.func7, Try.ntmps7
    go_wp2_with fail
    go_ret2
    exact ⟨rfl, S0.out.b⟩
  by_cases k4 : 4611686018427387904 < total
  · have hr : R = (0, 3) := by rw [← hR.out]; unfold amtN; rw [if_pos (.inr (.inr (.inr k4)))]
    subst hr
    go_enter Try.func7, Try.ntmps7
    go_wp2_with fail
    go_ret2
    exact ⟨rfl, S0.out.b⟩
  have hr : R = (total / spe / 100 * bp + total / spe % 100 * bp / 100, 0) := by rw [← hR.out]; unfold amtN; rw [if_neg (by omega)]
  subst hr
  obtain ⟨⟨r1, r2⟩, ⟨r3, r4⟩, ⟨r5, r6⟩⟩ := amt_rng (spe := spe) (bp := bp) (total := total) (by omega) (by omega) hb.1 (by omega) ht.1
  have w1 : IntKind.u64.wrap (total / spe) = total / spe := u64_in r1 (by omega)
  have w2 : IntKind.u64.wrap (total / spe / 100 * bp) = total / spe / 100 * bp := u64_in r3 (by omega)
  have w3 : IntKind.u64.wrap (total / spe % 100 * bp) = total / spe % 100 * bp := u64_in r5 (by omega)
  have w4 : IntKind.u64.wrap (total / spe / 100 * bp + total / spe % 100 * bp / 100) = total / spe / 100 * bp + total / spe % 100 * bp / 100 := u64_in (by omega) (by omega)
  have w5 : IntKind.u64.wrap (total / spe % 100 * bp / 100) = total / spe % 100 * bp / 100 := u64_in (by omega) (by omega)
  have w0 : IntKind.u64.wrap (total / spe / 100) = total / spe / 100 := u64_in (by omega) (by omega)
  have t1 : (total / spe).tdiv 100 = total / spe / 100 := Int.tdiv_eq_ediv_of_nonneg r1
  have t2 : (total / spe).tmod 100 = total / spe % 100 := Int.tmod_eq_emod_of_nonneg r1
  have t3 : (total / spe % 100 * bp).tdiv 100 = total / spe % 100 * bp / 100 := Int.tdiv_eq_ediv_of_nonneg r5
  have HW : Hid (IntKind.u64.wrap (IntKind.u64.wrap (IntKind.u64.wrap ((total / spe).tdiv 100) * bp) + IntKind.u64.wrap ((IntKind.u64.wrap ((total / spe).tmod 100 * bp)).tdiv 100)) = total / spe / 100 * bp + total / spe % 100 * bp / 100) := by
    show _ = _
    rw [t1, w0, w2, t2, w3, t3, w5, w4]
  clear r1 r2 r3 r4 r5 r6 w2 w3 w4 w5 w0 t1 t2 t3
  go_enter Try.func7, Try.ntmps7
  go_wp2_with fail
  go_ret2
  exact ⟨by rw [← HW.out]; rfl, S0.out.b⟩

/-- A configuration whose epoch has spe slots and whose boost is bp per cent, and nothing else. -/
def cfS (spe bp : Int) : Array Value := ([.int .i64 0, .int .i64 0, .int .i64 0, .int .i64 0, .int .i64 0, .int .u64 0, .int .u64 spe, .int .u64 bp, .int .u64 0, .int .u64 0, .int .u64 0, .int .u64 0] ++ bytesL zeroR ++ [.slice none 0 0] : List Value).toArray

theorem build_cfs (spe bp : Int) (u : World) : (Instr.build 31 #[(1, .int .u64 spe), (2, .int .u64 bp)]).run Try.prog u = .ok (.agg (cfS spe bp)) u := by kernel_rfl

theorem cfS_6 (spe bp : Int) : (cfS spe bp)[6]? = some (.int .u64 spe) := rfl

theorem cfS_7 (spe bp : Int) : (cfS spe bp)[7]? = some (.int .u64 bp) := rfl

theorem cfS_size (spe bp : Int) : (cfS spe bp).size = 45 := by kernel_rfl

theorem cfS_one (spe bp : Int) : ∀ v ∈ (cfS spe bp).toList, v.oneCell' = true := by
  intro v hv
  simp only [cfS, List.mem_append, List.mem_cons, List.not_mem_nil, or_false] at hv
  rcases hv with ((rfl | rfl | rfl | rfl | rfl | rfl | rfl | rfl | rfl | rfl | rfl | rfl) | hv) | rfl
  all_goals first | rfl | exact bytesL_one _ v hv

theorem camt_cfs (spe bp total : Int) (w : World) (hs : 0 ≤ spe ∧ spe ≤ 18446744073709551615) (hb : 0 ≤ bp ∧ bp ≤ 18446744073709551615) (ht : 0 ≤ total ∧ total ≤ 18446744073709551615) :
    Calls Try.prog 7 #[.agg (cfS spe bp), .int .u64 total] w fun e w' => e = .returned (.tuple #[.int .u64 (amtN spe bp total).1, .int .i64 (amtN spe bp total).2]) ∧ Below w.heap.size w w' :=
  camt_any _ spe bp total w (cfS_6 _ _) (cfS_7 _ _) hs hb ht

theorem amt_cfs (spe bp total : Int) (w : World) (hs : 0 ≤ spe ∧ spe ≤ 18446744073709551615) (hb : 0 ≤ bp ∧ bp ≤ 18446744073709551615) (ht : 0 ≤ total ∧ total ≤ 18446744073709551615) :
    Calls Try.prog 8 #[.agg (cfS spe bp), .int .u64 total] w fun e w' => e = .returned (.tuple #[.int .u64 (amtN spe bp total).1, .int .i64 (amtN spe bp total).2]) ∧ Below w.heap.size w w' :=
  amt_any _ spe bp total w (cfS_6 _ _) (cfS_7 _ _) hs hb ht

theorem awake15_any (w : World) : Calls Try.prog 9 #[] w fun e w' => e = .returned (.bool true) ∧ Below w.heap.size w w' := by
  have HA : Hid (∀ u, Calls Try.prog 7 #[.agg (cfS 4 40), .int .u64 1000] u fun e w' => e = .returned (.tuple #[.int .u64 100, .int .i64 0]) ∧ Below u.heap.size u w') := fun u => by
    have h := camt_cfs 4 40 1000 u (by omega) (by omega) (by omega)
    rw [show amtN 4 40 1000 = (100, 0) from by kernel_rfl] at h
    exact h
  have HB := Lib.hid (build_cfs 4 40)
  obtain ⟨C, hC⟩ : ∃ C, cfS 4 40 = C := ⟨_, rfl⟩
  rw [hC] at HA HB
  clear hC
  go_enter Try.func9, Try.ntmps9
  go_wp2_with (first
    | ((with_reducible refine at_build (some 4) ?_); refine wpList_build_g 31 _ rfl #[(1, .int .u64 4), (2, .int .u64 40)] (by simp [Act.eval, Act.put]) (.agg C) (HB.out _) rfl ?_)
    | (go_at_call 7; refine (HA.out _).mono ?_; rintro e w1 ⟨rfl, hb1⟩))
  go_ret
  exact ⟨rfl, hb1⟩
end Go.Proofs.Ytidimiioglgliaa
