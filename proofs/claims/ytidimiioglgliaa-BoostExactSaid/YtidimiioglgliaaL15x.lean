/- BoostExact. -/
import Derived.Test.YtidimiioglgliaaBsA
import Derived.Test.YtidimiioglgliaaRef5
import Derived.Test.YtidimiioglgliaaWide4
set_option linter.unusedVariables false

set_option linter.unusedSimpArgs false
namespace Go.Proofs.Ytidimiioglgliaa
open Go.RowKit

set_option maxRecDepth 100000

theorem build_w0 (q : Int) (u : World) : (Instr.build 26 #[(0, .int .u64 q)]).run Try.prog u = .ok (.agg #[.int .u64 q, .int .u64 0, .int .u64 0, .int .u64 0]) u := by kernel_rfl

theorem build_w1 (q : Int) (h0 : 0 ≤ q) (h1 : q ≤ 18446744073709551615) (u : World) : (Instr.build 26 #[(0, .int .u64 q)]).run Try.prog u = .ok (.agg #[.int .u64 (l0 (q)), .int .u64 (l1 (q)), .int .u64 (l2 (q)), .int .u64 (l3 (q))]) u := by
  have e0 : l0 q = q := by unfold l0; omega
  have e1 : l1 q = 0 := by unfold l1; omega
  have e2 : l2 q = 0 := by unfold l2; omega
  have e3 : l3 q = 0 := by unfold l3; omega
  rw [e0, e1, e2, e3]
  exact build_w0 q u

theorem exact_math {q p : Int} (hq0 : 0 ≤ q) (hp0 : 0 ≤ p) : (q / 100 * p + q % 100 * p / 100) * 100 ≤ q * p ∧ q * p < (q / 100 * p + q % 100 * p / 100 + 1) * 100 := by
  have e : q * p = q / 100 * p * 100 + q % 100 * p := by
    have h : q = q / 100 * 100 + q % 100 := by omega
    generalize q / 100 = a at *
    generalize q % 100 = b at *
    subst h
    rw [Int.add_mul, Int.mul_assoc, Int.mul_comm 100 p, ← Int.mul_assoc]
  generalize q / 100 * p = a at *
  generalize q % 100 * p = b at *
  omega

set_option maxHeartbeats 4000000 in
theorem walk_BoostExact (a0 a1 a2 : Int) (w : World) (w0 : (Lit.int .u64 a0).wf = true) (w1 : (Lit.int .u64 a1).wf = true) (w2 : (Lit.int .u64 a2).wf = true) :
    Calls Try.prog 4 #[.int .u64 a0, .int .u64 a1, .int .u64 a2] w fun e w' => e = .returned (.bool true) ∧ Below w.heap.size w w' := by
  have r0 := wf_u64 w0
  have r1 := wf_u64 w1
  have r2 := wf_u64 w2
  obtain ⟨x0, hx0, hx00, hx01⟩ : ∃ s, a0.tmod 64 = s ∧ 0 ≤ s ∧ s ≤ 63 := by
    refine ⟨_, rfl, ?_⟩
    rw [Int.tmod_eq_emod_of_nonneg r0.1]; omega
  obtain ⟨s, hs⟩ : ∃ s, 1 + x0 = s := ⟨_, rfl⟩
  have hsw : IntKind.u64.wrap (1 + x0) = s := by rw [u64_in (by omega) (by omega)]; exact hs
  have hs0 : 1 ≤ s := by omega
  have hs1 : s ≤ 64 := by omega
  obtain ⟨p, hp, hp0, hp1⟩ : ∃ p, a1.tmod 101 = p ∧ 0 ≤ p ∧ p ≤ 100 := by
    refine ⟨_, rfl, ?_⟩
    rw [Int.tmod_eq_emod_of_nonneg r1.1]; omega
  obtain ⟨t, ht, ht0, ht1⟩ : ∃ t, a2.tmod 4611686018427387905 = t ∧ 0 ≤ t ∧ t ≤ 4611686018427387904 := by
    refine ⟨_, rfl, ?_⟩
    rw [Int.tmod_eq_emod_of_nonneg r2.1]; omega
  clear hs
  have hq0 : 0 ≤ t / s := Int.ediv_nonneg ht0 (by omega)
  have hq1 : t / s ≤ t := Int.ediv_le_self _ ht0
  have hqw : t.tdiv s = t / s := Int.tdiv_eq_ediv_of_nonneg ht0
  have hN : amtN s p t = (t / s / 100 * p + t / s % 100 * p / 100, 0) := by unfold amtN; rw [if_neg (by omega)]
  obtain ⟨⟨_, _⟩, ⟨r3, r4⟩, ⟨r5, r6⟩⟩ := amt_rng (spe := s) (bp := p) (total := t) hs0 hp1 hp0 ht1 ht0
  have HM := exact_math (q := t / s) (p := p) hq0 hp0
  have HA : Hid (∀ u, Calls Try.prog 7 #[.agg (cfS s p), .int .u64 t] u fun e w' => e = .returned (.tuple #[.int .u64 (amtN s p t).1, .int .i64 (amtN s p t).2]) ∧ Below u.heap.size u w') := fun u => camt_cfs s p t u (by omega) (by omega) (by omega)
  rw [hN] at HA
  obtain ⟨n, hn⟩ : ∃ n, t / s / 100 * p + t / s % 100 * p / 100 = n := ⟨_, rfl⟩
  rw [hn] at HM
  simp only [hn] at HA
  have hn0 : 0 ≤ n := by omega
  have hn1 : n ≤ 4611686018427387904 + 99 := by omega
  obtain ⟨q, hq⟩ : ∃ q, t / s = q := ⟨_, rfl⟩
  rw [hq] at HM hqw hq0 hq1
  have hq2 : q ≤ 4611686018427387904 := by omega
  have hqp : q * p ≤ 4611686018427387904 * 100 := Int.le_trans (Int.mul_le_mul_of_nonneg_right hq2 hp0) (Int.mul_le_mul_of_nonneg_left hp1 (by omega))
  have hqp0 : 0 ≤ q * p := Int.mul_nonneg hq0 hp0
  have Hq : W256 q := ⟨hq0, by omega⟩
  have Hn : W256 n := ⟨hn0, by omega⟩
  have Hn1 : W256 (n + 1) := ⟨by omega, by omega⟩
  have ha : madN q p 0 = q * p := by unfold madN; rw [if_pos (by omega), Int.add_zero]
  have hb : madN n 100 0 = n * 100 := by unfold madN; rw [if_pos (by omega), Int.add_zero]
  have hc : madN (n + 1) 100 0 = (n + 1) * 100 := by unfold madN; rw [if_pos (by omega), Int.add_zero]
  have D1 := rmulS_any q p Hq (by omega) (by omega)
  have D2 := rmulS_any n 100 Hn (by omega) (by omega)
  have D3 := rmulS_any (n + 1) 100 Hn1 (by omega) (by omega)
  rw [ha] at D1
  rw [hb] at D2
  rw [hc] at D3
  have C1 := rcmp_any (n * 100) (q * p) ⟨by omega, by omega⟩ ⟨hqp0, by omega⟩
  have C2 := rcmp_any (q * p) ((n + 1) * 100) ⟨hqp0, by omega⟩ ⟨by omega, by omega⟩
  have k1 : cmpN (n * 100) (q * p) ≤ 0 := by unfold cmpN; split <;> omega
  have k2 : cmpN (q * p) ((n + 1) * 100) = -1 := by unfold cmpN; rw [if_pos (by omega)]
  rw [k2] at C2
  obtain ⟨cv, hcv⟩ : ∃ c, cmpN (n * 100) (q * p) = c := ⟨_, rfl⟩
  rw [hcv] at C1 k1
  obtain ⟨X, hX⟩ : ∃ X, q * p = X := ⟨_, rfl⟩
  obtain ⟨Y, hY⟩ : ∃ X, n * 100 = X := ⟨_, rfl⟩
  obtain ⟨n1, hn1'⟩ : ∃ X, n + 1 = X := ⟨_, rfl⟩
  have hnw : IntKind.u64.wrap (n + 1) = n1 := by rw [u64_in (by omega) (by omega)]; exact hn1'
  rw [hn1'] at D3 C2
  obtain ⟨Z, hZ⟩ : ∃ X, n1 * 100 = X := ⟨_, rfl⟩
  rw [hX] at D1 C1 C2
  rw [hY] at D2 C1
  rw [hZ] at D3 C2
  have hn12 : n1 ≤ 18446744073709551615 := by omega
  have hn10 : 0 ≤ n1 := by omega
  have hq2' : IntKind.u64.wrap q = q := u64_in hq0 (by omega)
  have HBQ := Lib.hid (build_w1 q hq0 (by omega))
  have HBN := Lib.hid (build_w1 n hn0 (by omega))
  have HBM := Lib.hid (build_w1 n1 hn10 hn12)
  have HW := Lib.hid awake15_any
  have H1 := Lib.hid D1
  have H2 := Lib.hid D2
  have H3 := Lib.hid D3
  have G1 := Lib.hid C1
  have G2 := Lib.hid C2
  clear D1 D2 D3 C1 C2 hX hY hZ hn1' hcv k2 ha hb hc Hn1 Hn Hq hqp hqp0 hq2 hn hN r3 r4 r5 r6 HM hn1 hn0 hq hq0 hq1
  have HB := Lib.hid (build_cfs s p)
  obtain ⟨C, hC⟩ : ∃ C, cfS s p = C := ⟨_, rfl⟩
  rw [hC] at HA HB
  clear w0 w1 w2 r0 r1 r2 hC
  have hiw : (Try.prog.info? 26).map (·.size) = some 4 := by kernel_rfl
  go_enter Try.func4, Try.ntmps4
  go_wp2_with (first
    | ((with_reducible refine at_build (some 25) ?_); refine wpList_build_g 31 _ rfl #[(1, .int .u64 s), (2, .int .u64 p)] (by simp [Act.eval, Act.put]) (.agg C) (HB.out _) rfl ?_)
    | (go_at_call 7; refine (HA.out _).mono ?_; rintro e w4 ⟨rfl, hb4⟩; have S1 := Lib.hid hb4; clear hb4)
    | ((with_reducible refine at_build (some 36) ?_); refine wpList_build_g 26 _ rfl #[(0, .int .u64 q)] (by simp [Act.eval, Act.put]) _ (HBQ.out _) rfl ?_)
    | ((with_reducible refine at_build (some 43) ?_); refine wpList_build_g 26 _ rfl #[(0, .int .u64 n)] (by simp [Act.eval, Act.put]) _ (HBN.out _) rfl ?_)
    | ((with_reducible refine at_build (some 50) ?_); refine wpList_build_g 26 _ rfl #[(0, .int .u64 n1)] (by simp [Act.eval, Act.put]) _ (HBM.out _) rfl ?_)
    | (go_at_call 10; have _d := K2; refine (H3.out _).mono ?_; rintro e w7 ⟨rfl, hb7⟩; have hb := bel1 S3 hb7; have bA := (BX2.alloc _).call hb7; have bB := Blk.call hb7 (Blk.new rfl); have lA := bA.lt; have lB := bB.lt; have K3 := True.intro; clear hb7 K2)
    | (go_at_call 10; have _d := K1; refine (H2.out _).mono ?_; rintro e w6 ⟨rfl, hb6⟩; have S3 := bel1 S2 hb6; have BX2 := Blk.call hb6 (Blk.new rfl); have lx2 := BX2.lt; have K2 := True.intro; clear hb6 K1)
    | (go_at_call 10; refine (H1.out _).mono ?_; rintro e w5 ⟨rfl, hb5⟩; have S2 := bel0 S1.out hb5; have K1 := True.intro; clear hb5)
    | ((with_reducible refine at_load (.tmp 11) ?_); refine wpList_load_g 26 (.tmp 11) rfl w6.heap.size rfl _ _ (bB.alloc _) Try.underlying26 rfl hiw rfl ?_)
    | ((with_reducible refine at_load (.tmp 9) ?_); have _d := K4; refine wpList_load_g 26 (.tmp 9) rfl w5.heap.size rfl _ _ bA8 Try.underlying26 rfl hiw rfl ?_)
    | ((with_reducible refine at_load (.tmp 9) ?_); refine wpList_load_g 26 (.tmp 9) rfl w5.heap.size rfl _ _ (bA.alloc _) Try.underlying26 rfl hiw rfl ?_)
    | ((with_reducible refine at_load (.tmp 13) ?_); refine wpList_load_g 26 (.tmp 13) rfl w7.heap.size rfl _ _ bC8 Try.underlying26 rfl hiw rfl ?_)
    | (go_at_call 11; have _d := K4; refine (G2.out _).mono ?_; rintro e w9 ⟨rfl, hb9⟩; have hb9' := bel0 hb8' hb9; have K5 := True.intro; clear hb9)
    | (go_at_call 11; refine (G1.out _).mono ?_; rintro e w8 ⟨rfl, hb8⟩; have hb8' := bel1 hb hb8; have bA8 := (bA.alloc _).call hb8; have bC8 := Blk.call hb8 (Blk.new rfl); have K4 := True.intro; clear hb8)
    | (go_at_call 9; refine (HW.out _).mono ?_; rintro e wa ⟨rfl, hba⟩; have hba' := bel0 hb9' hba; clear hba)
    | fail)
  go_ret
  exact ⟨rfl, hba'⟩
end Go.Proofs.Ytidimiioglgliaa
