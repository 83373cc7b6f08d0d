/- Contract of math/bits.Div64 (compiled from its Go body): quotient and remainder of two words by one, where the high word is below the divisor. -/
import Derived.Test.YtgleleccmpncnaaMath
import Derived.Test.YtgleleccmpncnaaShelf
import Derived.BigQuiet
import Derived.Deep.QuietTactic
set_option linter.unusedVariables false
namespace Go.Proofs.Ytgleleccmpncnaa
open Go.RowKit

/-- The dividend, shifted. -/
theorem shifted {h l y : Int} {s : Nat} (h0 : 0 ≤ h) (hy : h < y) (hl : 0 ≤ l) (hl2 : l ≤ 18446744073709551615) (hs : s ≤ 63) (hV : y * (2 : Int) ^ s < 18446744073709551616) :
    ∃ H U1 U0 : Int, IntKind.u64.wrap (h * 2 ^ s) = H ∧ bits .or .u64 H (l / 2 ^ (64 - s)) = U1 ∧ IntKind.u64.wrap (l * 2 ^ s) = U0 ∧ 0 ≤ U1 ∧ U1 < y * 2 ^ s ∧ 0 ≤ U0 ∧ U0 < 18446744073709551616 ∧
      U1 * 18446744073709551616 + U0 = (h * 18446744073709551616 + l) * 2 ^ s := by
  obtain ⟨h, rfl⟩ := Int.eq_ofNat_of_zero_le h0
  obtain ⟨l, rfl⟩ := Int.eq_ofNat_of_zero_le hl
  obtain ⟨y, rfl⟩ := Int.eq_ofNat_of_zero_le (show 0 ≤ y by omega)
  have c (x : Nat) : (x : Int) * (2 : Int) ^ s = ((x * 2 ^ s : Nat) : Int) := by rw [Int.natCast_mul, Int.natCast_pow]; rfl
  have c2 : (l : Int) / (2 : Int) ^ (64 - s) = ((l / 2 ^ (64 - s) : Nat) : Int) := by rw [Int.natCast_ediv, Int.natCast_pow]; rfl
  have hp : 2 ^ s * 2 ^ (64 - s) = 18446744073709551616 := by
    rw [← Nat.pow_add, show s + (64 - s) = 64 by omega]
  have hpos := Nat.two_pow_pos s
  have hpos2 := Nat.two_pow_pos (64 - s)
  have hlow : l / 2 ^ (64 - s) < 2 ^ s := by
    rw [Nat.div_lt_iff_lt_mul hpos2, hp]; omega
  have hhy : (h + 1) * 2 ^ s ≤ y * 2 ^ s := Nat.mul_le_mul_right _ (by omega)
  rw [Nat.add_mul, Nat.one_mul] at hhy
  rw [c y] at hV
  have eH : IntKind.u64.wrap ((h : Int) * 2 ^ s) = ((h * 2 ^ s : Nat) : Int) := by
    rw [c h, u64_wrap (by omega) (by omega)]
  have eO : bits .or .u64 ((h * 2 ^ s : Nat) : Int) ((l : Int) / 2 ^ (64 - s)) = ((h * 2 ^ s + l / 2 ^ (64 - s) : Nat) : Int) := by
    rw [c2, or_low s h _ hlow (by omega)]
  have hlt : h * 2 ^ s + l / 2 ^ (64 - s) < y * 2 ^ s := by
    generalize l / 2 ^ (64 - s) = q at *
    generalize h * 2 ^ s = t at *
    generalize y * 2 ^ s = t' at *
    omega
  have e1 : ((h : Int) * 18446744073709551616 + l) = ((h * 18446744073709551616 + l : Nat) : Int) := by omega
  have e2 : l * 2 ^ s / 18446744073709551616 = l / 2 ^ (64 - s) := by
    rw [← hp, Nat.mul_comm l, Nat.mul_div_mul_left _ _ hpos]
  have e3 : (h * 18446744073709551616 + l) * 2 ^ s = h * 2 ^ s * 18446744073709551616 + l * 2 ^ s := by
    rw [Nat.add_mul, Nat.mul_right_comm]
  refine ⟨((h * 2 ^ s : Nat) : Int), ((h * 2 ^ s + l / 2 ^ (64 - s) : Nat) : Int), IntKind.u64.wrap ((l : Int) * 2 ^ s), eH, eO, rfl, Int.natCast_nonneg _, by rw [c y]; exact Int.ofNat_lt.2 hlt, ?_, ?_, ?_⟩
  · rw [IntKind.wrap_u64]; exact Int.emod_nonneg _ (by omega)
  · rw [IntKind.wrap_u64]; exact Int.emod_lt_of_pos _ (by omega)
  · rw [IntKind.wrap_u64, c l, e1, c, e3, ← e2]
    clear eH eO e1 e2 e3 hlt hlow hhy hV
    generalize l * 2 ^ s = z
    generalize h * 2 ^ s = t
    omega

/-- The two digits together. -/
theorem together {h l y V U1 U0 d1 d0 Q1 Q0 R1 R0 : Int} {s : Nat} (hy : 0 < y) (hV : V = y * 2 ^ s) (hU : U1 * 18446744073709551616 + U0 = (h * 18446744073709551616 + l) * 2 ^ s)
    (hd : U0 = d1 * 4294967296 + d0) (hQ1 : Q1 = (U1 * 4294967296 + d1) / V) (hR1 : R1 = (U1 * 4294967296 + d1) % V) (hQ0 : Q0 = (R1 * 4294967296 + d0) / V) (hR0 : R0 = (R1 * 4294967296 + d0) % V) :
    Q1 * 4294967296 + Q0 = (h * 18446744073709551616 + l) / y ∧ R0 / 2 ^ s = (h * 18446744073709551616 + l) % y := by
  have hp : (0 : Int) < 2 ^ s := Int.pow_pos (by omega)
  have hVp : 0 < V := by rw [hV]; exact Int.mul_pos hy hp
  generalize h * 18446744073709551616 + l = N at *
  have e1 := Int.mul_ediv_add_emod (U1 * 4294967296 + d1) V
  rw [← hQ1, ← hR1] at e1
  have e0 := Int.mul_ediv_add_emod (R1 * 4294967296 + d0) V
  rw [← hQ0, ← hR0] at e0
  have hlt : R0 < V := by rw [hR0]; exact Int.emod_lt_of_pos _ hVp
  have hge : 0 ≤ R0 := by rw [hR0]; exact Int.emod_nonneg _ (by omega)
  have e : N * 2 ^ s = V * (Q1 * 4294967296 + Q0) + R0 := by
    rw [Int.mul_add, ← Int.mul_assoc]
    generalize V * Q1 = p1 at *
    generalize V * Q0 = p0 at *
    generalize N * 2 ^ s = T at *
    omega
  have hq : N * 2 ^ s / V = Q1 * 4294967296 + Q0 := by
    rw [e, Int.mul_add_ediv_left _ _ (by omega), Int.ediv_eq_zero_of_lt hge hlt, Int.add_zero]
  have hr : N * 2 ^ s % V = R0 := by
    rw [e, Int.mul_add_emod_self_left, Int.emod_eq_of_lt hge hlt]
  rw [hV, Int.mul_ediv_mul_of_pos_left _ _ hp] at hq
  rw [hV, Int.mul_comm N, Int.mul_comm y, Int.mul_emod_mul_of_pos _ _ hp] at hr
  exact ⟨hq.symm, by rw [← hr, Int.mul_ediv_cancel_left _ (by omega)]⟩

set_option maxHeartbeats 8000000 in
theorem div64_any (h l y : Int) (w : World) (h0 : 0 ≤ h) (hy : h < y) (hy2 : y ≤ 18446744073709551615) (hl : 0 ≤ l) (hl2 : l ≤ 18446744073709551615) :
    Calls Try.prog 49 #[.int .u64 h, .int .u64 l, .int .u64 y] w fun e w' => e = .returned (.tuple #[.int .u64 ((h * 18446744073709551616 + l) / y), .int .u64 ((h * 18446744073709551616 + l) % y)]) ∧ ∃ n, w' = w.drewN n := by
  by_cases hz : h = 0
  · subst hz
    go_enter Try.func49, Try.ntmps49
    go_wp2_with fail
    go_quiet (fail)
    go_wp2_with fail
    go_ret2
    exact ⟨tup2 (a := l / y) (c := l % y) (by rw [Int.zero_mul, Int.zero_add]) (by rw [Int.zero_mul, Int.zero_add]), _, rfl⟩
  · have hz' : 0 < h := by omega
    obtain ⟨s, hs, hs1, hV1, hV2⟩ := lead y (by omega) hy2
    obtain ⟨H, U1, U0, eH, eU1, eU0, hU1, hU1V, hU0, hU02, hU⟩ := shifted h0 hy hl hl2 hs1 hV2
    obtain ⟨V, hV⟩ : ∃ V, V = y * (2 : Int) ^ s := ⟨_, rfl⟩
    rw [← hV] at hV1 hV2 hU1V
    have eV : IntKind.u64.wrap (y * 2 ^ s) = V := by rw [← hV, u64_wrap (by omega) hV2]
    obtain ⟨a, ea⟩ : ∃ a, V / 4294967296 = a := ⟨_, rfl⟩
    obtain ⟨b, eb⟩ : ∃ b, bits .and .u64 V 4294967295 = b := ⟨_, rfl⟩
    obtain ⟨d1, ed1⟩ : ∃ d, U0 / 4294967296 = d := ⟨_, rfl⟩
    obtain ⟨d0, ed0⟩ : ∃ d, bits .and .u64 U0 4294967295 = d := ⟨_, rfl⟩
    have hb' := and32 V (by omega) hV2
    rw [eb] at hb'
    have hd0' := and32 U0 (by omega) hU02
    rw [ed0] at hd0'
    have hab : V = a * 4294967296 + b := by omega
    have hdd : U0 = d1 * 4294967296 + d0 := by omega
    have ha : 2147483648 ≤ a := by omega
    have ha2 : a < 4294967296 := by omega
    have hb0 : 0 ≤ b := by omega
    have hb2 : b < 4294967296 := by omega
    have hd1 : 0 ≤ d1 := by omega
    have hd12 : d1 < 4294967296 := by omega
    have hd0 : 0 ≤ d0 := by omega
    have hd02 : d0 < 4294967296 := by omega
    clear hb' hd0'
    obtain ⟨g1, g2, g3, g4, g5⟩ := kd_digit (v := V) (u := U1) (d := d1) (by omega) hU1 hU1V hd1 hd12
    obtain ⟨Q1, hQ1⟩ : ∃ q, q = (U1 * 4294967296 + d1) / V := ⟨_, rfl⟩
    obtain ⟨R1, hR1⟩ : ∃ q, q = (U1 * 4294967296 + d1) % V := ⟨_, rfl⟩
    rw [← hQ1] at g1 g2 g5; rw [← hR1] at g3 g4 g5
    obtain ⟨k1, k2, k3, k4, k5⟩ := kd_digit (v := V) (u := R1) (d := d0) (by omega) g3 g4 hd0 hd02
    obtain ⟨Q0, hQ0⟩ : ∃ q, q = (R1 * 4294967296 + d0) / V := ⟨_, rfl⟩
    obtain ⟨R0, hR0⟩ : ∃ q, q = (R1 * 4294967296 + d0) % V := ⟨_, rfl⟩
    rw [← hQ0] at k1 k2 k5; rw [← hR0] at k3 k4 k5
    obtain ⟨q, eq⟩ : ∃ q, U1.tdiv a = q := ⟨_, rfl⟩
    have eq' := eq
    rw [tdiv_u hU1] at eq'
    have hq0 : 0 ≤ q := by rw [← eq']; exact Int.ediv_nonneg hU1 (by omega)
    have hq2 : q < 8589934592 := by
      rw [← eq']; apply Int.ediv_lt_of_lt_mul (by omega); omega
    have ewq : IntKind.u64.wrap q = q := u64_wrap hq0 (by omega)
    have hm := Int.mul_ediv_add_emod U1 a
    rw [eq', Int.mul_comm] at hm
    obtain ⟨r, hr⟩ : ∃ r, r = U1 % a := ⟨_, rfl⟩
    rw [← hr] at hm
    have hr0 : 0 ≤ r := by rw [hr]; exact Int.emod_nonneg _ (by omega)
    have hr2 : r < a := by rw [hr]; exact Int.emod_lt_of_pos _ (by omega)
    obtain ⟨p, ep⟩ : ∃ p, IntKind.u64.wrap (q * a) = p := ⟨_, rfl⟩
    have ep' := ep
    have hp0 : 0 ≤ q * a := Int.mul_nonneg hq0 (by omega)
    rw [u64_wrap (by omega) (by omega)] at ep'
    have er : U1 - p = r := by omega
    obtain ⟨q', eqq⟩ : ∃ q, R1.tdiv a = q := ⟨_, rfl⟩
    have eqq' := eqq
    rw [tdiv_u g3] at eqq'
    have hq0' : 0 ≤ q' := by rw [← eqq']; exact Int.ediv_nonneg g3 (by omega)
    have hq2' : q' < 8589934592 := by
      rw [← eqq']; apply Int.ediv_lt_of_lt_mul (by omega); omega
    have ewq' : IntKind.u64.wrap q' = q' := u64_wrap hq0' (by omega)
    have hm' := Int.mul_ediv_add_emod R1 a
    rw [eqq', Int.mul_comm] at hm'
    obtain ⟨r', hr'⟩ : ∃ r, r = R1 % a := ⟨_, rfl⟩
    rw [← hr'] at hm'
    have hr0' : 0 ≤ r' := by rw [hr']; exact Int.emod_nonneg _ (by omega)
    have hr2' : r' < a := by rw [hr']; exact Int.emod_lt_of_pos _ (by omega)
    obtain ⟨p', epp⟩ : ∃ p, IntKind.u64.wrap (q' * a) = p := ⟨_, rfl⟩
    have epp' := epp
    have hp0' : 0 ≤ q' * a := Int.mul_nonneg hq0' (by omega)
    rw [u64_wrap (by omega) (by omega)] at epp'
    have er' : R1 - p' = r' := by omega
    obtain ⟨m1, em1⟩ : ∃ m, IntKind.u64.wrap (U1 * 4294967296) = m := ⟨_, rfl⟩
    obtain ⟨m2, em2⟩ : ∃ m, IntKind.u64.wrap (m1 + d1) = m := ⟨_, rfl⟩
    obtain ⟨m3, em3⟩ : ∃ m, IntKind.u64.wrap (Q1 * V) = m := ⟨_, rfl⟩
    have em : IntKind.u64.wrap (m2 - m3) = R1 := by rw [← em2, ← em1, ← em3]; exact kd_rest g5 g3 (by omega)
    obtain ⟨n1, en1⟩ : ∃ m, IntKind.u64.wrap (R1 * 4294967296) = m := ⟨_, rfl⟩
    obtain ⟨n2, en2⟩ : ∃ m, IntKind.u64.wrap (n1 + d0) = m := ⟨_, rfl⟩
    obtain ⟨n3, en3⟩ : ∃ m, IntKind.u64.wrap (Q0 * V) = m := ⟨_, rfl⟩
    have en : IntKind.u64.wrap (n2 - n3) = R0 := by rw [← en2, ← en1, ← en3]; exact kd_rest k5 k3 (by omega)
    have T := Lib.hid (together (show 0 < y by omega) hV hU hdd hQ1 hR1 hQ0 hR0)
    have HV := Lib.hid hV; clear hV
    have HQ1 := Lib.hid hQ1; clear hQ1
    have HR1 := Lib.hid hR1; clear hR1
    have HQ0 := Lib.hid hQ0; clear hQ0
    have HR0 := Lib.hid hR0; clear hR0
    have Hg5 := Lib.hid g5; clear g5
    have Hk5 := Lib.hid k5; clear k5
    have Hm := Lib.hid hm; clear hm
    have Hm' := Lib.hid hm'; clear hm'
    have Hab := Lib.hid hab; clear hab
    have Hdd := Lib.hid hdd; clear hdd
    have HU := Lib.hid hU; clear hU
    have HL1 := Lib.hid (show Q1 ≤ q by
      have h1 : Q1 * a ≤ U1 := by
        have h2 := Hg5.out
        have h3 : Q1 * V = Q1 * a * 4294967296 + Q1 * b := by rw [Hab.out, Int.mul_add, Int.mul_assoc]
        have h4 := Int.mul_nonneg g1 hb0
        omega
      rw [← eq']; exact Int.le_ediv_of_mul_le (by omega) h1)
    have HL0 := Lib.hid (show Q0 ≤ q' by
      have h1 : Q0 * a ≤ R1 := by
        have h2 := Hk5.out
        have h3 : Q0 * V = Q0 * a * 4294967296 + Q0 * b := by rw [Hab.out, Int.mul_add, Int.mul_assoc]
        have h4 := Int.mul_nonneg k1 hb0
        omega
      rw [← eqq']; exact Int.le_ediv_of_mul_le (by omega) h1)
    clear hr hr' eq' eqq' ep' epp' hp0 hp0'
    go_enter Try.func49, Try.ntmps49
    go_wp2_with (go_at_call 61; refine (Try.bits_LeadingZeros64 y _ (by omega) (by omega)).mono ?_; rintro e w' ⟨rfl, rfl⟩; rw [hs])
    go_loop [15, 16] (fun vq vr => ∃ q r : Int, vq = .int .u64 q ∧ vr = .int .u64 r ∧ q * a + r = U1 ∧ Q1 ≤ q ∧ q < 8589934592 ∧ 0 ≤ r ∧ r < 4294967296) (fun vq _ => (intOf vq).toNat)
    case atStart => exact ⟨_, _, rfl, rfl, Hm.out, HL1.out, by omega, by omega, by omega⟩
    case round =>
      obtain ⟨x, t, rfl, rfl, hx, hx1, hx2, ht0, ht2⟩ := hrel
      have HX := Lib.hid hx; clear hx
      have hx0 : 0 ≤ x := by omega
      by_cases c1 : 4294967296 ≤ x
      · have hgt := kd_hi Hab.out hb0 (by omega) HX.out hU1V hd12 (Or.inl c1)
        rw [← HQ1.out] at hgt
        have HX2 : Hid ((x - 1) * a + (t + a) = U1) := by
          have := HX.out
          rw [Int.sub_mul, Int.one_mul]; exact (by omega : x * a - a + (t + a) = U1)
        by_cases c2 : 4294967296 ≤ t + a
        · have e := kd_lo (d := d1) Hab.out hb0 (by omega) HX2.out (kd_break Hab.out hb0 hb2 (by omega) HX2.out (by omega) hU1V hd1 c2) (by rw [← HQ1.out]; omega)
          rw [← HQ1.out] at e
          go_wp2_with fail
          go_loop [18, 16] (fun vq vr => ∃ q r : Int, vq = .int .u64 q ∧ vr = .int .u64 r ∧ q * a + r = R1 ∧ Q0 ≤ q ∧ q < 8589934592 ∧ 0 ≤ r ∧ r < 4294967296) (fun vq _ => (intOf vq).toNat)
          case atStart => exact ⟨_, _, rfl, rfl, Hm'.out, HL0.out, by omega, by omega, by omega⟩
          case round =>
            obtain ⟨x, t, rfl, rfl, hx, hx1, hx2, ht0, ht2⟩ := hrel
            have HX := Lib.hid hx; clear hx
            have hx0 : 0 ≤ x := by omega
            by_cases c1 : 4294967296 ≤ x
            · have hgt := kd_hi Hab.out hb0 (by omega) HX.out g4 hd02 (Or.inl c1)
              rw [← HQ0.out] at hgt
              have HX2 : Hid ((x - 1) * a + (t + a) = R1) := by
                have := HX.out
                rw [Int.sub_mul, Int.one_mul]; exact (by omega : x * a - a + (t + a) = R1)
              by_cases c2 : 4294967296 ≤ t + a
              · have e := kd_lo (d := d0) Hab.out hb0 (by omega) HX2.out (kd_break Hab.out hb0 hb2 (by omega) HX2.out (by omega) g4 hd0 c2) (by rw [← HQ0.out]; omega)
                rw [← HQ0.out] at e
                go_wp2_with fail
                go_ret2
                exact ⟨tup2 T.out.1 T.out.2, 0, rfl⟩
              · go_wp2_with fail
                go_round
                case rel => exact ⟨_, _, rfl, rfl, HX2.out, by omega, by omega, by omega, by omega⟩
                case measure => simp [intOf]; omega
            · obtain ⟨z, ez⟩ : ∃ z, IntKind.u64.wrap (x * b) = z := ⟨_, rfl⟩
              have ez' := ez
              have hz0 : 0 ≤ x * b := Int.mul_nonneg hx0 hb0
              have hz1 : x * b ≤ 4294967295 * b := Int.mul_le_mul_of_nonneg_right (by omega) hb0
              rw [u64_wrap hz0 (by omega)] at ez'
              by_cases c3 : 4294967296 * t + d0 < z
              · have hgt := kd_hi Hab.out hb0 (by omega) HX.out g4 hd02 (Or.inr (by rw [ez']; exact c3))
                rw [← HQ0.out] at hgt
                have HX2 : Hid ((x - 1) * a + (t + a) = R1) := by
                  have := HX.out
                  rw [Int.sub_mul, Int.one_mul]; exact (by omega : x * a - a + (t + a) = R1)
                have EZ := Lib.hid ez'; clear ez' hz0 hz1
                by_cases c2 : 4294967296 ≤ t + a
                · have e := kd_lo (d := d0) Hab.out hb0 (by omega) HX2.out (kd_break Hab.out hb0 hb2 (by omega) HX2.out (by omega) g4 hd0 c2) (by rw [← HQ0.out]; omega)
                  rw [← HQ0.out] at e
                  go_wp2_with fail
                  go_ret2
                  exact ⟨tup2 T.out.1 T.out.2, 0, rfl⟩
                · go_wp2_with fail
                  go_round
                  case rel => exact ⟨_, _, rfl, rfl, HX2.out, by omega, by omega, by omega, by omega⟩
                  case measure => simp [intOf]; omega
              · have e := kd_lo (q := x) (d := d0) Hab.out hb0 (by omega) HX.out (by rw [ez']; omega) (by rw [← HQ0.out]; exact hx1)
                rw [← HQ0.out] at e
                subst e
                have EZ := Lib.hid ez'; clear ez' hz0 hz1
                go_wp2_with fail
                go_ret2
                exact ⟨tup2 T.out.1 T.out.2, 0, rfl⟩
        · go_wp2_with fail
          go_round
          case rel => exact ⟨_, _, rfl, rfl, HX2.out, by omega, by omega, by omega, by omega⟩
          case measure => simp [intOf]; omega
      · obtain ⟨z, ez⟩ : ∃ z, IntKind.u64.wrap (x * b) = z := ⟨_, rfl⟩
        have ez' := ez
        have hz0 : 0 ≤ x * b := Int.mul_nonneg hx0 hb0
        have hz1 : x * b ≤ 4294967295 * b := Int.mul_le_mul_of_nonneg_right (by omega) hb0
        rw [u64_wrap hz0 (by omega)] at ez'
        by_cases c3 : 4294967296 * t + d1 < z
        · have hgt := kd_hi Hab.out hb0 (by omega) HX.out hU1V hd12 (Or.inr (by rw [ez']; exact c3))
          rw [← HQ1.out] at hgt
          have HX2 : Hid ((x - 1) * a + (t + a) = U1) := by
            have := HX.out
            rw [Int.sub_mul, Int.one_mul]; exact (by omega : x * a - a + (t + a) = U1)
          have EZ := Lib.hid ez'; clear ez' hz0 hz1
          by_cases c2 : 4294967296 ≤ t + a
          · have e := kd_lo (d := d1) Hab.out hb0 (by omega) HX2.out (kd_break Hab.out hb0 hb2 (by omega) HX2.out (by omega) hU1V hd1 c2) (by rw [← HQ1.out]; omega)
            rw [← HQ1.out] at e
            go_wp2_with fail
            go_loop [18, 16] (fun vq vr => ∃ q r : Int, vq = .int .u64 q ∧ vr = .int .u64 r ∧ q * a + r = R1 ∧ Q0 ≤ q ∧ q < 8589934592 ∧ 0 ≤ r ∧ r < 4294967296) (fun vq _ => (intOf vq).toNat)
            case atStart => exact ⟨_, _, rfl, rfl, Hm'.out, HL0.out, by omega, by omega, by omega⟩
            case round =>
              obtain ⟨x, t, rfl, rfl, hx, hx1, hx2, ht0, ht2⟩ := hrel
              have HX := Lib.hid hx; clear hx
              have hx0 : 0 ≤ x := by omega
              by_cases c1 : 4294967296 ≤ x
              · have hgt := kd_hi Hab.out hb0 (by omega) HX.out g4 hd02 (Or.inl c1)
                rw [← HQ0.out] at hgt
                have HX2 : Hid ((x - 1) * a + (t + a) = R1) := by
                  have := HX.out
                  rw [Int.sub_mul, Int.one_mul]; exact (by omega : x * a - a + (t + a) = R1)
                by_cases c2 : 4294967296 ≤ t + a
                · have e := kd_lo (d := d0) Hab.out hb0 (by omega) HX2.out (kd_break Hab.out hb0 hb2 (by omega) HX2.out (by omega) g4 hd0 c2) (by rw [← HQ0.out]; omega)
                  rw [← HQ0.out] at e
                  go_wp2_with fail
                  go_ret2
                  exact ⟨tup2 T.out.1 T.out.2, 0, rfl⟩
                · go_wp2_with fail
                  go_round
                  case rel => exact ⟨_, _, rfl, rfl, HX2.out, by omega, by omega, by omega, by omega⟩
                  case measure => simp [intOf]; omega
              · obtain ⟨z, ez⟩ : ∃ z, IntKind.u64.wrap (x * b) = z := ⟨_, rfl⟩
                have ez' := ez
                have hz0 : 0 ≤ x * b := Int.mul_nonneg hx0 hb0
                have hz1 : x * b ≤ 4294967295 * b := Int.mul_le_mul_of_nonneg_right (by omega) hb0
                rw [u64_wrap hz0 (by omega)] at ez'
                by_cases c3 : 4294967296 * t + d0 < z
                · have hgt := kd_hi Hab.out hb0 (by omega) HX.out g4 hd02 (Or.inr (by rw [ez']; exact c3))
                  rw [← HQ0.out] at hgt
                  have HX2 : Hid ((x - 1) * a + (t + a) = R1) := by
                    have := HX.out
                    rw [Int.sub_mul, Int.one_mul]; exact (by omega : x * a - a + (t + a) = R1)
                  have EZ := Lib.hid ez'; clear ez' hz0 hz1
                  by_cases c2 : 4294967296 ≤ t + a
                  · have e := kd_lo (d := d0) Hab.out hb0 (by omega) HX2.out (kd_break Hab.out hb0 hb2 (by omega) HX2.out (by omega) g4 hd0 c2) (by rw [← HQ0.out]; omega)
                    rw [← HQ0.out] at e
                    go_wp2_with fail
                    go_ret2
                    exact ⟨tup2 T.out.1 T.out.2, 0, rfl⟩
                  · go_wp2_with fail
                    go_round
                    case rel => exact ⟨_, _, rfl, rfl, HX2.out, by omega, by omega, by omega, by omega⟩
                    case measure => simp [intOf]; omega
                · have e := kd_lo (q := x) (d := d0) Hab.out hb0 (by omega) HX.out (by rw [ez']; omega) (by rw [← HQ0.out]; exact hx1)
                  rw [← HQ0.out] at e
                  subst e
                  have EZ := Lib.hid ez'; clear ez' hz0 hz1
                  go_wp2_with fail
                  go_ret2
                  exact ⟨tup2 T.out.1 T.out.2, 0, rfl⟩
          · go_wp2_with fail
            go_round
            case rel => exact ⟨_, _, rfl, rfl, HX2.out, by omega, by omega, by omega, by omega⟩
            case measure => simp [intOf]; omega
        · have e := kd_lo (q := x) (d := d1) Hab.out hb0 (by omega) HX.out (by rw [ez']; omega) (by rw [← HQ1.out]; exact hx1)
          rw [← HQ1.out] at e
          subst e
          have EZ := Lib.hid ez'; clear ez' hz0 hz1
          go_wp2_with fail
          go_loop [18, 16] (fun vq vr => ∃ q r : Int, vq = .int .u64 q ∧ vr = .int .u64 r ∧ q * a + r = R1 ∧ Q0 ≤ q ∧ q < 8589934592 ∧ 0 ≤ r ∧ r < 4294967296) (fun vq _ => (intOf vq).toNat)
          case atStart => exact ⟨_, _, rfl, rfl, Hm'.out, HL0.out, by omega, by omega, by omega⟩
          case round =>
            obtain ⟨x, t, rfl, rfl, hx, hx1, hx2, ht0, ht2⟩ := hrel
            have HX := Lib.hid hx; clear hx
            have hx0 : 0 ≤ x := by omega
            by_cases c1 : 4294967296 ≤ x
            · have hgt := kd_hi Hab.out hb0 (by omega) HX.out g4 hd02 (Or.inl c1)
              rw [← HQ0.out] at hgt
              have HX2 : Hid ((x - 1) * a + (t + a) = R1) := by
                have := HX.out
                rw [Int.sub_mul, Int.one_mul]; exact (by omega : x * a - a + (t + a) = R1)
              by_cases c2 : 4294967296 ≤ t + a
              · have e := kd_lo (d := d0) Hab.out hb0 (by omega) HX2.out (kd_break Hab.out hb0 hb2 (by omega) HX2.out (by omega) g4 hd0 c2) (by rw [← HQ0.out]; omega)
                rw [← HQ0.out] at e
                go_wp2_with fail
                go_ret2
                exact ⟨tup2 T.out.1 T.out.2, 0, rfl⟩
              · go_wp2_with fail
                go_round
                case rel => exact ⟨_, _, rfl, rfl, HX2.out, by omega, by omega, by omega, by omega⟩
                case measure => simp [intOf]; omega
            · obtain ⟨z, ez⟩ : ∃ z, IntKind.u64.wrap (x * b) = z := ⟨_, rfl⟩
              have ez' := ez
              have hz0 : 0 ≤ x * b := Int.mul_nonneg hx0 hb0
              have hz1 : x * b ≤ 4294967295 * b := Int.mul_le_mul_of_nonneg_right (by omega) hb0
              rw [u64_wrap hz0 (by omega)] at ez'
              by_cases c3 : 4294967296 * t + d0 < z
              · have hgt := kd_hi Hab.out hb0 (by omega) HX.out g4 hd02 (Or.inr (by rw [ez']; exact c3))
                rw [← HQ0.out] at hgt
                have HX2 : Hid ((x - 1) * a + (t + a) = R1) := by
                  have := HX.out
                  rw [Int.sub_mul, Int.one_mul]; exact (by omega : x * a - a + (t + a) = R1)
                have EZ := Lib.hid ez'; clear ez' hz0 hz1
                by_cases c2 : 4294967296 ≤ t + a
                · have e := kd_lo (d := d0) Hab.out hb0 (by omega) HX2.out (kd_break Hab.out hb0 hb2 (by omega) HX2.out (by omega) g4 hd0 c2) (by rw [← HQ0.out]; omega)
                  rw [← HQ0.out] at e
                  go_wp2_with fail
                  go_ret2
                  exact ⟨tup2 T.out.1 T.out.2, 0, rfl⟩
                · go_wp2_with fail
                  go_round
                  case rel => exact ⟨_, _, rfl, rfl, HX2.out, by omega, by omega, by omega, by omega⟩
                  case measure => simp [intOf]; omega
              · have e := kd_lo (q := x) (d := d0) Hab.out hb0 (by omega) HX.out (by rw [ez']; omega) (by rw [← HQ0.out]; exact hx1)
                rw [← HQ0.out] at e
                subst e
                have EZ := Lib.hid ez'; clear ez' hz0 hz1
                go_wp2_with fail
                go_ret2
                exact ⟨tup2 T.out.1 T.out.2, 0, rfl⟩

end Go.Proofs.Ytgleleccmpncnaa
