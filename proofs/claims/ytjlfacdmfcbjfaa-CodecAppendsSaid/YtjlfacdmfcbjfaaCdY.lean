/- The reader's Bytes. -/
import Derived.Test.YtjlfacdmfcbjfaaCdV
set_option linter.unusedVariables false
namespace Go.Proofs.Ytjlfacdmfcbjfaa
open Go.RowKit

def byN (rest : List Int) (e : Int) : Int := ruV rest e 18446744073709551615
def byR1 (rest : List Int) (e : Int) : List Int := ruR rest e 18446744073709551615
def byE1 (rest : List Int) (e : Int) : Int := ruE rest e 18446744073709551615
/-- Bytes: its error, its value, what is left. -/
def byE (rest : List Int) (e most : Int) : Int := if byE1 rest e ≠ 0 then byE1 rest e else if most < 0 ∨ most < byN rest e then 3 else tkE (byR1 rest e) 0 (byN rest e)
def byV (rest : List Int) (e most : Int) : List Int := if byE rest e most = 0 then tkV (byR1 rest e) 0 (byN rest e) else []
def byR (rest : List Int) (e most : Int) : List Int := if byE rest e most = 0 then tkR (byR1 rest e) 0 (byN rest e) else rest

def RdB (w : World) (g : Nat) (ys rest : List Int) (e : Int) (en : Ending) (w' : World) : Prop := ∃ v', en = .returned v' ∧ Byt w' v' ys ∧ Rdr w' g rest e ∧ w.grownBy w' (some g)

theorem ruV_rng {rest : List Int} {e most : Int} (h : ∀ k, k < rest.length → 0 ≤ rest.getD k 0 ∧ rest.getD k 0 ≤ 255) : 0 ≤ ruV rest e most ∧ ruV rest e most ≤ 18446744073709551615 := by
  have hP := pu_rng rest h 10 0 rfl
  unfold ruV
  split
  · omega
  · split
    · omega
    · split <;> omega

theorem ruR_len (rest : List Int) (e most : Int) : (ruR rest e most).length ≤ rest.length := by
  unfold ruR
  split
  · omega
  · split
    · omega
    · split
      · omega
      · simp
theorem tkV_len (rest : List Int) (e n : Int) : (tkV rest e n).length ≤ rest.length := by
  unfold tkV
  split
  · simp
  · split
    · simp
    · simp; omega

theorem two3 {w : World} {g : Nat} {rest : List Int} {e : Int} (h : Rdr w g rest e) : ∃ a l c, w.cell? ⟨g, 0, none⟩ = some (.slice a l c) ∧ w.cell? ⟨g, 1, none⟩ = some (.int .i64 e) ∧ ∀ j, w.frozen? ⟨g, j, none⟩ = false := by
  obtain ⟨a, l, c, hB, _⟩ := h
  exact ⟨a, l, c, Rdr.two hB⟩

set_option maxRecDepth 100000 in
set_option maxHeartbeats 8000000 in
theorem bytes_any' (g : Nat) (rest : List Int) (e most : Int) (w : World) (h : Rdr w g rest e) (hm0 : -9223372036854775808 ≤ most) (hm1 : most ≤ 9223372036854775807) (hL : rest.length ≤ 140737488355328) :
    Calls Try.prog 29 #[.pointer (some ⟨g, 0, none⟩), .int .i64 most] w (RdB w g (byV rest e most) (byR rest e most) (byE rest e most)) := by
  have HR := Lib.hid h
  have D1 := uint_any g rest e 18446744073709551615 w h (by omega) (by omega)
  obtain ⟨a, l, c, hB, hY, hF⟩ := h
  have hn := ruV_rng (rest := rest) (e := e) (most := 18446744073709551615) (fun k hk => hY.at hk)
  have HRB := Lib.hid hY.rng
  obtain ⟨c0, c1, c2⟩ := Rdr.two hB
  have HY := Lib.hid hY; clear hY hB
  have HF := Lib.hid hF; clear hF
  have hLr := ruR_len rest e 18446744073709551615
  unfold byV byR byE byN byR1 byE1
  generalize ruV rest e 18446744073709551615 = n at *
  generalize ruR rest e 18446744073709551615 = r1 at *
  generalize ruE rest e 18446744073709551615 = e1 at *
  have HD1 := Lib.hid D1; clear D1
  by_cases h1 : e1 = 0
  case neg =>
    have hne : (e1 != 0) = true := by simpa using h1
    have heq : (e1 == 0) = false := by simpa using h1
    rw [if_pos h1, if_neg h1, if_neg h1]
    have D2 : Hid (∀ w', Rdr w' g r1 e1 → Calls Try.prog 45 #[.pointer (some ⟨g, 0, none⟩), .int .u64 n] w' (Takes w' g [] r1 e1)) := by
      intro w' h
      have := take_any g r1 e1 n w' h hn.1 hn.2
      unfold tkV tkR tkE at this
      rw [if_pos h1, if_pos h1, if_pos h1] at this
      exact this
    clear h1
    go_enter Try.func29, Try.ntmps29
    go_wp2_with (first
      | (go_at_call 25; refine HD1.out.mono ?_; rintro en w1 ⟨rfl, hr1, hg1⟩; obtain ⟨a1, l1, c1', k0, k1, k2⟩ := two3 hr1; have HR1 := Lib.hid hr1; clear hr1; have HG1 := Lib.hid hg1; clear hg1)
      | (go_at_call 45; refine (D2.out _ HR1.out).mono ?_; rintro en w2 ⟨a2, l2, c2', rfl, hy2, hf2, hr2, hg2⟩; obtain ⟨a3, l3, c3', j0, j1, j2⟩ := two3 hr2; have HR2 := Lib.hid hr2; clear hr2; have HG2 := Lib.hid hg2; clear hg2 hy2 hf2))
    go_ret
    have hg := HG1.out.trans HG2.out
    exact ⟨_, rfl, byt_nil _, HR2.out.setRest (HY.out.grownBy hg (fun x hx h0 => Nat.ne_of_lt (HF.out x hx h0))) HF.out, hg.trans grownBy_set⟩
  case pos =>
    subst h1
    simp only [ne_eq, not_true_eq_false, if_false]
    by_cases h2 : most < 0 ∨ most < n
    case pos =>
      rw [if_pos h2]
      rw [if_neg (by omega), if_neg (by omega)]
      have D2 : Hid (∀ w', Rdr w' g r1 3 → Calls Try.prog 45 #[.pointer (some ⟨g, 0, none⟩), .int .u64 n] w' (Takes w' g [] r1 3)) := fun w' h => take_any g r1 3 n w' h hn.1 hn.2
      by_cases h3 : most < 0
      case pos =>
        clear h2
        go_enter Try.func29, Try.ntmps29
        go_wp2_with (first
          | (go_at_call 25; refine HD1.out.mono ?_; rintro en w1 ⟨rfl, hr1, hg1⟩; obtain ⟨a1, l1, c1', k0, k1, k2⟩ := two3 hr1; have HR1 := Lib.hid hr1; clear hr1; have HG1 := Lib.hid hg1; clear hg1)
          | (go_at_call 45; refine (D2.out _ HR1.out.setErr).mono ?_; rintro en w2 ⟨a2, l2, c2', rfl, hy2, hf2, hr2, hg2⟩; obtain ⟨a3, l3, c3', j0, j1, j2⟩ := two3 hr2; have HR2 := Lib.hid hr2; clear hr2; have HG2 := Lib.hid hg2; clear hg2 hy2 hf2))
        go_ret
        have hg := (HG1.out.trans grownBy_set).trans HG2.out
        exact ⟨_, rfl, byt_nil _, HR2.out.setRest (HY.out.grownBy hg (fun x hx h0 => Nat.ne_of_lt (HF.out x hx h0))) HF.out, hg.trans grownBy_set⟩
      case neg =>
        have h4 : most < n := by omega
        clear h2
        go_enter Try.func29, Try.ntmps29
        go_wp2_with (first
          | (go_at_call 25; refine HD1.out.mono ?_; rintro en w1 ⟨rfl, hr1, hg1⟩; obtain ⟨a1, l1, c1', k0, k1, k2⟩ := two3 hr1; have HR1 := Lib.hid hr1; clear hr1; have HG1 := Lib.hid hg1; clear hg1)
          | (go_at_call 45; refine (D2.out _ HR1.out.setErr).mono ?_; rintro en w2 ⟨a2, l2, c2', rfl, hy2, hf2, hr2, hg2⟩; obtain ⟨a3, l3, c3', j0, j1, j2⟩ := two3 hr2; have HR2 := Lib.hid hr2; clear hr2; have HG2 := Lib.hid hg2; clear hg2 hy2 hf2))
        go_ret
        have hg := (HG1.out.trans grownBy_set).trans HG2.out
        exact ⟨_, rfl, byt_nil _, HR2.out.setRest (HY.out.grownBy hg (fun x hx h0 => Nat.ne_of_lt (HF.out x hx h0))) HF.out, hg.trans grownBy_set⟩
    case neg =>
      have h3 : ¬ most < 0 := by omega
      have h4 : ¬ most < n := by omega
      have h5 : 0 ≤ most := by omega
      have h6 : n ≤ most := by omega
      rw [if_neg h2]
      clear h2
      have D2 := Lib.hid (fun w' (h : Rdr w' g r1 0) => take_any g r1 0 n w' h hn.1 hn.2)
      have hLv := tkV_len r1 0 n
      generalize tkE r1 0 n = e2 at *
      generalize tkR r1 0 n = r2 at *
      generalize tkV r1 0 n = v2 at *
      by_cases h7 : e2 = 0
      case neg =>
        have hne : (e2 != 0) = true := by simpa using h7
        rw [if_neg h7, if_neg h7]
        clear h7
        go_enter Try.func29, Try.ntmps29
        go_wp2_with (first
          | (go_at_call 25; refine HD1.out.mono ?_; rintro en w1 ⟨rfl, hr1, hg1⟩; obtain ⟨a1, l1, c1', k0, k1, k2⟩ := two3 hr1; have HR1 := Lib.hid hr1; clear hr1; have HG1 := Lib.hid hg1; clear hg1)
          | (go_at_call 45; refine (D2.out _ HR1.out).mono ?_; rintro en w2 ⟨a2, l2, c2', rfl, hy2, hf2, hr2, hg2⟩; obtain ⟨a3, l3, c3', j0, j1, j2⟩ := two3 hr2; have HR2 := Lib.hid hr2; clear hr2; have HG2 := Lib.hid hg2; clear hg2 hy2 hf2))
        go_ret
        have hg := HG1.out.trans HG2.out
        exact ⟨_, rfl, byt_nil _, HR2.out.setRest (HY.out.grownBy hg (fun x hx h0 => Nat.ne_of_lt (HF.out x hx h0))) HF.out, hg.trans grownBy_set⟩
      case pos =>
        subst h7
        simp only [if_true]
        go_enter Try.func29, Try.ntmps29
        go_wp2_with (first
          | (go_at_call 25; refine HD1.out.mono ?_; rintro en w1 ⟨rfl, hr1, hg1⟩; obtain ⟨a1, l1, c1', k0, k1, k2⟩ := two3 hr1; have HR1 := Lib.hid hr1; clear hr1; have HG1 := Lib.hid hg1; clear hg1)
          | (go_at_call 45; refine (D2.out _ HR1.out).mono ?_; rintro en w2 ⟨a2, l2, c2', rfl, hy2, hf2, hr2, hg2⟩; obtain ⟨a3, l3, c3', j0, j1, j2⟩ := two3 hr2; have HR2 := Lib.hid hr2; clear hr2; have HG2 := Lib.hid hg2; clear hg2; have HY2 := Lib.hid hy2; clear hy2 hf2)
          | (go_at_call 43; refine (clone_byt _ v2 _ HY2.out ?_).mono ?_))
        · omega
        · rintro en w3 ⟨v3, rfl, hy3, hb3⟩
          have HY3 := Lib.hid hy3; clear hy3
          have HB3 := Lib.hid hb3; clear hb3
          go_wp2_with fail
          go_ret
          exact ⟨v3, rfl, HY3.out, HR2.out.below HB3.out, (HG1.out.trans HG2.out).trans (grownBy_of_below HB3.out)⟩

end Go.Proofs.Ytjlfacdmfcbjfaa
