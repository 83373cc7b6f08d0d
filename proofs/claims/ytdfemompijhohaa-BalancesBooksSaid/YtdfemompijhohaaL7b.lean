/- BalancesBooks. -/
import Derived.Test.YtdfemompijhohaaBkH
set_option linter.unusedVariables false
set_option linter.unusedSimpArgs false
namespace Go.Proofs.Ytdfemompijhohaa
open Go.RowKit Go.Maps
set_option maxRecDepth 100000

theorem tabs_nil (b mb : Nat) (n lim : Int) (w : World) (hB : BookIs w b mb n lim []) (hn : n ≤ 1024) :
    Calls Try.prog 11 #[.pointer (some ⟨b, 0, none⟩)] w fun e w' => ∃ a k, e = .returned (.slice a 0 k) ∧ Below w.heap.size w w' := by
  refine (tabs_any b mb n lim [] w hB hn (by simp)).mono ?_
  rintro e w' ⟨v, T, rfl, hb, hv, _, hp, _⟩
  have hT : T = [] := by have := hp.length_eq; simp at this; exact this
  subst hT
  rcases hv with ⟨_, a, k, rfl⟩ | ⟨g, cap, rfl, _, _, h0, _⟩
  · exact ⟨a, k, rfl, hb⟩
  · simp at h0
theorem known_nil (b mb : Nat) (n lim : Int) (c : CpD) (w : World) (hB : BookIs w b mb n lim []) (hc : c.ok) :
    Calls Try.prog 12 #[.pointer (some ⟨b, 0, none⟩), cpX c] w fun e w' => e = .returned (.bool false) ∧ Below w.heap.size w w' := known_any b mb n lim [] c w hB hc
theorem bz_cp0 (u : World) : (Instr.build 26 #[]).run Try.prog u = .ok (.agg zeC.cells.toArray) u := by kernel_rfl

set_option maxHeartbeats 8000000 in
theorem walk_BalancesBooks (a0 a1 : Int) (w : World) (w0 : (Lit.int .i64 a0).wf = true) (w1 : (Lit.int .i64 a1).wf = true) :
    Calls Try.prog 4 #[.int .i64 a0, .int .i64 a1] w fun e w' => e = .returned (.bool true) ∧ Below w.heap.size w w' := by
  have HA := Lib.hid awake7_any
  clear w0 w1
  by_cases hbad : a0 < 0 ∨ 1024 < a0 ∨ a1 < 1 ∨ 64 < a1
  · have HN := Lib.hid (newb_bad a0 a1 w hbad)
    by_cases h1 : a0 < 0
    · clear hbad
      go_enter Try.func4, Try.ntmps4
      go_wp2_with (first
        | (go_at_call 10; refine HN.out.mono ?_; rintro e w1 ⟨rfl, rfl⟩)
        | (go_at_call 7; refine (HA.out _).mono ?_; rintro e w1 ⟨rfl, hb1⟩; have HB1 := Lib.hid hb1; clear hb1))
      go_ret
      exact ⟨rfl, HB1.out⟩
    by_cases h2 : 1024 < a0
    · clear hbad
      go_enter Try.func4, Try.ntmps4
      go_wp2_with (first
        | (go_at_call 10; refine HN.out.mono ?_; rintro e w1 ⟨rfl, rfl⟩)
        | (go_at_call 7; refine (HA.out _).mono ?_; rintro e w1 ⟨rfl, hb1⟩; have HB1 := Lib.hid hb1; clear hb1))
      go_ret
      exact ⟨rfl, HB1.out⟩
    by_cases h3 : a1 < 1
    · clear hbad
      go_enter Try.func4, Try.ntmps4
      go_wp2_with (first
        | (go_at_call 10; refine HN.out.mono ?_; rintro e w1 ⟨rfl, rfl⟩)
        | (go_at_call 7; refine (HA.out _).mono ?_; rintro e w1 ⟨rfl, hb1⟩; have HB1 := Lib.hid hb1; clear hb1))
      go_ret
      exact ⟨rfl, HB1.out⟩
    have h4 : 64 < a1 := by omega
    clear hbad
    go_enter Try.func4, Try.ntmps4
    go_wp2_with (first
      | (go_at_call 10; refine HN.out.mono ?_; rintro e w1 ⟨rfl, rfl⟩)
      | (go_at_call 7; refine (HA.out _).mono ?_; rintro e w1 ⟨rfl, hb1⟩; have HB1 := Lib.hid hb1; clear hb1))
    go_ret
    exact ⟨rfl, HB1.out⟩
  · have b1 : ¬ a0 < 0 := by omega
    have b2 : ¬ 1024 < a0 := by omega
    have b3 : ¬ a1 < 1 := by omega
    have b4 : ¬ 64 < a1 := by omega
    have HN := Lib.hid (newb_ok a0 a1 w (by omega) (by omega) (by omega) (by omega))
    have HT := Lib.hid (fun u (hu : BookIs u (w.heap.size + 1) w.heap.size a0 a1 []) => tabs_nil _ _ a0 a1 u hu (by omega))
    have HK := Lib.hid (fun u (hu : BookIs u (w.heap.size + 1) w.heap.size a0 a1 []) => known_nil _ _ a0 a1 zeC u hu zeC_ok)
    have HZ := Lib.hid bz_cp0
    obtain ⟨X, hX⟩ : ∃ X, zeC.cells.toArray = X := ⟨_, rfl⟩
    unfold cpX at HK
    rw [hX] at HK HZ
    clear hX hbad
    go_enter Try.func4, Try.ntmps4
    go_wp2_with (first
      | (go_at_call 10; refine HN.out.mono ?_; rintro e w1 ⟨rfl, hk1, hb1⟩; have HK1 := Lib.hid hk1; have HB1 := Lib.hid hb1; clear hk1 hb1)
      | (go_at_call 11; refine (HT.out _ HK1.out).mono ?_; rintro e w2 ⟨a, k, rfl, hb2⟩; have HK2 := Lib.hid (HK1.out.call hb2); have HB2 := Lib.hid (HB1.out.trans (hb2.mono HB1.out.size)); clear hb2)
      | ((with_reducible refine at_build (some 50) ?_); refine wpList_build_g 26 _ rfl #[] (by simp [Act.eval]) (.agg X) (HZ.out _) rfl ?_)
      | (go_at_call 12; refine (HK.out _ HK2.out).mono ?_; rintro e w3 ⟨rfl, hb3⟩; have HB3 := Lib.hid (HB2.out.trans (hb3.mono HB2.out.size)); clear hb3)
      | (go_at_call 7; refine (HA.out _).mono ?_; rintro e w4 ⟨rfl, hb4⟩; have HB4 := Lib.hid (HB3.out.trans (hb4.mono HB3.out.size)); clear hb4))
    go_ret
    exact ⟨rfl, HB4.out⟩

end Go.Proofs.Ytdfemompijhohaa
