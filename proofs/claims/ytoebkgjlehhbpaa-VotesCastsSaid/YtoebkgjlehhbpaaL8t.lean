/- VotesTables. -/
import Derived.Test.YtoebkgjlehhbpaaVoE
set_option linter.unusedVariables false

set_option linter.unusedSimpArgs false
namespace Go.Proofs.Ytoebkgjlehhbpaa
open Go.RowKit

set_option maxRecDepth 100000

theorem voteV_zero (n : Nat) (i : Int) : voteV (List.replicate n zeV) i = zeV := by
  unfold voteV; split
  · rfl
  · simp [List.getD, List.getElem?_replicate]; split <;> rfl

theorem suppK_zero (n : Nat) (r : List Int) : ∀ k, suppK (List.replicate n zeV) r k = []
  | 0 => rfl
  | k + 1 => by
    have e : (List.replicate n zeV).getD k zeV = zeV := by have := voteV_zero n k; rw [voteV_nat] at this; exact this
    rw [suppK, suppK_zero n r k, e, if_neg (by intro h; cases h.1)]; rfl

theorem bz_root (u : World) : (Instr.build 31 #[]).run Try.prog u = .ok (.agg (bytesL zeroR).toArray) u := by kernel_rfl

theorem eq_zeV (w : World) : Sem.run Try.prog (Op.equalIn 10000 33 (.agg zeV.cells.toArray) (.agg zeV.cells.toArray)) w = .ok true w := by
  obtain ⟨r, h1, h2⟩ := eq_vo zeV_ok zeV_ok
  rw [h1 w, h2.2 rfl]

theorem votes_len (b g : Nat) (vs : List VoD) (n : Nat) (hn : vs.length = n) (w : World) (hV : VtI w b g vs) :
    Calls Try.prog 9 #[.pointer (some ⟨b, 0, none⟩)] w fun e w' => ∃ a c, e = .returned (.slice a n c) ∧ Below w.heap.size w w' := by
  refine (votes_any b g vs w hV).mono ?_
  rintro e w' ⟨v', rfl, h1, h2⟩
  obtain ⟨a, c, rfl, _⟩ := h1.shape
  exact ⟨a, c, by rw [hn], h2⟩

theorem supp_len (b g : Nat) (vs : List VoD) (r : List Int) (n : Nat) (hn : (suppK vs r vs.length).length = n) (w : World) (hV : VtI w b g vs) (hr : IsBytes 32 r) :
    Calls Try.prog 11 #[.pointer (some ⟨b, 0, none⟩), .agg (bytesL r).toArray] w fun e w' => ∃ a c, e = .returned (.slice a n c) ∧ Below w.heap.size w w' := by
  refine (supp_any b g vs r w hV hr).mono ?_
  rintro e w' ⟨v', rfl, h1, h2⟩
  rcases h1.2 with ⟨rfl, h0⟩ | ⟨g, cap, cur, rfl, _⟩
  · exact ⟨none, 0, by rw [← hn, h0], h2⟩
  · exact ⟨_, cap, by rw [hn], h2⟩

set_option maxHeartbeats 8000000 in
theorem walk_VotesTables (a0 : Int) (w : World) (w0 : (Lit.int .i64 a0).wf = true) :
    Calls Try.prog 3 #[.int .i64 a0] w fun e w' => e = .returned (.bool true) ∧ Below w.heap.size w w' := by
  have HA := Lib.hid awake8_any
  have hwf := wf_i64 w0
  clear w0
  by_cases hbad : a0 < 0 ∨ 1024 < a0
  · have HN := Lib.hid (vnew_bad a0 w hbad)
    by_cases h1 : a0 < 0
    · clear hbad
      go_enter Try.func3, Try.ntmps3
      go_wp2_with (first
        | (go_at_call 7; refine HN.out.mono ?_; rintro e w1 ⟨rfl, rfl⟩)
        | (go_at_call 8; refine (HA.out _).mono ?_; rintro e w1 ⟨rfl, hb1⟩; have HB1 := Lib.hid hb1; clear hb1))
      go_ret
      exact ⟨rfl, HB1.out⟩
    have h2 : 1024 < a0 := by omega
    clear hbad
    go_enter Try.func3, Try.ntmps3
    go_wp2_with (first
      | (go_at_call 7; refine HN.out.mono ?_; rintro e w1 ⟨rfl, rfl⟩)
      | (go_at_call 8; refine (HA.out _).mono ?_; rintro e w1 ⟨rfl, hb1⟩; have HB1 := Lib.hid hb1; clear hb1))
    go_ret
    exact ⟨rfl, HB1.out⟩
  obtain ⟨n, rfl⟩ : ∃ n : Nat, a0 = n := ⟨a0.toNat, by omega⟩
  have h1 : ¬ (n : Int) < 0 := by omega
  have h2 : ¬ (1024 : Int) < n := by omega
  have hq : ((n : Int) != (n : Int)) = false := by simp
  have HN := Lib.hid (vnew_ok n w (by omega))
  have HV := Lib.hid (fun b g u (hu : VtI u b g (List.replicate n zeV)) => votes_len b g _ n (List.length_replicate ..) u hu)
  have HO := Lib.hid (fun b g i u (hu : VtI u b g (List.replicate n zeV)) hi => voteV_zero n i ▸ vote_any b g _ i u hu hi)
  have HS := Lib.hid (fun b g u (hu : VtI u b g (List.replicate n zeV)) => supp_len b g _ zeroR 0 (by rw [suppK_zero]; rfl) u hu zeroR_is)
  have HZ := Lib.hid bz_vo
  have HZR := Lib.hid bz_root
  have EQ := eq_zeV
  obtain ⟨Z, hZ⟩ : ∃ Z, zeV.cells.toArray = Z := ⟨_, rfl⟩
  obtain ⟨R, hR⟩ : ∃ R, (bytesL zeroR).toArray = R := ⟨_, rfl⟩
  rw [hZ] at HO HZ EQ
  rw [hR] at HS HZR
  clear hZ hR hbad
  go_enter Try.func3, Try.ntmps3
  go_wp2_with (first
    | ((with_reducible refine at_build (some 40) ?_); refine wpList_build_g 33 _ rfl #[] (by simp [Act.eval]) (.agg Z) (HZ.out _) rfl ?_)
    | ((with_reducible refine at_build (some 45) ?_); refine wpList_build_g 33 _ rfl #[] (by simp [Act.eval]) (.agg Z) (HZ.out _) rfl ?_)
    | ((with_reducible refine at_build (some 52) ?_); refine wpList_build_g 33 _ rfl #[] (by simp [Act.eval]) (.agg Z) (HZ.out _) rfl ?_)
    | ((with_reducible refine at_build (some 57) ?_); refine wpList_build_g 31 _ rfl #[] (by simp [Act.eval]) (.agg R) (HZR.out _) rfl ?_)
    | (go_at_call 8; refine (HA.out _).mono ?_; rintro e w9 ⟨rfl, hb9⟩; have HB9 := Lib.hid (HB6.out.trans (hb9.mono HB6.out.size)); clear hb9)
    | (go_at_call 11; refine (HS.out _ _ _ HK5.out).mono ?_; rintro e w6 ⟨a6, c6, rfl, hb6⟩; have HB6 := Lib.hid (HB5.out.trans (hb6.mono HB5.out.size)); clear hb6)
    | (go_at_call 10; refine (HO.out _ _ _ _ HK4.out (by omega)).mono ?_; rintro e w5 ⟨rfl, hb5⟩; have HK5 := Lib.hid (HK4.out.call hb5); have HB5 := Lib.hid (HB4.out.trans (hb5.mono HB4.out.size)); clear hb5)
    | (go_at_call 10; refine (HO.out _ _ _ _ HK3.out (by omega)).mono ?_; rintro e w4 ⟨rfl, hb4⟩; have HK4 := Lib.hid (HK3.out.call hb4); have HB4 := Lib.hid (HB3.out.trans (hb4.mono HB3.out.size)); clear hb4)
    | (go_at_call 10; refine (HO.out _ _ _ _ HK2.out (by omega)).mono ?_; rintro e w3 ⟨rfl, hb3⟩; have HK3 := Lib.hid (HK2.out.call hb3); have HB3 := Lib.hid (HB2.out.trans (hb3.mono HB2.out.size)); clear hb3)
    | (go_at_call 9; refine (HV.out _ _ _ HK1.out).mono ?_; rintro e w2 ⟨a2, c2, rfl, hb2⟩; have HK2 := Lib.hid (HK1.out.call hb2); have HB2 := Lib.hid (HB1.out.trans (hb2.mono HB1.out.size)); clear hb2)
    | (go_at_call 7; refine HN.out.mono ?_; rintro e w1 ⟨rfl, hk1, hb1⟩; have HK1 := Lib.hid hk1; have HB1 := Lib.hid hb1; clear hk1 hb1))
  go_ret
  exact ⟨rfl, HB9.out⟩
end Go.Proofs.Ytoebkgjlehhbpaa
