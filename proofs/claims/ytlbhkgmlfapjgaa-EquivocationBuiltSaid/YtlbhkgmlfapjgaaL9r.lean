/- EquivocationRange. -/
import Derived.Test.YtlbhkgmlfapjgaaEqB
import Derived.Test.YtlbhkgmlfapjgaaEqC
set_option linter.unusedVariables false

set_option linter.unusedSimpArgs false
namespace Go.Proofs.Ytlbhkgmlfapjgaa
open Go.RowKit

set_option maxRecDepth 100000

theorem same_yes (v1 v2 : Value) (l : List Int) (w : World) (h1 : IntsV w v1 l) (h2 : IntsV w v2 l) :
    Calls Try.prog 13 #[v1, v2] w fun e w' => e = .returned (.bool true) ∧ Below w.heap.size w w' :=
  (sints2 v1 v2 l l w h1 h2).mono fun _ _ h => tells_true h rfl

theorem lit_one {w : World} {g : Nat} {x : Int} {k : Nat} (h : Blk w g #[.int .i64 x]) (hx : -9223372036854775808 ≤ x ∧ x ≤ 9223372036854775807) : IntsV w (.slice (some ⟨g, 0, none⟩) 1 k) [x] := by
  refine ⟨⟨_, 1, _, rfl, rfl, by unfold maxLen; omega, .inr ⟨g, 0, rfl, h.lt, fun i hi => ?_⟩⟩, fun z hz => by simp at hz; rcases hz with rfl; exact hx⟩
  rw [Nat.zero_add, h.cell]
  rcases i with _ | i
  · rfl
  · omega

theorem lit_off {g a l c : Nat} (h : a ≠ g) : Off g (.slice (some ⟨a, 0, none⟩) l c) := fun z l' c' e _ => by cases e; exact h

theorem below_rowS {N g : Nat} {w0 w w' : World} (h : Below N w0 w) (hg : w.grownBy w' (some g)) (hN : N ≤ g) (hs : N ≤ w.heap.size) : Below N w0 w' :=
  ⟨hg.os.trans h.os, hg.tape.trans h.tape, hg.output.trans h.output, Nat.le_trans h.size hg.size, fun k hk => (hg.block k (by omega) (by simp; omega)).trans (h.block k hk)⟩

theorem mem_rng (gs : List Bool) (h : gs.length ≤ 1024) : ∀ x ∈ memS gs, -9223372036854775808 ≤ x ∧ x ≤ 9223372036854775807 := fun x hx => by
  have := memK_mem.1 hx
  omega

/-- Members where the set is empty, and where it is not. -/
theorem members_nil (b g : Nat) (gs : List Bool) (h0 : memS gs = []) (w : World) (hV : SetI w b g gs) :
    Calls Try.prog 23 #[.pointer (some ⟨b, 0, none⟩)] w fun e w' => ∃ a c, e = .returned (.slice a 0 c) ∧ Below w.heap.size w w' := by
  refine (members_any b g gs w hV).mono ?_
  rintro e w' ⟨v', rfl, h1, h2⟩
  rw [h0] at h1
  obtain ⟨a, c, rfl, _⟩ := h1.cap
  exact ⟨a, c, rfl, h2⟩

theorem members_one (b g : Nat) (gs : List Bool) (x : Int) (h0 : memS gs = [x]) (w : World) (hV : SetI w b g gs) :
    Calls Try.prog 23 #[.pointer (some ⟨b, 0, none⟩)] w fun e w' => ∃ s c, e = .returned (.slice (some ⟨s, 0, none⟩) 1 c) ∧ IntsV w' (.slice (some ⟨s, 0, none⟩) 1 c) [x] ∧ w.heap.size ≤ s ∧ s < w'.heap.size ∧ w'.frozen? ⟨s, 0, none⟩ = false ∧ w'.cell? ⟨s, 0, none⟩ = some (.int .i64 x) ∧ Below w.heap.size w w' := by
  refine (members_any b g gs w hV).mono ?_
  rintro e w' ⟨v', rfl, h1, h2⟩
  have hm : ∀ y ∈ [x], -9223372036854775808 ≤ y ∧ y ≤ 9223372036854775807 := by rw [← h0]; exact mem_rng gs hV.len
  rw [h0] at h1
  have hin : Ints .i64 w' v' [x] := h1.ints (by unfold maxLen; simp)
  have hlt := h1.lt
  rcases h1.2 with ⟨rfl, h0'⟩ | ⟨s, cap, cur, rfl, hb, hc, _⟩
  · simp at h0'
  · refine ⟨s, cap, rfl, ⟨hin, hm⟩, hb, (hlt s rfl).2, by simp [World.frozen?, hc], ?_, h2⟩
    obtain ⟨a', n', c', e', _, _, h5⟩ := hin
    cases e'
    rcases h5 with h | ⟨b', o, e'', _, hcc⟩
    · exact absurd h (by simp)
    · cases e''
      have := hcc 0 (by simp)
      simpa using this

theorem first_set {n : Nat} (hn : 0 < n) : punR (List.replicate n false) [0] = ((List.replicate n false).set 0 true, 1) ∧ vlE [0] (List.replicate n false).length = 0 ∧ memS ((List.replicate n false).set 0 true) = [0] ∧ guiV ((List.replicate n false).set 0 true) 0 = true := by
  obtain ⟨m, rfl⟩ : ∃ m, n = m + 1 := ⟨n - 1, by omega⟩
  have hv : vlE [0] (List.replicate (m + 1) false).length = 0 := by
    refine vl_of ?_ ?_
    · simp
    · intro i hi
      obtain rfl : i = 0 := by simpa using hi
      simp
  refine ⟨?_, hv, ?_, ?_⟩
  · unfold punR; rw [if_pos hv]; rfl
  · refine sorted_ext (memK_sorted _ _) (by simp) (fun x => ?_)
    show x ∈ memS _ ↔ _
    rw [memS_mem]
    unfold guiV
    simp only [List.replicate_succ, List.set_cons_zero, Bool.and_eq_true, decide_eq_true_eq, List.mem_singleton]
    constructor
    · rintro ⟨h1, h2⟩
      obtain ⟨k, rfl⟩ : ∃ k : Nat, x = k := ⟨x.toNat, by omega⟩
      rcases k with _ | k
      · rfl
      · simp [List.getD, List.getElem?_replicate] at h2
        split at h2 <;> simp at h2
    · rintro rfl
      exact ⟨by omega, rfl⟩
  · rfl

set_option maxHeartbeats 8000000 in
theorem walk_EquivocationRange (a0 : Int) (w : World) (w0 : (Lit.int .i64 a0).wf = true) :
    Calls Try.prog 7 #[.int .i64 a0] w fun e w' => e = .returned (.bool true) ∧ Below w.heap.size w w' := by
  have HA := Lib.hid awake9_any
  have hwf := wf_i64 w0
  clear w0
  by_cases hbad : a0 < 0 ∨ 1024 < a0
  · have HN := Lib.hid (snew_bad a0 w hbad)
    by_cases h1 : a0 < 0
    · clear hbad
      go_enter Try.func7, Try.ntmps7
      go_wp2_with (first
        | (go_at_call 18; refine HN.out.mono ?_; rintro e w1 ⟨rfl, rfl⟩)
        | (go_at_call 10; refine (HA.out _).mono ?_; rintro e w1 ⟨rfl, hb1⟩; have HB1 := Lib.hid hb1; clear hb1))
      go_ret
      exact ⟨rfl, HB1.out⟩
    have h2 : 1024 < a0 := by omega
    clear hbad
    go_enter Try.func7, Try.ntmps7
    go_wp2_with (first
      | (go_at_call 18; refine HN.out.mono ?_; rintro e w1 ⟨rfl, rfl⟩)
      | (go_at_call 10; refine (HA.out _).mono ?_; rintro e w1 ⟨rfl, hb1⟩; have HB1 := Lib.hid hb1; clear hb1))
    go_ret
    exact ⟨rfl, HB1.out⟩
  obtain ⟨n, rfl⟩ : ∃ n : Nat, a0 = n := ⟨a0.toNat, by omega⟩
  have h1 : ¬ (n : Int) < 0 := by omega
  have h2 : ¬ (1024 : Int) < n := by omega
  have HN := Lib.hid (snew_ok n w (by omega))
  have HM := Lib.hid (fun b g u (hu : SetI u b g (List.replicate n false)) => members_nil b g _ (memS_rep n) u hu)
  clear hbad
  by_cases hn0 : n = 0
  · subst hn0
    go_enter Try.func7, Try.ntmps7
    go_wp2_with (first
      | (go_at_call 18; refine HN.out.mono ?_; rintro e w1 ⟨rfl, hk1, hb1⟩; have HK1 := Lib.hid hk1; have HB1 := Lib.hid hb1; clear hk1 hb1)
      | (go_at_call 23; refine (HM.out _ _ _ HK1.out).mono ?_; rintro e w2 ⟨a2, c2, rfl, hb2⟩; have HB2 := Lib.hid (HB1.out.trans (hb2.mono HB1.out.size)); clear hb2)
      | (go_at_call 10; refine (HA.out _).mono ?_; rintro e w3 ⟨rfl, hb3⟩; have HB3 := Lib.hid (HB2.out.trans (hb3.mono HB2.out.size)); clear hb3))
    go_ret
    exact ⟨rfl, HB3.out⟩
  have hn1 : 0 < n := by omega
  have hq0 : ((n : Int) == 0) = false := by simp; omega
  have HF := Lib.hid (first_set hn1)
  have HP := Lib.hid (fun b g v u (hu : SetI u b g (List.replicate n false)) (hi : IntsV u v [0]) (ho : Off g v) => punish_code b g _ v [0] u hu hi ho)
  rw [HF.out.1, HF.out.2.1] at HP
  obtain ⟨G, hG⟩ : ∃ G, (List.replicate n false).set 0 true = G := ⟨_, rfl⟩
  have HMG : Hid (memS G = [0]) := by show memS G = _; rw [← hG]; exact HF.out.2.2.1
  have HGG : Hid (guiV G 0 = true) := by show guiV G 0 = true; rw [← hG]; exact HF.out.2.2.2
  rw [hG] at HP
  have HM1 := Lib.hid (fun b g u (hu : SetI u b g G) => members_one b g G 0 HMG.out u hu)
  have HO := Lib.hid (fun b g u (hu : SetI u b g G) => guilty_any b g G 0 u hu (by omega))
  rw [HGG.out] at HO
  clear hG HF hn0
  simp only at HP
  go_enter Try.func7, Try.ntmps7
  go_wp2_with (first
    | (go_at_call 10; refine (HA.out _).mono ?_; rintro e w9 ⟨rfl, hb9⟩; have HB9 := Lib.hid (HB8.out.trans (hb9.mono HB8.out.size)); clear hb9)
    | (go_at_call 13; refine (same_yes _ _ [0] _ (HI7.out.below ((Below.refl _ _).alloc (Nat.le_refl _) _)) (lit_one (Blk.new rfl) (by omega))).mono ?_; rintro e w8 ⟨rfl, hb8⟩; have HB8 := Lib.hid ((HB7.out.alloc HB7.out.size _).trans (hb8.mono (HB7.out.alloc HB7.out.size _).size)); clear hb8)
    | (go_at_call 23; have _d := HB6; refine (HM1.out _ _ _ HK6.out).mono ?_; clear _d; rintro e w7 ⟨s7, c7, rfl, hi7, _, _, _, _, hb7⟩; have HI7 := Lib.hid hi7; have HB7 := Lib.hid (HB6.out.trans (hb7.mono HB6.out.size)); clear hb7 hi7)
    | (go_at_call 24; have HG := Lib.hid (setCell_grown w5 sb 0 (.int .i64 5)); have HNE5 := HNE.out; have HK5' := Lib.hid (HK5.out.grown HG.out (by simp; omega) (by simp; omega)); have HB5' := Lib.hid (HB5.out.setCell (p := ⟨sb, 0, none⟩) (show w.heap.size ≤ sb by have := HB4.out.size; omega) (.int .i64 5)); refine (HO.out _ _ _ HK5'.out).mono ?_; rintro e w6 ⟨rfl, rfl⟩; have HK6 := Lib.hid HK5'.out; have HB6 := Lib.hid HB5'.out)
    | (go_at_call 23; have _d := HB4; refine (HM1.out _ _ _ HK4.out).mono ?_; clear _d; rintro e w5 ⟨sb, sc, rfl, _, hsb, hsl, fs5, cs5, hb5⟩; have HK5 := Lib.hid (HK4.out.call hb5); have HB5 := Lib.hid (HB4.out.trans (hb5.mono HB4.out.size)); have HNE : Hid (w.heap.size + 1 < sb) := (by have h1 := HK4.out.blk.lt; show _ < _; omega); clear hb5 hsb)
    | (go_at_call 20; have HBK3 : Hid (Blk (w2.alloc (.cells #[.int .i64 0] 3)) w2.heap.size #[.int .i64 0]) := Blk.new rfl; have HK3 := Lib.hid (HK2.out.grown (World.grownBy_alloc w2 (.cells #[.int .i64 0] 3) none) (by simp) (by simp)); have HB3 := Lib.hid (HB2.out.alloc HB2.out.size (.cells #[.int .i64 0] 3)); refine (HP.out _ _ _ _ HK3.out (lit_one HBK3.out (by omega)) (lit_off (by have := HK2.out.row.lt; omega))).mono ?_; rintro e w4 ⟨rfl, hk4, hg4⟩; have HK4 := Lib.hid hk4; have HB4 := Lib.hid (below_rowS HB3.out hg4 (Nat.le_refl _) HB3.out.size); clear hk4 hg4)
    | (go_at_call 23; have _d := HB1; refine (HM.out _ _ _ HK1.out).mono ?_; clear _d; rintro e w2 ⟨a2, c2, rfl, hb2⟩; have HK2 := Lib.hid (HK1.out.call hb2); have HB2 := Lib.hid (HB1.out.trans (hb2.mono HB1.out.size)); clear hb2)
    | (go_at_call 18; refine HN.out.mono ?_; rintro e w1 ⟨rfl, hk1, hb1⟩; have HK1 := Lib.hid hk1; have HB1 := Lib.hid hb1; clear hk1 hb1))
  go_ret
  exact ⟨rfl, HB9.out⟩
end Go.Proofs.Ytlbhkgmlfapjgaa
