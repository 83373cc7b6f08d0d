/- VotesCopies. -/
import Derived.Test.YtoebkgjlehhbpaaL8t
set_option linter.unusedVariables false

set_option linter.unusedSimpArgs false
namespace Go.Proofs.Ytoebkgjlehhbpaa
open Go.RowKit

set_option maxRecDepth 100000

def twoV (e : Int) (r : List Int) : List VoD := [⟨true, e, r⟩, ⟨true, e, r⟩]

theorem cast_two (e : Int) (r : List Int) : castR (List.replicate 2 zeV) e r [0, 1] = (twoV e r, 2) ∧ vlE [0, 1] (List.replicate 2 zeV).length = 0 := ⟨rfl, rfl⟩

theorem supp_two (e : Int) (r : List Int) : suppK (twoV e r) r (twoV e r).length = [0, 1] := by
  show suppK (twoV e r) r (1 + 1) = [0, 1]
  rw [suppK_yes (vs := twoV e r) (r := r) (k := 1) rfl rfl]
  show suppK (twoV e r) r (0 + 1) ++ _ = [0, 1]
  rw [suppK_yes (vs := twoV e r) (r := r) (k := 0) rfl rfl]; rfl

theorem supp_ints (b g : Nat) (vs : List VoD) (r l : List Int) (hl : suppK vs r vs.length = l) (h0 : 0 < l.length) (w : World) (hV : VtI w b g vs) (hr : IsBytes 32 r) :
    Calls Try.prog 11 #[.pointer (some ⟨b, 0, none⟩), .agg (bytesL r).toArray] w fun e w' => ∃ s c, e = .returned (.slice (some ⟨s, 0, none⟩) l.length c) ∧ IntsV w' (.slice (some ⟨s, 0, none⟩) l.length c) l ∧ w.heap.size ≤ s ∧ s < w'.heap.size ∧ w'.frozen? ⟨s, 0, none⟩ = false ∧ Below w.heap.size w w' := by
  refine (supp_any b g vs r w hV hr).mono ?_
  rintro e w' ⟨v', rfl, h1, h2⟩
  rw [hl] at h1
  have hlen : l.length ≤ 1024 := by rw [← hl]; exact Nat.le_trans (suppK_len _ _ _) hV.len
  have hin : Ints .i64 w' v' l := h1.ints (by unfold maxLen; omega)
  have hlt := h1.lt
  rcases h1.2 with ⟨rfl, h0'⟩ | ⟨s, cap, cur, rfl, hb, hc, _⟩
  · omega
  · refine ⟨s, cap, rfl, ⟨hin, fun x hx => ?_⟩, by omega, (hlt s rfl).2, ?_, h2⟩
    · have := suppK_rng vs r vs.length x (by rw [hl]; exact hx)
      have := hV.len
      omega
    · simp [World.frozen?, hc]

theorem votes_row (b g : Nat) (vs : List VoD) (h0 : 0 < vs.length) (w : World) (hV : VtI w b g vs) :
    Calls Try.prog 9 #[.pointer (some ⟨b, 0, none⟩)] w fun e w' => ∃ s c, e = .returned (.slice (some ⟨s, 0, none⟩) vs.length c) ∧ RowB w' s (vs.map VoD.cells) ∧ w.heap.size ≤ s ∧ Below w.heap.size w w' := by
  refine (votes_any b g vs w hV).mono ?_
  rintro e w' ⟨v', rfl, h1, h2⟩
  obtain ⟨a, c, rfl, _⟩ := h1.shape
  have hs : ∃ s, a = some ⟨s, 0, none⟩ := by
    obtain ⟨Xs, h3, _⟩ := h1
    rcases h3.2 with ⟨e, h⟩ | ⟨s, cap, cur, e, _⟩
    · omega
    · cases e; exact ⟨s, rfl⟩
  obtain ⟨s, rfl⟩ := hs
  obtain ⟨h3, h4, _⟩ := h1.rowB voOK (enc := VoD.cells) (fun h => h.1)
  exact ⟨s, c, rfl, h3, h4, h2⟩

theorem sints_yes (v1 v2 : Value) (l : List Int) (w : World) (h1 : IntsV w v1 l) (h2 : IntsV w v2 l) :
    Calls Try.prog 19 #[v1, v2] w fun e w' => e = .returned (.bool true) ∧ Below w.heap.size w w' :=
  (sints2 v1 v2 l l w h1 h2).mono fun _ _ h => tells_true h rfl

theorem upd_grown {w w' : World} {s : Nat} (h : Upd s w w') : w.grownBy w' (some s) := ⟨h.os, h.tape, h.output, by rw [h.size]; exact Nat.le_refl _, fun k _ hk => h.block k (fun e => hk (by rw [e]))⟩

set_option maxHeartbeats 8000000 in
theorem walk_VotesCopies (a0 : Int) (w : World) (w0 : (Lit.int .i64 a0).wf = true) :
    Calls Try.prog 6 #[.int .i64 a0] w fun e w' => e = .returned (.bool true) ∧ Below w.heap.size w w' := by
  have HA := Lib.hid awake8_any
  have HN := Lib.hid (vnew_ok 2 w (by omega))
  obtain ⟨E, hE⟩ : ∃ E, IntKind.u64.wrap (bits BinOp.and IntKind.i64 a0 7) = E := ⟨_, rfl⟩
  have HE : Hid (0 ≤ E ∧ E ≤ 18446744073709551615) := by show _ ∧ _; rw [← hE]; exact wrap_u64r _
  obtain ⟨r, hr⟩ : ∃ r, rootK 1 = r := ⟨_, rfl⟩
  have HI : Hid (IsBytes 32 r) := by show IsBytes 32 r; rw [← hr]; exact rootK_is 1
  have HR := Lib.hid (fun u => root_k 1 u)
  rw [hr] at HR
  have HVO : Hid ((⟨true, E, r⟩ : VoD).ok) := ⟨HE.out.1, HE.out.2, HI.out⟩
  have F := fun u => field_has ⟨true, E, r⟩ u
  have HC := Lib.hid (fun b g v u => cast_to b g (List.replicate 2 zeV) _ E _ _ r v [0, 1] u (cast_two E r))
  have HV := Lib.hid (fun b g u (hu : VtI u b g (twoV E r)) => votes_row b g _ (by show 0 < 2; omega) u hu)
  have HS := Lib.hid (fun b g u (hu : VtI u b g (twoV E r)) => supp_ints b g _ r [0, 1] (supp_two E r) (by simp) u hu HI.out)
  have HO := Lib.hid (fun b g u => vote_at b g (twoV E r) 0 ⟨true, E, r⟩ u rfl)
  have HZ := Lib.hid bz_vo
  have HZL := Lib.hid (VoD.len zeV_ok)
  have HZ1 := Lib.hid (VoD.one zeV)
  have hi34 : (Try.prog.info? 33).map (·.size) = some 34 := by kernel_rfl
  simp only at F
  obtain ⟨C, hC⟩ : ∃ C, (⟨true, E, r⟩ : VoD).cells.toArray = C := ⟨_, rfl⟩
  rw [hC] at F HO
  obtain ⟨Z, hZ⟩ : ∃ Z, zeV.cells = Z := ⟨_, rfl⟩
  rw [hZ] at HZ HZL HZ1
  obtain ⟨X, hX⟩ : ∃ X, (bytesL r).toArray = X := ⟨_, rfl⟩
  rw [hX] at HR HC HS
  have hlen2 : (twoV E r).length = 2 := rfl
  have hlens : ([0, 1] : List Int).length = 2 := rfl
  rw [hlen2] at HV
  simp only [hlens] at HS
  have HTO : Hid (∀ v ∈ twoV E r, v.ok) := fun v hv => by simp [twoV] at hv; rw [hv]; exact HVO.out
  clear hr hC hZ hX w0
  go_enter Try.func6, Try.ntmps6
  go_wp2_with (first
    | (go_at_call 8; refine (HA.out _).mono ?_; rintro e w12 ⟨rfl, hb12⟩; have HB12 := Lib.hid (HB11.out.trans (hb12.mono HB11.out.size)); clear hb12)
    | (go_at_call 19; refine (sints_yes _ _ [0, 1] _ (HI11.out.below ((Below.refl _ _).alloc (Nat.le_refl _) _)) (ints_two (Blk.new rfl) (by omega) (by omega))).mono ?_; rintro e w11 ⟨rfl, hb11⟩; have HB11 := Lib.hid ((HB10.out.alloc HB10.out.size _).trans (hb11.mono (HB10.out.alloc HB10.out.size _).size)); clear hb11)
    | (go_at_call 11; refine (HS.out _ _ _ HK9.out).mono ?_; rintro e w10 ⟨s10, c10, rfl, hi10, _, _, _, hb10⟩; have HI11 := Lib.hid hi10; have HB10 := Lib.hid (HB9.out.trans (hb10.mono HB9.out.size)); clear hb10 hi10)
    | (go_at_call 12; refine (HR.out _).mono ?_; rintro e w9 ⟨rfl, hb9⟩; have HK9 := Lib.hid (HK8.out.call hb9); have HB9 := Lib.hid (HB8.out.trans (hb9.mono HB8.out.size)); clear hb9)
    | (go_at_call 10; have HG := Lib.hid (setCell_grown w7 sb 0 (.int .i64 9)); have HK7' := Lib.hid (HK7.out.grown HG.out (by have h1 := HNE.out; have h2 := HK4.out.blk.lt; simp; omega) (by have h1 := HNE.out; have h2 := HK4.out.row.lt; simp; omega)); have HB7' := Lib.hid (HB7.out.setCell (p := ⟨sb, 0, none⟩) (show w.heap.size ≤ sb by have := HNE.out; have := HB4.out.size; omega) (.int .i64 9)); refine (HO.out _ _ _ HK7'.out (by omega)).mono ?_; rintro e w8 ⟨rfl, hb8⟩; have HK8 := Lib.hid (HK7'.out.call hb8); have HB8 := Lib.hid (HB7'.out.trans (hb8.mono HB7'.out.size)); clear hb8)
    | ((with_reducible refine at_build (some 46) ?_); refine wpList_build rfl 33 _ rfl #[] (by simp [Act.eval]) (.agg Z.toArray) (HZ.out _) ?_)
    | ((with_reducible refine at_store (.tmp 47) ?_); refine wpList_store_row rfl 33 (.tmp 47) (.tmp 46) rfl lb 34 0 ((twoV E r).map VoD.cells) Z HL6.out (cells34 HTO.out) (by simp [twoV]) (by simp [Act.eval, Act.put]) (by simp [Act.eval, Act.put]) HZL.out hi34 HZ1.out ?_; intro w7 U7 B7; have HK7 := Lib.hid (HK6.out.grown (upd_grown U7) (by have h1 := HNE.out; have h2 := HK4.out.blk.lt; simp; omega) (by have h1 := HNE.out; have h2 := HK4.out.row.lt; simp; omega)); have HB7 := Lib.hid (U7.below HB6.out (by have := HNE.out; have := HB4.out.size; omega)); have cs7 : w7.cell? ⟨sb, 0, none⟩ = some (.int .i64 0) := (World.cell?_of_block (U7.block sb (by have := HNE.out; omega))).trans CS6.out; have fs7 : w7.frozen? ⟨sb, 0, none⟩ = false := (World.frozen?_of_block (U7.block sb (by have := HNE.out; omega))).trans FS6.out; clear U7 B7)
    | (go_at_call 11; refine (HS.out _ _ _ HK5'.out).mono ?_; rintro e w6 ⟨sb, sc, rfl, hi6, hsb, hsb2, hfs, hb6⟩; have HK6 := Lib.hid (HK5'.out.call hb6); have HB6 := Lib.hid (HB5'.out.trans (hb6.mono HB5'.out.size)); have HL6 := Lib.hid (HL5.out.call hb6); have FS6 := Lib.hid hfs; have CS6 : Hid (w6.cell? ⟨sb, 0, none⟩ = some (.int .i64 0)) := (by obtain ⟨⟨a', n', c', e', _, _, hh⟩, _⟩ := hi6; cases e'; rcases hh with h0 | ⟨b', o', e'', _, hc⟩; exact absurd h0 (by omega); cases e''; exact hc 0 (by omega)); have HNE : Hid (w4.heap.size ≤ lb ∧ lb < sb) := (by have h1 := HLB.out; have h2 := HL5.out.lt; show _ ∧ _; omega); clear hb6 hi6 hfs hsb2 hsb)
    | (go_at_call 12; refine (HR.out _).mono ?_; rintro e w5b ⟨rfl, hb5⟩; have HK5' := Lib.hid (HK5.out.call hb5); have HL5 := Lib.hid (HL4.out.call hb5); have HB5' := Lib.hid (HB5.out.trans (hb5.mono HB5.out.size)); clear hb5)
    | (go_at_call 9; refine (HV.out _ _ _ HK4.out).mono ?_; rintro e w5 ⟨lb, lc, rfl, hr5, hlb, hb5⟩; have HK5 := Lib.hid (HK4.out.call hb5); have HB5 := Lib.hid (HB4.out.trans (hb5.mono HB4.out.size)); have HL4 := Lib.hid hr5; have HLB := Lib.hid hlb; clear hb5 hr5 hlb)
    | (go_at_call 14; have HBK3 : Hid (Blk (w2.alloc (.cells #[.int .i64 0, .int .i64 1] 3)) w2.heap.size #[.int .i64 0, .int .i64 1]) := Blk.new rfl; have HK3 := Lib.hid (HK2.out.grown (World.grownBy_alloc w2 (.cells #[.int .i64 0, .int .i64 1] 3) none) (by simp) (by simp)); have HB3 := Lib.hid (HB2.out.alloc HB2.out.size (.cells #[.int .i64 0, .int .i64 1] 3)); refine (HC.out _ _ _ _ HK3.out HE.out HI.out (ints_two HBK3.out (by omega) (by omega)) (off_new (by have := HK2.out.row.lt; omega))).mono ?_; rintro e w4 ⟨rfl, hk4, hg4⟩; have HK4 := Lib.hid hk4; have HB4 := Lib.hid (below_row HB3.out hg4 (Nat.le_refl _) HB3.out.size); clear hk4 hg4)
    | (go_at_call 12; refine (HR.out _).mono ?_; rintro e w2 ⟨rfl, hb2⟩; have HK2 := Lib.hid (HK1.out.call hb2); have HB2 := Lib.hid (HB1.out.trans (hb2.mono HB1.out.size)); clear hb2)
    | (go_at_call 7; refine HN.out.mono ?_; rintro e w1 ⟨rfl, hk1, hb1⟩; have HK1 := Lib.hid hk1; have HB1 := Lib.hid hb1; clear hk1 hb1))
  go_ret
  exact ⟨rfl, HB12.out⟩
end Go.Proofs.Ytoebkgjlehhbpaa
