/- Stage 4: the walks of CodecSums and CodecSumsDiffer. -/
import Derived.Test.YtjlfacdmfcbjfaaCdK
import Derived.RegionTactic
import Derived.ChangeAlike
set_option linter.unusedVariables false
namespace Go.Proofs.Ytjlfacdmfcbjfaa
open Go.RowKit

set_option maxHeartbeats 1000000 in
theorem walk_CodecSums (a0 : Option Addr) (len0 cap0 : Nat) (z0 : List Int) (w : World) (w0 : IsRow .u8 w a0 len0 cap0 z0) :
    Calls Try.prog 4 #[.slice a0 len0 cap0] w fun e w' => e = .returned (.bool true) ∧ Below w.heap.size w w' := by
  have h := w0.byt
  have hm : len0 ≤ 9223372036854775807 := by
    have := h.fits _ _ _ rfl
    unfold maxLen at this; omega
  have D1 := Lib.hid (cksum_any _ _ w h)
  have D2 := Lib.hid (rcksum_any _ _ w h)
  clear h w0
  by_cases hb : 3000 < len0
  · go_enter Try.func4, Try.ntmps4
    go_wp2_with (go_at_call 9; refine (awake4 _).mono ?_; rintro e w1 ⟨rfl, hb1⟩)
    go_ret
    exact ⟨rfl, hb1⟩
  · go_enter Try.func4, Try.ntmps4
    go_wp2_with (first
      | (go_at_call 22; refine D1.out.mono ?_; rintro e w1 ⟨rfl, rfl⟩)
      | (go_at_call 23; refine D2.out.mono ?_; rintro e w1 ⟨rfl, rfl⟩)
      | (go_at_call 9; refine (awake4 _).mono ?_; rintro e w1 ⟨rfl, hb1⟩))
    go_ret
    exact ⟨rfl, hb1⟩

theorem and24 (n : Int) : ∃ r : Nat, r ≤ 16777215 ∧ bits .and .i64 n 16777215 = (r : Int) := by
  have e3 : (BitVec.ofInt IntKind.i64.bits n &&& BitVec.ofInt IntKind.i64.bits 16777215).toNat = (BitVec.ofInt 64 n).toNat &&& 16777215 := by
    rw [BitVec.toNat_and]; rfl
  have hle : (BitVec.ofInt 64 n).toNat &&& 16777215 ≤ 16777215 := Nat.and_le_right
  refine ⟨_, hle, ?_⟩
  show IntKind.i64.wrap ((BitVec.ofInt IntKind.i64.bits n &&& BitVec.ofInt IntKind.i64.bits 16777215).toNat : Int) = _
  rw [e3, IntKind.wrap_i64]
  omega

/-- One cell of an owned row is written. -/
theorem Own.set {w : World} {B g l c j : Nat} {xs : List Int} {x : Int} (h : Own w B (.slice (some ⟨g, 0, none⟩) l c) xs) (hl : xs.length = l) (hj : j < l) : Own (w.setCell ⟨g, j, none⟩ (.int .u8 x)) B (.slice (some ⟨g, 0, none⟩) l c) (xs.set j x) := by
  unfold Own at *
  rw [hl] at h
  have h2 := h.stored j (.int .u8 x)
  rw [List.length_set, hl, List.map_set]
  exact h2.1

theorem Own.drew {w : World} {B : Nat} {v : Value} {xs : List Int} (h : Own w B v xs) : Own w.drew B v xs := h

theorem Own.at {w : World} {B g l c j : Nat} {xs : List Int} (h : Own w B (.slice (some ⟨g, 0, none⟩) l c) xs) (hl : xs.length = l) (hj : j < l) : w.cell? ⟨g, j, none⟩ = some (.int .u8 (xs.getD j 0)) := by
  unfold Own at h
  rw [hl] at h
  rw [h.cellAt j (by omega)]
  simp [List.getD, List.getElem?_eq_getElem (show j < xs.length by omega)]

theorem Own.unfrozen {w : World} {B g l c : Nat} {xs : List Int} (h : Own w B (.slice (some ⟨g, 0, none⟩) l c) xs) (hl : xs.length = l) (j : Nat) : w.frozen? ⟨g, j, none⟩ = false := by
  unfold Own at h
  rw [hl] at h
  exact h.frozenAt j

theorem Own.row {w : World} {B : Nat} {v : Value} {xs : List Int} (h : Own w B v xs) (hp : 0 < xs.length) : ∃ g c, v = .slice (some ⟨g, 0, none⟩) xs.length c ∧ B ≤ g ∧ g < w.heap.size := by
  obtain ⟨g, cap, e, h1, h2⟩ := World.ownsRow.form h hp
  exact ⟨g, cap, e, h1, h2⟩

set_option maxRecDepth 100000 in
set_option maxHeartbeats 4000000 in
theorem walk_CodecSumsDiffer (a0 : Option Addr) (len0 cap0 : Nat) (z0 : List Int) (a1 a2 : Int) (w : World) (w0 : IsRow .u8 w a0 len0 cap0 z0) (w1 : (Lit.int .i64 a1).wf = true) (w2 : (Lit.int .u8 a2).wf = true) :
    Calls Try.prog 5 #[.slice a0 len0 cap0, .int .i64 a1, .int .u8 a2] w fun e w' => e = .returned (.bool true) ∧ Below w.heap.size w w' := by
  have h := w0.byt
  clear w0
  obtain ⟨z, hz⟩ : ∃ z, z0.take len0 = z := ⟨_, rfl⟩
  rw [hz] at h
  clear hz
  obtain ⟨a', l', c', e', hl, _, hr⟩ := h.ints
  cases e'
  have hm := (h.fits _ _ _ rfl)
  unfold maxLen at hm
  have r1 := wf_i64 w1
  have r2 := wf_u8 w2
  clear w1 w2
  by_cases h0 : len0 = 0
  · subst h0
    go_enter Try.func5, Try.ntmps5
    go_wp2_with (go_at_call 9; refine (awake4 _).mono ?_; rintro e w1 ⟨rfl, hb1⟩)
    go_ret
    exact ⟨rfl, hb1⟩
  have hne : ((len0 : Int) == 0) = false := by simp; omega
  by_cases hb : 3000 < len0
  · go_enter Try.func5, Try.ntmps5
    go_wp2_with (go_at_call 9; refine (awake4 _).mono ?_; rintro e w1 ⟨rfl, hb1⟩)
    go_ret
    exact ⟨rfl, hb1⟩
  have HL := Lib.hid hl
  rcases hr with hr | ⟨b, off, rfl, hbl, hc⟩
  · omega
  obtain ⟨r, hr24, hand⟩ := and24 a1
  obtain ⟨q, hq⟩ : ∃ q : Nat, q = r % len0 := ⟨_, rfl⟩
  have hql : q < len0 := by rw [hq]; exact Nat.mod_lt _ (by omega)
  have hrem : (r : Int) % (len0 : Int) = (q : Int) := by rw [hq]; omega
  have hrem2 : (r : Int).tmod (len0 : Int) = (q : Int) := by rw [Int.tmod_eq_emod_of_nonneg (by omega)]; exact hrem
  have hzl : z.length ≤ 3000 := by omega
  have hzp : 0 < z.length := by omega
  obtain ⟨v, hv, hvx, hxor⟩ := xor_odd (z.getD q 0).toNat a2.toNat (by have := h.at (k := q) (by omega); omega) (by omega)
  have hxr := h.at (k := q) (by omega)
  rw [Int.toNat_of_nonneg hxr.1, Int.toNat_of_nonneg r2.1] at hxor
  have hset := ck_set (xs := z) (i := q) (v := v) (by omega) hxr (by omega) (by omega)
  have hckne : (ck (z.set q v) == ck z) = false := by simpa using hset
  have HZ := Lib.hid h; clear h
  have HC := Lib.hid hc
  have HQ := Lib.hid hq; clear hq
  have HSET : Hid (∀ x ∈ z.set q (v : Int), 0 ≤ x ∧ x ≤ 255) := by
    intro x hx
    rcases List.mem_or_eq_of_mem_set hx with hx | rfl
    · exact HZ.out.rng x hx
    · omega
  clear hset hc hl
  have hx0 := hxr.1
  have hx1 := hxr.2
  have hcell := HC.out q hql
  obtain ⟨x, HX⟩ : ∃ x, Hid (x = z.getD q 0) := ⟨_, rfl⟩
  rw [← HX.out] at hcell hxor hx0 hx1
  clear hxr hvx
  obtain ⟨o, ho⟩ : ∃ o, bits .or .u8 a2 1 = o := ⟨_, rfl⟩
  rw [ho] at hxor
  have HB := Lib.hid (show 3000 ≥ len0 by omega)
  go_enter Try.func5, Try.ntmps5
  go_wp2_with (first
    | ((with_reducible refine at_app _ (.tmp 24) ?_); refine wpList_app _ _ rfl rfl w.heap.size _ [] rfl (Own.nil _ _) _ z rfl HZ.out (by simp only [List.length_nil]; omega) (Nat.le_refl _) ?_; intro v1 w1 ho1 hg1
       rw [List.nil_append] at ho1
       obtain ⟨g1, cp1, rfl, hg1B, hg1L⟩ := ho1.row hzp
       rw [HL.out] at ho1
       have hb1 := Below.own (Below.refl _ w) hg1 (Own.nil _ w.heap.size) (Nat.le_refl _) (Nat.le_refl _)
       clear hg1
       rw [HL.out]
       have g11 := ho1.at HL.out hql
       have g12 := ho1.unfrozen HL.out
       rw [← HX.out] at g11
       have HO1 := Lib.hid (ho1.set (x := (v : Int)) HL.out hql)
       have hcap1 := (ho1.fits _ _ _ rfl)
       unfold maxLen at hcap1
       clear ho1
       have HB1 := Lib.hid hb1; clear hb1)
    | (go_at_call_of 22 cp1; refine (cksum_any _ (z.set q (v : Int)) _ (HO1.out.byt (by rw [List.length_set]; unfold maxLen; omega) HSET.out)).mono ?_; rintro e w2 ⟨rfl, rfl⟩)
    | (go_at_call_of 22 cap0; refine (cksum_any _ z _ (HZ.out.below (HB1.out.setCell (p := ⟨g1, q, none⟩) hg1B _))).mono ?_; rintro e w2 ⟨rfl, rfl⟩))
  have HBW := Lib.hid (HB1.out.setCell (p := ⟨g1, q, none⟩) hg1B (.int .u8 (v : Int)))
  clear hckne HO1 HB1 g11 g12 hcell HSET HQ hand hxor ho
  generalize w1.setCell ⟨g1, q, none⟩ (.int .u8 (v : Int)) = W at HBW ⊢
  have hw1 : IntKind.i64.wrap ((q : Int) + 1) = (q : Int) + 1 := by rw [IntKind.wrap_i64]; omega
  have hw2 : ((q : Int) + 1).toNat = q + 1 := by omega
  have hq0 : (0 : Int) ≤ (q : Int) := by omega
  have hq2 : (q : Int) < (len0 : Int) := by omega
  have hZW := HZ.out.below HBW.out
  obtain ⟨_, _, _, e', _, _, hr⟩ := hZW.ints
  cases e'
  rcases hr with hr | ⟨_, _, e', hblW, hc⟩
  · omega
  cases e'
  have cx := hc q hql
  rw [← HX.out] at cx
  have HZW := Lib.hid hZW; clear hZW
  have HCW := Lib.hid hc; clear hc
  by_cases hq1 : q + 1 < len0
  case neg =>
    have hd : decide ((q : Int) + 1 < (len0 : Int)) = false := by simp; omega
    have hd2 : ¬ ((q : Int) + 1 < (len0 : Int)) := by omega
    go_quiet (fail)
    go_wp2_with (go_at_call 9; refine (awake4 _).mono ?_; rintro e w3 ⟨rfl, hb3⟩)
    go_ret
    exact ⟨rfl, HBW.out.trans ((Below.drewN (Below.refl _ _)).trans (hb3.mono (by have := HBW.out.size; simp; omega)))⟩
  case pos =>
    have cy := HCW.out (q + 1) hq1
    obtain ⟨y, HY⟩ : ∃ y, Hid (y = z.getD (q + 1) 0) := ⟨_, rfl⟩
    rw [← HY.out] at cy
    have hd : decide ((q : Int) + 1 < (len0 : Int)) = true := by simp; omega
    have hq3 : (q : Int) + 1 < (len0 : Int) := by omega
    by_cases hxy : x = y
    case pos =>
      have hne2 : (x != y) = false := by simpa using hxy
      clear hxy
      go_quiet (fail)
      go_wp2_with (go_at_call 9; refine (awake4 _).mono ?_; rintro e w3 ⟨rfl, hb3⟩)
      go_ret
      exact ⟨rfl, HBW.out.trans ((Below.drewN (Below.refl _ _)).trans (hb3.mono (by have := HBW.out.size; simp; omega)))⟩
    case neg =>
      have hne2 : (x != y) = true := by simpa using hxy
      have hsw := ck_swp (xs := z) (i := q) (by omega) (HZ.out.at (by omega)) (HZ.out.at (by omega)) (by rw [← HX.out, ← HY.out]; exact hxy)
      have hckne : (ck (swp z q) == ck z) = false := by simpa using hsw
      have HSW : Hid (swp z q = (z.set q y).set (q + 1) x) := by show _ = _; unfold swp; rw [← HX.out, ← HY.out]
      have HSR : Hid (∀ u ∈ swp z q, 0 ≤ u ∧ u ≤ 255) := by
        have hyr := HZ.out.at (k := q + 1) (by omega)
        rw [← HY.out] at hyr
        intro u hu
        rw [HSW.out] at hu
        rcases List.mem_or_eq_of_mem_set hu with hu | rfl
        · rcases List.mem_or_eq_of_mem_set hu with hu | rfl
          · exact HZ.out.rng u hu
          · exact hyr
        · omega
      clear hxy hsw
      go_quiet (fail)
      generalize hW2 : W.drewN _ = W2
      have HBW2 : Hid (Below w.heap.size w W2) := by rw [← hW2]; exact Below.drewN HBW.out
      clear hW2 cx cy HCW HZW
      go_wp2_with (first
        | ((with_reducible refine at_app _ (.tmp 58) ?_); refine wpList_app _ _ rfl rfl w.heap.size _ [] rfl (Own.nil _ _) _ z rfl (HZ.out.below HBW2.out) (by simp only [List.length_nil]; omega) HBW2.out.size ?_; intro v3 w3 ho3 hg3
           rw [List.nil_append] at ho3
           obtain ⟨g3, cp3, rfl, hg3B, hg3L⟩ := ho3.row hzp
           rw [HL.out] at ho3
           have hb3 := Below.own HBW2.out hg3 (Own.nil _ w.heap.size) (Nat.le_refl _) HBW2.out.size
           clear hg3
           rw [HL.out]
           have g31 := ho3.at HL.out hql
           have g32 := ho3.at HL.out hq1
           have g33 := ho3.unfrozen HL.out
           rw [← HX.out] at g31
           rw [← HY.out] at g32
           have hcap3 := (ho3.fits _ _ _ rfl)
           unfold maxLen at hcap3
           have HO3 := Lib.hid ho3
           clear ho3
           have HB3 := Lib.hid hb3; clear hb3)
        | fail)
      go_region
      have HO4 := Lib.hid ((HO3.out.set (x := y) HL.out hql).set (x := x) (by rw [List.length_set]; exact HL.out) hq1)
      rw [← HSW.out] at HO4
      have HO4 := Lib.hid HO4.out.drew
      have HB4 := Lib.hid (Below.drewN (n := 1) ((HB3.out.setCell (p := ⟨g3, q, none⟩) hg3B (.int .u8 y)).setCell (p := ⟨g3, q + 1, none⟩) hg3B (.int .u8 x)))
      clear g31 g32 g33
      go_wp2_with (first
        | (go_at_call_of 22 cp3; refine (cksum_any _ (swp z q) _ (HO4.out.byt (by rw [swp_len]; unfold maxLen; omega) HSR.out)).mono ?_; rintro e w5 ⟨rfl, rfl⟩)
        | (go_at_call_of 22 cap0; refine (cksum_any _ z _ (HZ.out.below HB4.out)).mono ?_; rintro e w5 ⟨rfl, rfl⟩)
        | (go_at_call 9; refine (awake4 _).mono ?_; rintro e w6 ⟨rfl, hb6⟩))
      go_ret
      exact ⟨rfl, HB4.out.trans (hb6.mono HB4.out.size)⟩

end Go.Proofs.Ytjlfacdmfcbjfaa
