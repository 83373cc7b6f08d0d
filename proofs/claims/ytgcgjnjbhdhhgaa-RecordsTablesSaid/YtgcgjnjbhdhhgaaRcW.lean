/- awake of stage 5. -/
import Derived.Test.YtgcgjnjbhdhhgaaRcG
import Derived.Test.YtgcgjnjbhdhhgaaCdK
import Derived.Test.YtgcgjnjbhdhhgaaHeldM
set_option linter.unusedVariables false
set_option linter.unusedSimpArgs false
namespace Go.Proofs.Ytgcgjnjbhdhhgaa
open Go.RowKit

/-- An attestation that was written is read. -/
theorem at_back {s : Int} {r : List Int} {c : CpD} {l : List Int} (hs : 0 ≤ s ∧ s ≤ 18446744073709551615) (hr : IsBytes 32 r) (hc : c.ok) (hl : vlE l 1024 = 0) (hl2 : l.length ≤ 1024) (t : List Int) :
    atS ⟨uenc s.toNat ++ (r ++ (c.enc ++ lenc l)) ++ t, 0⟩ = ⟨t, 0⟩ ∧ atL ⟨uenc s.toNat ++ (r ++ (c.enc ++ lenc l)) ++ t, 0⟩ = l ∧ ∀ lv, atD ⟨uenc s.toNat ++ (r ++ (c.enc ++ lenc l)) ++ t, 0⟩ lv = ⟨s, r, c, lv⟩ := by
  have E : uenc s.toNat ++ (r ++ (c.enc ++ lenc l)) ++ t = uenc s.toNat ++ (r ++ (uenc c.n.toNat ++ (c.r ++ (lenc l ++ t)))) := by simp [CpD.enc]
  rw [E]
  obtain ⟨u1, v1⟩ := U_back (m := mxU) hs.1 hs.2 (by unfold mxU; omega) (r ++ (uenc c.n.toNat ++ (c.r ++ (lenc l ++ t))))
  obtain ⟨u2, v2⟩ := W_back hr.1 (uenc c.n.toNat ++ (c.r ++ (lenc l ++ t)))
  obtain ⟨u3, v3⟩ := C_back hc.1 hc.2.1 hc.2.2.1 (lenc l ++ t)
  obtain ⟨u4, v4⟩ := ls_back hl hl2 t
  have hC : vCD ⟨uenc c.n.toNat ++ (c.r ++ (lenc l ++ t)), 0⟩ = c := by
    obtain ⟨h1, h2, h3⟩ := ru_back' c.n.toNat 18446744073709551615 (by have := hc.1; have := hc.2.1; omega) (by omega) (c.r ++ (lenc l ++ t))
    obtain ⟨k1, k2, k3⟩ := tk_back hc.2.2.1 (lenc l ++ t)
    have hE : cpE (uenc c.n.toNat ++ (c.r ++ (lenc l ++ t))) 0 = 0 := by unfold cpE cpR1 cpE1; rw [h2, h3, k3]
    unfold vCD cpN cpR1 cpE1
    simp only [hE, if_true, h1, h2, h3, k1]
    rw [Int.toNat_of_nonneg hc.1]
  refine ⟨?_, ?_, fun lv => ?_⟩
  · unfold atS atS3; rw [v1, v2, v3, v4]
  · unfold atL atS3; rw [v1, v2, v3, u4]
  · unfold atD; rw [v1, v2, u1, u2, hC]

theorem att_len {s : Int} {r : List Int} {c : CpD} {l : List Int} (hs : 0 ≤ s ∧ s ≤ 18446744073709551615) (hr : IsBytes 32 r) (hc : c.ok) (hl : vlE l 1024 = 0) (hl2 : l.length ≤ 1024) : (uenc s.toNat ++ (r ++ (c.enc ++ lenc l))).length ≤ 10340 := by
  have h1 := uenc_len10 (n := s.toNat) (by omega)
  have h2 := CpD.encl hc
  have h3 := lenc_len hl (Nat.le_refl _) (by omega)
  have h4 := hr.1
  simp only [List.length_append]
  unfold lenc
  omega

def bytes70 : List Int := 7 :: zeroR ++ (0 :: zeroR ++ [3, 3, 0, 4])
theorem enc70 : uenc (7 : Int).toNat ++ (zeroR ++ ((⟨0, zeroR⟩ : CpD).enc ++ lenc [3, 4, 9])) = bytes70 := by decide +kernel

def l349 : List Int := [3, 4, 9]
theorem vl349 : vlE l349 1024 = 0 := by decide +kernel

theorem ints349 {w : World} (t : TypeId) : IntsV (w.alloc (.cells #[.int .i64 3, .int .i64 4, .int .i64 9] t)) (.slice (some ⟨w.heap.size, 0, none⟩) 3 3) l349 := by
  have hB : Blk (w.alloc (.cells #[.int .i64 3, .int .i64 4, .int .i64 9] t)) w.heap.size #[.int .i64 3, .int .i64 4, .int .i64 9] := Blk.new rfl
  refine ⟨⟨_, _, _, rfl, rfl, by unfold maxLen; omega, .inr ⟨w.heap.size, 0, rfl, hB.lt, fun i hi => ?_⟩⟩, by simp [l349]⟩
  rw [Nat.zero_add, hB.cell]
  match i, hi with
  | 0, _ => rfl
  | 1, _ => rfl
  | 2, _ => rfl

theorem bytes70_at : ∀ i, i < 4 → bytes70.getD (66 + i) 0 = [3, 3, 0, 4].getD i 0 := by decide +kernel

set_option maxRecDepth 100000 in
set_option maxHeartbeats 8000000 in
theorem awake5 (w : World) : Calls Try.prog 10 #[] w fun e w' => e = .returned (.bool true) ∧ Below w.heap.size w w' := by
  have h7 : (0 : Int) ≤ 7 ∧ (7 : Int) ≤ 18446744073709551615 := by omega
  have hz : zCp.ok := ⟨by show (0 : Int) ≤ 0; omega, by show (0 : Int) ≤ _; omega, zeroR_is⟩
  have D1 := eatt_any 7 zeroR zCp (.slice (some ⟨w.heap.size, 0, none⟩) 3 3) l349 _ h7 zeroR_is hz (ints349 (w := w) 3) (by decide)
  rw [vl349, show uenc (7 : Int).toNat ++ (zeroR ++ (zCp.enc ++ lenc l349)) = bytes70 from enc70] at D1
  have hbk := at_back h7 zeroR_is hz vl349 (by decide) []
  rw [show uenc (7 : Int).toNat ++ (zeroR ++ (zCp.enc ++ lenc l349)) = bytes70 from enc70, List.append_nil] at hbk
  have D2 : Hid (∀ v u, Byt u v bytes70 → Calls Try.prog 19 #[v] u fun en u' => ∃ lv, en = .returned (.tuple #[.agg (flatP [[.int .u64 7], bytesL zeroR, zCp.cells, [lv]]), .int .i64 70, .int .i64 0]) ∧ Ints .i64 u' lv l349 ∧ Below u.heap.size u u') := fun v u h => by
    refine (datt_ok v bytes70 u h (by decide +kernel) (by rw [hbk.1]) (by rw [hbk.2.1]; exact vl349)).mono ?_
    rintro en u' ⟨lv, he, hi, hb⟩
    refine ⟨lv, ?_, by rw [hbk.2.1] at hi; exact hi, hb⟩
    rw [he, hbk.1, hbk.2.2]
    rfl
  clear hbk h7 hz
  have hZ0 : (flatP zAt.parts).size = 67 := rfl
  obtain ⟨Z, hZ⟩ : ∃ Z, Z = flatP zAt.parts := ⟨_, rfl⟩
  rw [← hZ] at hZ0
  obtain ⟨hzz, hst⟩ := zero_array (P := Try.prog) (t := 45) (n := 67) Z (by rw [hZ]; kernel_rfl) hZ0 (by rw [hZ]; kernel_rfl)
  have hzs : ∀ v : Value, flatP [[Value.int .u64 7], bytesL zeroR, zCp.cells, [v]] = (Z.setIfInBounds 0 (.int .u64 7)).setIfInBounds 66 v := fun v => by rw [hZ]; rfl
  rw [hzs] at D1
  have HD1 := Lib.hid D1; clear D1 hzs hZ
  have hZe : (Z = #[]) = False := by
    rw [eq_iff_iff, iff_false]
    intro h
    rw [h] at hZ0
    cases hZ0
  have BX : Hid (∀ lv : Value, lv.oneCell' = true → (flatP [[Value.int .u64 7], bytesL zeroR, zCp.cells, [lv]]).size = 67 ∧ (∀ v ∈ flatP [[Value.int .u64 7], bytesL zeroR, zCp.cells, [lv]], v.oneCell' = true) ∧ (flatP [[Value.int .u64 7], bytesL zeroR, zCp.cells, [lv]])[0]? = some (.int .u64 7) ∧ (flatP [[Value.int .u64 7], bytesL zeroR, zCp.cells, [lv]])[66]? = some lv) := fun lv hlv => by
    refine ⟨rfl, ?_, rfl, rfl⟩
    refine flatP_one fun p hp v hv => ?_
    simp only [List.mem_cons, List.not_mem_nil, or_false] at hp
    rcases hp with rfl | rfl | rfl | rfl
    · rw [List.mem_singleton.1 hv]; rfl
    · exact bytesL_one _ v hv
    · exact CpD.one _ v hv
    · rw [List.mem_singleton.1 hv]; exact hlv
  go_enter Try.func10, Try.ntmps10
  go_wp2_with (first
    | (go_at_call 17; refine HD1.out.mono ?_; rintro e w1 ⟨v1, rfl, hy1, hb1⟩; rw [if_pos rfl] at hy1; have HB1 := Lib.hid (((Below.refl w.heap.size w).alloc (Nat.le_refl _) (.cells #[.int .i64 3, .int .i64 4, .int .i64 9] 3)).trans (hb1.mono (by simp))); obtain ⟨a1, l1, c1, rfl⟩ := hy1.shape; have HY1 := Lib.hid hy1; clear hy1 hb1)
    | (go_at_call 19; refine (D2.out _ _ HY1.out).mono ?_; rintro e w2 ⟨lv, rfl, hi2, hb2⟩; obtain ⟨la, ll, lc, rfl⟩ := ints_shape hi2; have HI2 := Lib.hid hi2; have HB2 := Lib.hid (HB1.out.trans (hb2.mono HB1.out.size)); have HY2 := Lib.hid (HY1.out.below hb2); clear hi2 hb2; have HX := Lib.hid (BX.out (.slice la ll lc) rfl))
    | ((with_reducible refine at_store (.tmp 3) ?_); refine wpList_store_blk rfl 45 (.tmp 3) _ rfl w2.heap.size (flatP [[.int .u64 7], bytesL zeroR, zCp.cells, [.slice la ll lc]]) rfl rfl Z (Blk.new rfl) (by rw [hZ0, HX.out.1]) (by rw [HX.out.1]; kernel_rfl) HX.out.2.1 ?_; intro w3 U3 B3))
  have hb3 : Below w2.heap.size w2 w3 := U3.below ((Below.refl _ w2).alloc (Nat.le_refl _) _) (Nat.le_refl _)
  have hY3 := (HY2.out.below hb3).drew
  have hI3' := HI2.out.below hb3
  have hI3 : Ints .i64 w3.drew (.slice la ll lc) l349 := hI3'
  clear hI3'
  have hB3 : Blk w3.drew w2.heap.size (flatP [[.int .u64 7], bytesL zeroR, zCp.cells, [.slice la ll lc]]) := B3
  have hbl : Below w.heap.size w w3.drew := Below.drewN (n := 1) (HB2.out.trans (hb3.mono HB2.out.size))
  have hX0 := HX.out.2.2.1
  have hX1 := HX.out.2.2.2
  clear HD1 D2 HX HY1 HY2 HI2 HB1 HB2 U3 B3 hb3 hzz hst BX hZ0
  obtain ⟨_, _, _, e', hl1, _, hr1⟩ := hY3.ints
  cases e'
  obtain rfl : l1 = 70 := by rw [← hl1]; decide +kernel
  have hfit := (hY3.fits _ _ _ rfl).1
  have hmax := (hY3.fits _ _ _ rfl).2
  unfold maxLen at hmax
  rcases hr1 with hr1 | ⟨bb, off, rfl, hbb, hc1⟩
  · omega
  obtain ⟨_, _, _, e', hl2, _, hr2⟩ := hI3
  cases e'
  obtain rfl : ll = 3 := by rw [← hl2]; rfl
  rcases hr2 with hr2 | ⟨lb, lo, rfl, hlb, hc2⟩
  · omega
  have hY4 : ∀ u, Below w3.drew.heap.size w3.drew u → Byt u (.slice (some ⟨bb, off + 66, none⟩) 4 (c1 - 66)) [3, 3, 0, 4] := fun u hu => by
    refine ⟨⟨_, _, _, rfl, rfl, by unfold maxLen; omega, .inr ⟨bb, off + 66, rfl, Nat.lt_of_lt_of_le hbb hu.size, fun i hi => ?_⟩⟩, by simp, fun a l c e => by cases e; constructor; omega; unfold maxLen; omega⟩
    rw [hu.cell (p := ⟨bb, off + 66 + i, none⟩) hbb, Nat.add_assoc, hc1 (66 + i) (by omega), bytes70_at i hi]
  obtain ⟨S4, HS4⟩ : ∃ S4, Hid (strOfNums [3, 3, 0, 4] = S4) := ⟨_, rfl⟩
  have cv : ∀ u, Below w3.drew.heap.size w3.drew u → (convert 38 9 (.slice (some ⟨bb, off + 66, none⟩) 4 (c1 - 66))).run Try.prog u = .ok (.string S4) u := fun u hu => by rw [← HS4.out]; exact conv_any (hY4 u hu)
  have hra := (Below.refl w3.drew.heap.size w3.drew).alloc (Nat.le_refl _) (.cells #[.int .u8 3, .int .u8 3, .int .u8 0, .int .u8 4] 5)
  have HF0 : Hid (∀ u, Below w3.drew.heap.size w3.drew u → u.cell? ⟨w2.heap.size, 0, none⟩ = some (.int .u64 7) ∧ u.cell? ⟨w2.heap.size, 66, none⟩ = some (.slice (some ⟨lb, lo, none⟩) 3 lc) ∧ u.cell? ⟨lb, lo + 2, none⟩ = some (.int .i64 9) ∧ (convert 38 9 (.slice (some ⟨bb, off + 66, none⟩) 4 (c1 - 66))).run Try.prog u = .ok (.string S4) u) := fun u hu =>
    ⟨((hB3.call hu).cell 0).trans hX0, ((hB3.call hu).cell 66).trans hX1, (hu.cell (p := ⟨lb, lo + 2, none⟩) hlb).trans (hc2 2 (by omega)), cv u hu⟩
  obtain ⟨y, hy⟩ : ∃ y, w3.drew.alloc (.cells #[.int .u8 3, .int .u8 3, .int .u8 0, .int .u8 4] 5) = y := ⟨_, rfl⟩
  have hrb := hra
  rw [hy] at hrb
  have hBy : Blk y w3.drew.heap.size (bytesV [3, 3, 0, 4]) := by rw [← hy]; exact Blk.new rfl
  have HF1 : Hid (∀ u, Below y.heap.size y u → u.cell? ⟨w2.heap.size, 0, none⟩ = some (.int .u64 7) ∧ u.cell? ⟨w2.heap.size, 66, none⟩ = some (.slice (some ⟨lb, lo, none⟩) 3 lc) ∧ u.cell? ⟨lb, lo + 2, none⟩ = some (.int .i64 9) ∧ (convert 38 9 (.slice (some ⟨bb, off + 66, none⟩) 4 (c1 - 66))).run Try.prog u = .ok (.string S4) u ∧ (convert 38 9 (.slice (some ⟨w3.heap.size, 0, none⟩) 4 4)).run Try.prog u = .ok (.string S4) u) := fun u hu => by
    have hu2 := bel0 hrb hu
    obtain ⟨f1, f2, f3, f4⟩ := HF0.out u hu2
    refine ⟨f1, f2, f3, f4, ?_⟩
    rw [← HS4.out]
    exact conv_any (Byt.of_blk (xs := [3, 3, 0, 4]) (g := w3.drew.heap.size) (hBy.call hu) (by unfold maxLen; simp) (by simp))
  have HBL := Lib.hid hbl; clear hbl
  have HRB := Lib.hid hrb; clear hrb hra
  have HY := Lib.hid hy; clear hy hBy
  clear hY3 hB3 cv hY4 hX0 hX1 hc1 hc2 hl1 hl2
  have h70 : (70 : Int) ≤ (c1 : Int) := by omega
  have h66 : (66 : Int) ≤ (c1 : Int) := by omega
  have h66n : 66 ≤ c1 := by omega
  have hce : (c1 = 66) = False := by rw [eq_iff_iff, iff_false]; omega
  refine wp_region_held_drew (S := fun u => Below w3.drew.heap.size w3.drew u) (by kernel_rfl) (Below.refl _ _) (fun _ => ?_)
  (try simp only [Act.put, List.setIfInBounds_toArray, List.set_cons_zero, List.set_cons_succ])
  refine wpAnyH_take (i := 0) (oi := ⟨some 18, _, _, _, _, _⟩) (v := ?_) rfl (by kernel_rfl) (by kernel_rfl) (by kernel_rfl) (fun _ _ _ h => h) (Or.inl ⟨by rfl, ?_⟩) (Below.refl _ _) ?_
  rotate_left
  · (intro wz hz; clear hz; go_simp; first | done | with_reducible rfl | rfl)
  (try simp only [Act.put, List.setIfInBounds_toArray, List.set_cons_zero, List.set_cons_succ])
  refine wpAnyH_take (i := 1) (oi := ⟨some 19, _, _, _, _, _⟩) (v := ?_) rfl (by kernel_rfl) (by kernel_rfl) (by kernel_rfl) (fun _ _ _ h => h) (Or.inl ⟨by rfl, ?_⟩) (Below.refl _ _) ?_
  rotate_left
  · (intro wz hz; clear hz; go_simp; first | done | with_reducible rfl | rfl)
  (try simp only [Act.put, List.setIfInBounds_toArray, List.set_cons_zero, List.set_cons_succ])
  refine wpAnyH_take (i := 2) (oi := ⟨some 20, _, _, _, _, _⟩) (v := ?_) rfl (by kernel_rfl) (by kernel_rfl) (by kernel_rfl) (fun _ _ _ h => h) (Or.inl ⟨by rfl, ?_⟩) (Below.refl _ _) ?_
  rotate_left
  · (intro wz hz; clear hz; go_simp; first | done | with_reducible rfl | rfl)
  (try simp only [Act.put, List.setIfInBounds_toArray, List.set_cons_zero, List.set_cons_succ])
  refine wpAnyH_take (i := 3) (oi := ⟨some 21, _, _, _, _, _⟩) (v := ?_) rfl (by kernel_rfl) (by kernel_rfl) (by kernel_rfl) (fun _ _ _ h => h) (Or.inl ⟨by rfl, ?_⟩) (Below.refl _ _) ?_
  rotate_left
  · (intro wz hz; clear hz; go_simp; first | done | with_reducible rfl | rfl)
  (try simp only [Act.put, List.setIfInBounds_toArray, List.set_cons_zero, List.set_cons_succ])
  refine wpAnyH_take (i := 4) (oi := ⟨some 22, _, _, _, _, _⟩) (v := ?_) rfl (by kernel_rfl) (by kernel_rfl) (by kernel_rfl) (fun _ _ _ h => h) (Or.inl ⟨by rfl, ?_⟩) (Below.refl _ _) ?_
  rotate_left
  · (intro wz hz; clear hz; go_simp; first | done | with_reducible rfl | rfl)
  (try simp only [Act.put, List.setIfInBounds_toArray, List.set_cons_zero, List.set_cons_succ])
  refine wpAnyH_take (i := 5) (oi := ⟨some 23, _, _, _, _, _⟩) (v := ?_) rfl (by kernel_rfl) (by kernel_rfl) (by kernel_rfl) (fun _ _ _ h => h) (Or.inl ⟨by rfl, ?_⟩) (Below.refl _ _) ?_
  rotate_left
  · (intro wz hz; clear hz; go_simp; first | done | with_reducible rfl | rfl)
  (try simp only [Act.put, List.setIfInBounds_toArray, List.set_cons_zero, List.set_cons_succ])
  refine wpAnyH_take (i := 6) (oi := ⟨some 24, _, _, _, _, _⟩) (v := ?_) rfl (by kernel_rfl) (by kernel_rfl) (by kernel_rfl) (fun _ _ _ h => h) (Or.inl ⟨by rfl, ?_⟩) (Below.refl _ _) ?_
  rotate_left
  · (intro wz hz; clear hz; go_simp; first | done | with_reducible rfl | rfl)
  (try simp only [Act.put, List.setIfInBounds_toArray, List.set_cons_zero, List.set_cons_succ])
  refine wpAnyH_take (i := 7) (oi := ⟨some 25, _, _, _, _, _⟩) (v := ?_) rfl (by kernel_rfl) (by kernel_rfl) (by kernel_rfl) (fun _ _ _ h => h) (Or.inl ⟨by rfl, ?_⟩) (Below.refl _ _) ?_
  rotate_left
  · (intro wz hz; clear hz; go_simp; first | done | with_reducible rfl | rfl)
  (try simp only [Act.put, List.setIfInBounds_toArray, List.set_cons_zero, List.set_cons_succ])
  refine wpAnyH_take (i := 8) (oi := ⟨some 26, _, _, _, _, _⟩) (v := ?_) rfl (by kernel_rfl) (by kernel_rfl) (by kernel_rfl) (fun _ _ _ h => h) (Or.inl ⟨by rfl, ?_⟩) (Below.refl _ _) ?_
  rotate_left
  · (intro wz hz; clear hz; go_simp; first | done | with_reducible rfl | rfl)
  (try simp only [Act.put, List.setIfInBounds_toArray, List.set_cons_zero, List.set_cons_succ])
  refine wpAnyH_take (i := 9) (oi := ⟨some 27, _, _, _, _, _⟩) (v := ?_) rfl (by kernel_rfl) (by kernel_rfl) (by kernel_rfl) (fun _ _ _ h => h) (Or.inl ⟨by rfl, ?_⟩) (Below.refl _ _) ?_
  rotate_left
  · (intro wz hz; clear hz; go_simp; first | done | with_reducible rfl | rfl)
  (try simp only [Act.put, List.setIfInBounds_toArray, List.set_cons_zero, List.set_cons_succ])
  refine wpAnyH_take (i := 10) (oi := ⟨some 28, _, _, _, _, _⟩) (v := ?_) rfl (by kernel_rfl) (by kernel_rfl) (by kernel_rfl) (fun _ _ _ h => h) (Or.inl ⟨by rfl, ?_⟩) (Below.refl _ _) ?_
  rotate_left
  · (intro wz hz; clear hz; go_simp; first | done | with_reducible rfl | rfl)
  (try simp only [Act.put, List.setIfInBounds_toArray, List.set_cons_zero, List.set_cons_succ])
  refine wpAnyH_take (i := 11) (oi := ⟨some 29, _, _, _, _, _⟩) (v := ?_) rfl (by kernel_rfl) (by kernel_rfl) (by kernel_rfl) (fun _ _ _ h => h) (Or.inl ⟨by rfl, ?_⟩) (Below.refl _ _) ?_
  rotate_left
  · (intro wz hz; clear hz; go_simp; first | done | with_reducible rfl | rfl)
  (try simp only [Act.put, List.setIfInBounds_toArray, List.set_cons_zero, List.set_cons_succ])
  refine wpAnyH_take (i := 12) (oi := ⟨some 30, _, _, _, _, _⟩) (v := ?_) rfl (by kernel_rfl) (by kernel_rfl) (by kernel_rfl) (fun _ _ _ h => h) (Or.inl ⟨by rfl, ?_⟩) (Below.refl _ _) ?_
  rotate_left
  · (intro wz hz; clear hz; go_simp; first | done | with_reducible rfl | rfl)
  (try simp only [Act.put, List.setIfInBounds_toArray, List.set_cons_zero, List.set_cons_succ])
  refine wpAnyH_take (i := 13) (oi := ⟨some 31, _, _, _, _, _⟩) (v := ?_) rfl (by kernel_rfl) (by kernel_rfl) (by kernel_rfl) (fun _ _ _ h => h) (Or.inl ⟨by rfl, ?_⟩) (Below.refl _ _) ?_
  rotate_left
  · (intro wz hz; clear hz; go_simp; first | done | with_reducible rfl | rfl)
  (try simp only [Act.put, List.setIfInBounds_toArray, List.set_cons_zero, List.set_cons_succ])
  refine wpAnyH_take (i := 14) (oi := ⟨some 32, _, _, _, _, _⟩) (v := ?_) rfl (by kernel_rfl) (by kernel_rfl) (by kernel_rfl) (fun _ _ _ h => h) (Or.inl ⟨by rfl, ?_⟩) (Below.refl _ _) ?_
  rotate_left
  · (intro wz hz; clear hz; go_simp; first | done | with_reducible rfl | rfl)
  (try simp only [Act.put, List.setIfInBounds_toArray, List.set_cons_zero, List.set_cons_succ])
  refine wpAnyH_take (i := 15) (oi := ⟨some 33, _, _, _, _, _⟩) (v := ?_) rfl (by kernel_rfl) (by kernel_rfl) (by kernel_rfl) (fun _ _ _ h => h) (Or.inl ⟨by rfl, ?_⟩) (Below.refl _ _) ?_
  rotate_left
  · (intro wz hz; clear hz; go_simp; first | done | with_reducible rfl | rfl)
  (try simp only [Act.put, List.setIfInBounds_toArray, List.set_cons_zero, List.set_cons_succ])
  refine wpAnyH_take (i := 16) (oi := ⟨some 34, _, _, _, _, _⟩) (v := ?_) rfl (by kernel_rfl) (by kernel_rfl) (by kernel_rfl) (fun _ _ _ h => h) (Or.inl ⟨by rfl, ?_⟩) (Below.refl _ _) ?_
  rotate_left
  · (intro wz hz; clear hz; go_simp; first | done | with_reducible rfl | rfl)
  (try simp only [Act.put, List.setIfInBounds_toArray, List.set_cons_zero, List.set_cons_succ])
  refine wpAnyH_take (i := 17) (oi := ⟨some 35, _, _, _, _, _⟩) (v := ?_) rfl (by kernel_rfl) (by kernel_rfl) (by kernel_rfl) (fun _ _ _ h => h) (Or.inl ⟨by rfl, ?_⟩) (Below.refl _ _) ?_
  rotate_left
  · (intro wz hz; clear hz; go_simp; first | done | with_reducible rfl | rfl)
  (try simp only [Act.put, List.setIfInBounds_toArray, List.set_cons_zero, List.set_cons_succ])
  refine wpAnyH_take (i := 18) (oi := ⟨some 36, _, _, _, _, _⟩) (v := ?_) rfl (by kernel_rfl) (by kernel_rfl) (by kernel_rfl) (fun _ _ _ h => h) (Or.inl ⟨by rfl, ?_⟩) (Below.refl _ _) ?_
  rotate_left
  · (intro wz hz; clear hz; go_simp; first | done | with_reducible rfl | rfl)
  (try simp only [Act.put, List.setIfInBounds_toArray, List.set_cons_zero, List.set_cons_succ])
  refine wpAnyH_take (i := 19) (oi := ⟨some 37, _, _, _, _, _⟩) (v := ?_) rfl (by kernel_rfl) (by kernel_rfl) (by kernel_rfl) (fun _ _ _ h => h) (Or.inl ⟨by rfl, ?_⟩) (Below.refl _ _) ?_
  rotate_left
  · (intro wz hz; clear hz; go_simp; first | done | with_reducible rfl | rfl)
  (try simp only [Act.put, List.setIfInBounds_toArray, List.set_cons_zero, List.set_cons_succ])
  refine wpAnyH_take (i := 20) (oi := ⟨some 38, _, _, _, _, _⟩) (v := ?_) rfl (by kernel_rfl) (by kernel_rfl) (by kernel_rfl) (fun _ _ _ h => h) (Or.inl ⟨by rfl, ?_⟩) (Below.refl _ _) ?_
  rotate_left
  · (intro wz hz; clear hz; go_simp; first | done | with_reducible rfl | rfl)
  (try simp only [Act.put, List.setIfInBounds_toArray, List.set_cons_zero, List.set_cons_succ])
  refine wpAnyH_take (i := 21) (oi := ⟨some 39, _, _, _, _, _⟩) (v := .int .i64 66) rfl (by kernel_rfl) (by kernel_rfl) (by kernel_rfl) (fun _ _ _ h => h) (Or.inl ⟨by rfl, ?_⟩) (Below.refl _ _) ?_
  · (intro wz hz; clear hz; go_simp; first | done | with_reducible rfl | rfl)
  (try simp only [Act.put, List.setIfInBounds_toArray, List.set_cons_zero, List.set_cons_succ])
  refine wpAnyH_take (i := 22) (oi := ⟨some 40, _, _, _, _, _⟩) (v := .slice (some ⟨bb, off + 66, none⟩) 4 (c1 - 66)) rfl (by kernel_rfl) (by kernel_rfl) (by kernel_rfl) (fun _ _ _ h => h) (Or.inl ⟨by rfl, ?_⟩) (Below.refl _ _) ?_
  · (intro wz hz; clear hz; go_simp; first | done | with_reducible rfl | rfl)
  (try simp only [Act.put, List.setIfInBounds_toArray, List.set_cons_zero, List.set_cons_succ])
  refine wpAnyH_take (i := 23) (oi := ⟨some 41, _, _, _, _, _⟩) (v := ?_) rfl (by kernel_rfl) (by kernel_rfl) (by kernel_rfl) (fun _ _ _ h => h) (Or.inl ⟨by rfl, ?_⟩) (Below.refl _ _) ?_
  rotate_left
  · (intro wz hz; obtain ⟨f1, f2, f3, f4⟩ := HF0.out wz hz; clear hz; go_simp; first | done | with_reducible rfl | rfl)
  (try simp only [Act.put, List.setIfInBounds_toArray, List.set_cons_zero, List.set_cons_succ])
  refine wpAnyH_ready (rs := [24]) (by kernel_rfl) (by simp) ?_
  refine AllReadyH.cons rfl (fun K hK => ?_) AllReadyH.nil
  go_simp
  refine held_grow hK ((Below.refl w3.drew.heap.size w3.drew).alloc (Nat.le_refl _) (.cells #[.int .u8 3, .int .u8 3, .int .u8 0, .int .u8 4] 5)) (fun u => Below y.heap.size y u) (fun u hu => bel0 HRB.out hu) ?_
  change wpAnyH _ _ _ _ _ _ _ _ (w3.drew.alloc (.cells #[.int .u8 3, .int .u8 3, .int .u8 0, .int .u8 4] 5))
  rw [HY.out]
  clear hK K
  (try simp only [Act.put, List.setIfInBounds_toArray, List.set_cons_zero, List.set_cons_succ])
  refine wpAnyH_take (i := 25) (oi := ⟨some 43, _, _, _, _, _⟩) (v := ?_) rfl (by kernel_rfl) (by kernel_rfl) (by kernel_rfl) (fun _ _ _ h => h) (Or.inl ⟨by rfl, ?_⟩) (Below.refl _ _) ?_
  rotate_left
  · (intro wz hz; obtain ⟨f1, f2, f3, f4, f5⟩ := HF1.out wz hz; clear hz; go_simp; first | done | with_reducible rfl | rfl)
  (try simp only [Act.put, List.setIfInBounds_toArray, List.set_cons_zero, List.set_cons_succ])
  refine wpAnyH_take (i := 26) (oi := ⟨some 44, _, _, _, _, _⟩) (v := ?_) rfl (by kernel_rfl) (by kernel_rfl) (by kernel_rfl) (fun _ _ _ h => h) (Or.inl ⟨by rfl, ?_⟩) (Below.refl _ _) ?_
  rotate_left
  · (intro wz hz; clear hz; go_simp; first | done | with_reducible rfl | rfl)
  (try simp only [Act.put, List.setIfInBounds_toArray, List.set_cons_zero, List.set_cons_succ])
  refine wpAnyH_take (i := 27) (oi := ⟨some 45, _, _, _, _, _⟩) (v := ?_) rfl (by kernel_rfl) (by kernel_rfl) (by kernel_rfl) (fun _ _ _ h => h) (Or.inl ⟨by rfl, ?_⟩) (Below.refl _ _) ?_
  rotate_left
  · (intro wz hz; clear hz; go_simp; first | done | with_reducible rfl | rfl)
  (try simp only [Act.put, List.setIfInBounds_toArray, List.set_cons_zero, List.set_cons_succ])
  refine wpAnyH_take (i := 28) (oi := ⟨some 46, _, _, _, _, _⟩) (v := ?_) rfl (by kernel_rfl) (by kernel_rfl) (by kernel_rfl) (fun _ _ _ h => h) (Or.inl ⟨by rfl, ?_⟩) (Below.refl _ _) ?_
  rotate_left
  · (intro wz hz; clear hz; go_simp; first | done | with_reducible rfl | rfl)
  (try simp only [Act.put, List.setIfInBounds_toArray, List.set_cons_zero, List.set_cons_succ])
  refine wpAnyH_take (i := 29) (oi := ⟨some 47, _, _, _, _, _⟩) (v := ?_) rfl (by kernel_rfl) (by kernel_rfl) (by kernel_rfl) (fun _ _ _ h => h) (Or.inl ⟨by rfl, ?_⟩) (Below.refl _ _) ?_
  rotate_left
  · (intro wz hz; clear hz; go_simp; first | done | with_reducible rfl | rfl)
  (try simp only [Act.put, List.setIfInBounds_toArray, List.set_cons_zero, List.set_cons_succ])
  refine wpAnyH_take (i := 30) (oi := ⟨some 48, _, _, _, _, _⟩) (v := ?_) rfl (by kernel_rfl) (by kernel_rfl) (by kernel_rfl) (fun _ _ _ h => h) (Or.inl ⟨by rfl, ?_⟩) (Below.refl _ _) ?_
  rotate_left
  · (intro wz hz; obtain ⟨f1, f2, f3, f4, f5⟩ := HF1.out wz hz; clear hz; go_simp; first | done | with_reducible rfl | rfl)
  (try simp only [Act.put, List.setIfInBounds_toArray, List.set_cons_zero, List.set_cons_succ])
  refine wpAnyH_take (i := 31) (oi := ⟨some 49, _, _, _, _, _⟩) (v := ?_) rfl (by kernel_rfl) (by kernel_rfl) (by kernel_rfl) (fun _ _ _ h => h) (Or.inl ⟨by rfl, ?_⟩) (Below.refl _ _) ?_
  rotate_left
  · (intro wz hz; clear hz; go_simp; first | done | with_reducible rfl | rfl)
  (try simp only [Act.put, List.setIfInBounds_toArray, List.set_cons_zero, List.set_cons_succ])
  refine wpAnyH_take (i := 32) (oi := ⟨some 50, _, _, _, _, _⟩) (v := ?_) rfl (by kernel_rfl) (by kernel_rfl) (by kernel_rfl) (fun _ _ _ h => h) (Or.inl ⟨by rfl, ?_⟩) (Below.refl _ _) ?_
  rotate_left
  · (intro wz hz; clear hz; go_simp; first | done | with_reducible rfl | rfl)
  (try simp only [Act.put, List.setIfInBounds_toArray, List.set_cons_zero, List.set_cons_succ])
  refine wpAnyH_take (i := 33) (oi := ⟨some 51, _, _, _, _, _⟩) (v := ?_) rfl (by kernel_rfl) (by kernel_rfl) (by kernel_rfl) (fun _ _ _ h => h) (Or.inl ⟨by rfl, ?_⟩) (Below.refl _ _) ?_
  rotate_left
  · (intro wz hz; clear hz; go_simp; first | done | with_reducible rfl | rfl)
  (try simp only [Act.put, List.setIfInBounds_toArray, List.set_cons_zero, List.set_cons_succ])
  refine wpAnyH_take (i := 34) (oi := ⟨some 52, _, _, _, _, _⟩) (v := ?_) rfl (by kernel_rfl) (by kernel_rfl) (by kernel_rfl) (fun _ _ _ h => h) (Or.inl ⟨by rfl, ?_⟩) (Below.refl _ _) ?_
  rotate_left
  · (intro wz hz; clear hz; go_simp; first | done | with_reducible rfl | rfl)
  (try simp only [Act.put, List.setIfInBounds_toArray, List.set_cons_zero, List.set_cons_succ])
  refine wpAnyH_take (i := 35) (oi := ⟨some 53, _, _, _, _, _⟩) (v := ?_) rfl (by kernel_rfl) (by kernel_rfl) (by kernel_rfl) (fun _ _ _ h => h) (Or.inl ⟨by rfl, ?_⟩) (Below.refl _ _) ?_
  rotate_left
  · (intro wz hz; obtain ⟨f1, f2, f3, f4, f5⟩ := HF1.out wz hz; clear hz; go_simp; first | done | with_reducible rfl | rfl)
  (try simp only [Act.put, List.setIfInBounds_toArray, List.set_cons_zero, List.set_cons_succ])
  refine wpAnyH_take (i := 36) (oi := ⟨some 54, _, _, _, _, _⟩) (v := ?_) rfl (by kernel_rfl) (by kernel_rfl) (by kernel_rfl) (fun _ _ _ h => h) (Or.inl ⟨by rfl, ?_⟩) (Below.refl _ _) ?_
  rotate_left
  · (intro wz hz; clear hz; go_simp; first | done | with_reducible rfl | rfl)
  (try simp only [Act.put, List.setIfInBounds_toArray, List.set_cons_zero, List.set_cons_succ])
  refine wpAnyH_take (i := 37) (oi := ⟨some 55, _, _, _, _, _⟩) (v := ?_) rfl (by kernel_rfl) (by kernel_rfl) (by kernel_rfl) (fun _ _ _ h => h) (Or.inl ⟨by rfl, ?_⟩) (Below.refl _ _) ?_
  rotate_left
  · (intro wz hz; clear hz; go_simp; first | done | with_reducible rfl | rfl)
  (try simp only [Act.put, List.setIfInBounds_toArray, List.set_cons_zero, List.set_cons_succ])
  refine wpAnyH_take (i := 38) (oi := ⟨some 56, _, _, _, _, _⟩) (v := ?_) rfl (by kernel_rfl) (by kernel_rfl) (by kernel_rfl) (fun _ _ _ h => h) (Or.inl ⟨by rfl, ?_⟩) (Below.refl _ _) ?_
  rotate_left
  · (intro wz hz; clear hz; go_simp; first | done | with_reducible rfl | rfl)
  (try simp only [Act.put, List.setIfInBounds_toArray, List.set_cons_zero, List.set_cons_succ])
  refine wpAnyH_take (i := 39) (oi := ⟨some 57, _, _, _, _, _⟩) (v := ?_) rfl (by kernel_rfl) (by kernel_rfl) (by kernel_rfl) (fun _ _ _ h => h) (Or.inl ⟨by rfl, ?_⟩) (Below.refl _ _) ?_
  rotate_left
  · (intro wz hz; clear hz; go_simp; first | done | with_reducible rfl | rfl)
  (try simp only [Act.put, List.setIfInBounds_toArray, List.set_cons_zero, List.set_cons_succ])
  refine wpAnyH_take (i := 40) (oi := ⟨some 58, _, _, _, _, _⟩) (v := ?_) rfl (by kernel_rfl) (by kernel_rfl) (by kernel_rfl) (fun _ _ _ h => h) (Or.inl ⟨by rfl, ?_⟩) (Below.refl _ _) ?_
  rotate_left
  · (intro wz hz; clear hz; go_simp; first | done | with_reducible rfl | rfl)
  (try simp only [Act.put, List.setIfInBounds_toArray, List.set_cons_zero, List.set_cons_succ])
  refine wpAnyH_take (i := 41) (oi := ⟨some 59, _, _, _, _, _⟩) (v := ?_) rfl (by kernel_rfl) (by kernel_rfl) (by kernel_rfl) (fun _ _ _ h => h) (Or.inl ⟨by rfl, ?_⟩) (Below.refl _ _) ?_
  rotate_left
  · (intro wz hz; obtain ⟨f1, f2, f3, f4, f5⟩ := HF1.out wz hz; clear hz; go_simp; first | done | with_reducible rfl | rfl)
  (try simp only [Act.put, List.setIfInBounds_toArray, List.set_cons_zero, List.set_cons_succ])
  refine wpAnyH_take (i := 42) (oi := ⟨some 60, _, _, _, _, _⟩) (v := ?_) rfl (by kernel_rfl) (by kernel_rfl) (by kernel_rfl) (fun _ _ _ h => h) (Or.inl ⟨by rfl, ?_⟩) (Below.refl _ _) ?_
  rotate_left
  · (intro wz hz; clear hz; go_simp; first | done | with_reducible rfl | rfl)
  (try simp only [Act.put, List.setIfInBounds_toArray, List.set_cons_zero, List.set_cons_succ])
  refine wpAnyH_take (i := 43) (oi := ⟨some 61, _, _, _, _, _⟩) (v := ?_) rfl (by kernel_rfl) (by kernel_rfl) (by kernel_rfl) (fun _ _ _ h => h) (Or.inl ⟨by rfl, ?_⟩) (Below.refl _ _) ?_
  rotate_left
  · (intro wz hz; obtain ⟨f1, f2, f3, f4, f5⟩ := HF1.out wz hz; clear hz; go_simp; first | done | with_reducible rfl | rfl)
  (try simp only [Act.put, List.setIfInBounds_toArray, List.set_cons_zero, List.set_cons_succ])
  refine wpAnyH_take (i := 44) (oi := ⟨some 62, _, _, _, _, _⟩) (v := ?_) rfl (by kernel_rfl) (by kernel_rfl) (by kernel_rfl) (fun _ _ _ h => h) (Or.inl ⟨by rfl, ?_⟩) (Below.refl _ _) ?_
  rotate_left
  · (intro wz hz; clear hz; go_simp; first | done | with_reducible rfl | rfl)
  (try simp only [Act.put, List.setIfInBounds_toArray, List.set_cons_zero, List.set_cons_succ])
  refine wpAnyH_take (i := 45) (oi := ⟨some 63, _, _, _, _, _⟩) (v := ?_) rfl (by kernel_rfl) (by kernel_rfl) (by kernel_rfl) (fun _ _ _ h => h) (Or.inl ⟨by rfl, ?_⟩) (Below.refl _ _) ?_
  rotate_left
  · (intro wz hz; clear hz; go_simp; first | done | with_reducible rfl | rfl)
  (try simp only [Act.put, List.setIfInBounds_toArray, List.set_cons_zero, List.set_cons_succ])
  refine wpAnyH_ready (rs := [46]) (by kernel_rfl) (by simp) ?_
  refine AllReadyH.cons rfl (fun K hK => ?_) AllReadyH.nil
  go_simp
  refine hK.out _ _ (Below.refl _ _) (fun _ => ?_)
  clear hK K
  (try simp only [Act.put, List.setIfInBounds_toArray, List.set_cons_zero, List.set_cons_succ])
  refine wpAnyH_done (by kernel_rfl) ?_ _
  go_wp2_with fail
  go_ret
  exact ⟨rfl, HBL.out.trans (HRB.out.mono HBL.out.size)⟩

end Go.Proofs.Ytgcgjnjbhdhhgaa
