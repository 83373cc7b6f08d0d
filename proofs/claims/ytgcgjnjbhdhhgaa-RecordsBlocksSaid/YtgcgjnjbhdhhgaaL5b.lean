/- The walk of RecordsBlocks. -/
import Derived.Test.YtgcgjnjbhdhhgaaRcI
import Derived.Test.YtgcgjnjbhdhhgaaRcJ
import Derived.Test.YtgcgjnjbhdhhgaaRcU
import Derived.Test.YtgcgjnjbhdhhgaaRcW
set_option linter.unusedVariables false
set_option linter.unusedSimpArgs false
namespace Go.Proofs.Ytgcgjnjbhdhhgaa
open Go.RowKit

set_option maxRecDepth 100000 in
set_option maxHeartbeats 16000000 in
theorem blk_walk (x : BkD) (a1 : Option Addr) (n1 c1 : Nat) (tl : List Int) (w : World) (h : x.ok) (hY : Byt w (.slice a1 n1 c1) tl) :
    Calls Try.prog 4 #[.agg (flatP x.parts), .slice a1 n1 c1] w fun e w' => e = .returned (.bool true) ∧ Below w.heap.size w w' := by
  obtain ⟨_, _, _, e', htl, hm1, _⟩ := hY.ints
  cases e'
  unfold maxLen at hm1
  obtain ⟨hby, hln⟩ := byt_encs h
  have hX0 : (flatP x.parts).size = 238 := by rw [flatP_size, List.length_flatten, BkD.lens h]; rfl
  have hX1 := BkD.one x
  have DE := fun u => eblk_any x u h
  have DR := fun u => rblk_any x u h
  have EQ := eq_blk h
  have hbk := bk_back h tl
  obtain ⟨ys, hys⟩ : ∃ ys, x.enc = ys := ⟨_, rfl⟩
  rw [hys] at hby hln DE DR hbk
  have D2 : Hid (tl.length ≤ 100 → ∀ v u, Byt u v (ys ++ tl) → Calls Try.prog 14 #[v] u fun en u' => en = .returned (.tuple #[.agg (flatP x.parts), .int .i64 (ys.length : Nat), .int .i64 0]) ∧ Below u.heap.size u u') := fun h100 v u hv => by
    have := dblk_any v (ys ++ tl) u hv (by rw [List.length_append]; omega)
    rw [hbk.1] at this
    refine this.mono ?_
    rintro en u' ⟨he, hb⟩
    refine ⟨?_, hb⟩
    rw [he]
    simp only [finX, finE, finU, ne_eq, not_true_eq_false, if_false, if_true, List.length_append]
    rw [show flatP (bkV ⟨ys ++ tl, 0⟩).parts = flatP x.parts by rw [hbk.2]]
    congr 6
    omega
  clear hbk hys
  obtain ⟨X, HX⟩ : ∃ X, Hid (flatP x.parts = X) := ⟨_, rfl⟩
  rw [HX.out] at hX0 hX1 EQ DE DR D2 ⊢
  have HDE := Lib.hid DE; clear DE
  have HDR := Lib.hid DR; clear DR
  have HEQ := Lib.hid EQ; clear EQ
  have HX1 := Lib.hid hX1; clear hX1
  have HBY := Lib.hid hby; clear hby
  have HIX : Hid ((Try.prog.info? 37).map (·.size) = some X.size) := by show _ = _; rw [hX0]; kernel_rfl
  have B0X : Hid (Blk (w.alloc (.cells X 37)) w.heap.size X) := Blk.new rfl
  have HB0 := Lib.hid ((Below.refl w.heap.size w).alloc (Nat.le_refl _) (.cells X 37))
  have DA := Lib.hid awake5
  obtain ⟨ny, HN⟩ : ∃ ny, Hid (ys.length = ny) := ⟨_, rfl⟩
  rw [HN.out] at hln D2
  have HTL := Lib.hid htl
  have HY := Lib.hid hY; clear hY
  clear h
  by_cases h100 : n1 ≤ 100
  case neg =>
    have h100' : 100 < n1 := by omega
    clear h100 htl
    go_enter Try.func4, Try.ntmps4
    go_wp2_with (go_at_call 10; refine (DA.out _).mono ?_; rintro e u1 ⟨rfl, hb1⟩)
    go_ret
    exact ⟨rfl, HB0.out.trans (hb1.mono HB0.out.size)⟩
  have HD2 := Lib.hid (D2.out (by omega)); clear D2
  clear htl
  obtain ⟨St, HST⟩ : ∃ St, Hid (strOfNums ys = St) := ⟨_, rfl⟩
  have hZ0 : (flatP zBk.parts).size = 238 := rfl
  obtain ⟨Z, hZ⟩ : ∃ Z, Z = flatP zBk.parts := ⟨_, rfl⟩
  rw [← hZ] at hZ0
  obtain ⟨hzz, hst⟩ := zero_array (P := Try.prog) (t := 37) (n := 238) Z (by rw [hZ]; kernel_rfl) hZ0 (by rw [hZ]; kernel_rfl)
  clear hZ
  go_enter Try.func4, Try.ntmps4
  go_wp2_with (first
    | ((with_reducible refine at_store (.tmp 6) ?_); refine wpList_store_blk rfl 37 (.tmp 6) _ rfl u4.heap.size X rfl rfl Z (Blk.new rfl) (by rw [hZ0, hX0]) HIX.out HX1.out ?_; intro u5 U5 B5; have hb5 : Below u4.heap.size u4 u5 := U5.below ((Below.refl _ u4).alloc (Nat.le_refl _) _) (Nat.le_refl _); have K5 := Lib.hid (K4.out.call hb5); have HB5 := Lib.hid (HB4.out.trans (hb5.mono HB4.out.size)); have BY5 := Lib.hid B5; have HE5 := Lib.hid (HE4.out.below hb5); clear U5 B5 hb5)
    | (go_at_call 14; refine (HD2.out _ _ HO3B.out).mono ?_; rintro e u4 ⟨rfl, hb4⟩; have K4 := Lib.hid (K3.out.call hb4); have HB4 := Lib.hid (HB3.out.trans (hb4.mono HB3.out.size)); have HE4 := Lib.hid (HE3.out.below hb4); clear hb4)
    | ((with_reducible refine at_app _ _ ?_); refine wpList_appAt _ _ rfl rfl u1.heap.size v2 ([] ++ ys) rfl HO2.out _ tl rfl HT2.out (by rw [List.nil_append, HN.out, HTL.out]; omega) hs2 ?_; intro v3 u3 ho3 hg3 ha3; have hb3 := Below.own HBU2.out hg3 HO2.out (Nat.le_refl _) hs2; have HO3B := Lib.hid (ho3.byt (by rw [List.nil_append, List.length_append, HN.out, HTL.out]; unfold maxLen; omega) (by intro y hy; rw [List.nil_append] at hy; rcases List.mem_append.1 hy with hy | hy; exact HBY.out y hy; exact HY.out.rng y hy)); rw [List.nil_append] at HO3B; have K3 := Lib.hid (K1.out.call hb3); have HB3 := Lib.hid (HB1.out.trans (hb3.mono HB1.out.size)); have HE3 := Lib.hid (HE1.out.below hb3); clear ho3 hg3 ha3 hb3)
    | ((with_reducible refine at_app _ _ ?_); refine wpList_appAt _ _ rfl rfl u1.heap.size (.slice none 0 0) [] rfl (Own.nil _ _) _ ys rfl HE1.out (by simp only [List.length_nil]; rw [HN.out]; omega) (Nat.le_refl _) ?_; intro v2 u2 ho2 hg2 ha2; have hb2 : Below u1.heap.size u1 u2 := (Below.refl _ _).grown hg2 (Nat.le_refl _) (fun k hk => by cases hk); have HO2 := Lib.hid ho2; have HBU2 := Lib.hid hb2; have hs2 := hb2.size; have HT2 := Lib.hid (HY.out.below (HB1.out.trans (hb2.mono HB1.out.size))); clear ho2 hg2 ha2 hb2)
    | (go_at_call 13; refine (HDE.out _).mono ?_; rintro e u1 ⟨v1, rfl, hy1, hb1⟩; obtain ⟨va, vn, vc, rfl⟩ := hy1.shape; obtain ⟨_, _, _, e', hvn, _, _⟩ := hy1.ints; cases e'; obtain rfl : vn = ny := by rw [← hvn, HN.out]
       have HE1 := Lib.hid hy1; have K1 := Lib.hid (B0X.out.call hb1); have HB1 := Lib.hid (HB0.out.trans (hb1.mono HB0.out.size)); clear hy1 hb1 hvn)
    | ((with_reducible refine at_load (.tmp 2) ?_); refine wpList_load_g 37 (.tmp 2) rfl w.heap.size rfl X _ B0X.out Try.underlying37 rfl HIX.out rfl ?_))
  obtain ⟨L, hL⟩ : ∃ L : List Value, X = L.toArray := ⟨X.toList, by simp⟩
  have hbw : w.heap.size < u5.heap.size := K5.out.lt
  have hbv : u4.heap.size < u5.heap.size := BY5.out.lt
  clear hzz hst
  refine wp_region_held_drew (S := fun u' => Below u5.drew.heap.size u5.drew u') (by kernel_rfl) (Below.refl _ _) (fun _ => ?_)
  (try simp only [Act.put, List.setIfInBounds_toArray, List.set_cons_zero, List.set_cons_succ])
  obtain ⟨y, hy⟩ : ∃ y, u5.drew = y := ⟨_, rfl⟩
  have hKX : Blk y w.heap.size L.toArray := by rw [← hy, ← hL]; exact K5.out
  have hKY : Blk y u4.heap.size L.toArray := by rw [← hy, ← hL]; exact BY5.out
  have hEy : Byt y (.slice va vn vc) ys := by rw [← hy]; exact HE5.out.drew
  have hBy : Below w.heap.size w y := by rw [← hy]; exact Below.drewN (n := 1) HB5.out
  have hyw : w.heap.size < y.heap.size := by rw [← hy]; exact hbw
  have hyv : u4.heap.size < y.heap.size := by rw [← hy]; exact hbv
  rw [hy]
  clear hy
  have hiL : (Try.prog.info? 37).map (·.size) = some L.length := by have := HIX.out; rw [hL] at this; simpa using this
  have HRX : Hid (∀ u, Below y.heap.size y u → u.rangeAt w.heap.size 0 L) := fun u hu => by simpa using (hKX.call hu).range
  have HRY : Hid (∀ u, Below y.heap.size y u → u.rangeAt u4.heap.size 0 L) := fun u hu => by simpa using (hKY.call hu).range
  have HCV : Hid (∀ u, Below y.heap.size y u → (convert 38 9 (.slice va vn vc)).run Try.prog u = .ok (.string St) u) := fun u hu => by rw [← HST.out]; exact conv_any (hEy.below hu)
  have HEy := Lib.hid hEy; clear hEy hKX hKY
  have HIL := Lib.hid hiL; clear hiL
  have HEQL : Hid (∀ u, Sem.run Try.prog (Op.equalIn 10000 37 (.agg L.toArray) (.agg L.toArray)) u = .ok true u) := fun u => by rw [← hL]; exact HEQ.out u
  have HDRL : Hid (∀ u, Calls Try.prog 15 #[.slice none 0 0, .agg L.toArray] u (App u ys)) := fun u => by rw [← hL]; exact HDR.out u
  clear hL
  refine wpAnyH_take (i := 0) (oi := ⟨some 24, _, _, _, _, _⟩) (v := .slice va vn vc) rfl (by kernel_rfl) (by kernel_rfl) (by kernel_rfl) (fun _ _ _ h => h) (Or.inl ⟨by rfl, fun wz hz => ?_⟩) (Below.refl _ _) ?_
  · clear hz; go_simp; first | done | with_reducible rfl | rfl
  (try simp only [Act.put, List.setIfInBounds_toArray, List.set_cons_zero, List.set_cons_succ])
  refine wpAnyH_take (i := 1) (oi := ⟨some 25, _, _, _, _, _⟩) (v := .string St) rfl (by kernel_rfl) (by kernel_rfl) (by kernel_rfl) (fun _ _ _ h => h) (Or.inl ⟨by rfl, fun wz hz => ?_⟩) (Below.refl _ _) ?_
  · have hcv := HCV.out wz hz; clear hz; go_simp; first | done | with_reducible rfl | rfl
  (try simp only [Act.put, List.setIfInBounds_toArray, List.set_cons_zero, List.set_cons_succ])
  refine held_load 2 rfl (by kernel_rfl) (by kernel_rfl) (by kernel_rfl) (fun _ _ _ _ h => h) rfl 37 (.tmp 2) rfl w.heap.size 0 rfl L _ (fun u' hu => HRX.out u' hu) Try.underlying37 rfl (HIL.out) (Below.refl _ _) ?_
  (try simp only [Act.put, List.setIfInBounds_toArray, List.set_cons_zero, List.set_cons_succ])
  refine wpAnyH_ready (rs := [3]) (by kernel_rfl) (by simp) ?_
  refine AllReadyH.cons rfl (fun K hK => ?_) AllReadyH.nil
  go_simp
  refine (HDRL.out _).mono ?_
  rintro e z ⟨vz, rfl, hyz, hbz⟩
  obtain ⟨za, zn, zc, rfl⟩ := hyz.shape
  refine held_grow hK hbz (fun u' => Below z.heap.size z u') (fun u' hu => bel0 hbz hu) ?_
  clear hK K
  (try simp only [Act.put, List.setIfInBounds_toArray, List.set_cons_zero, List.set_cons_succ])
  have HCZ : Hid (∀ u, Below z.heap.size z u → (convert 38 9 (.slice za zn zc)).run Try.prog u = .ok (.string St) u) := fun u hu => by rw [← HST.out]; exact conv_any (hyz.below hu)
  have HBZ := Lib.hid hbz; clear hbz hyz
  refine wpAnyH_take (i := 4) (oi := ⟨some 28, _, _, _, _, _⟩) (v := .string St) rfl (by kernel_rfl) (by kernel_rfl) (by kernel_rfl) (fun _ _ _ h => h) (Or.inl ⟨by rfl, fun wz hz => ?_⟩) (Below.refl _ _) ?_
  · have hcv := HCZ.out wz hz; clear hz; go_simp; first | done | with_reducible rfl | rfl
  (try simp only [Act.put, List.setIfInBounds_toArray, List.set_cons_zero, List.set_cons_succ])
  refine wpAnyH_take (i := 5) (oi := ⟨some 29, _, _, _, _, _⟩) (v := .bool true) rfl (by kernel_rfl) (by kernel_rfl) (by kernel_rfl) (fun _ _ _ h => h) (Or.inl ⟨by rfl, fun wz hz => ?_⟩) (Below.refl _ _) ?_
  · clear hz; go_simp; first | done | with_reducible rfl | rfl
  (try simp only [Act.put, List.setIfInBounds_toArray, List.set_cons_zero, List.set_cons_succ])
  refine wpAnyH_take (i := 6) (oi := ⟨some 30, _, _, _, _, _⟩) (v := .bool true) rfl (by kernel_rfl) (by kernel_rfl) (by kernel_rfl) (fun _ _ _ h => h) (Or.inl ⟨by rfl, fun wz hz => ?_⟩) (Below.refl _ _) ?_
  · clear hz; go_simp; first | done | with_reducible rfl | rfl
  (try simp only [Act.put, List.setIfInBounds_toArray, List.set_cons_zero, List.set_cons_succ])
  refine wpAnyH_take (i := 7) (oi := ⟨some 31, _, _, _, _, _⟩) (v := .int .i64 0) rfl (by kernel_rfl) (by kernel_rfl) (by kernel_rfl) (fun _ _ _ h => h) (Or.inl ⟨by rfl, fun wz hz => ?_⟩) (Below.refl _ _) ?_
  · clear hz; go_simp; first | done | with_reducible rfl | rfl
  (try simp only [Act.put, List.setIfInBounds_toArray, List.set_cons_zero, List.set_cons_succ])
  refine wpAnyH_take (i := 8) (oi := ⟨some 32, _, _, _, _, _⟩) (v := .bool true) rfl (by kernel_rfl) (by kernel_rfl) (by kernel_rfl) (fun _ _ _ h => h) (Or.inl ⟨by rfl, fun wz hz => ?_⟩) (Below.refl _ _) ?_
  · clear hz; go_simp; first | done | with_reducible rfl | rfl
  (try simp only [Act.put, List.setIfInBounds_toArray, List.set_cons_zero, List.set_cons_succ])
  refine wpAnyH_take (i := 9) (oi := ⟨some 33, _, _, _, _, _⟩) (v := .bool true) rfl (by kernel_rfl) (by kernel_rfl) (by kernel_rfl) (fun _ _ _ h => h) (Or.inl ⟨by rfl, fun wz hz => ?_⟩) (Below.refl _ _) ?_
  · clear hz; go_simp; first | done | with_reducible rfl | rfl
  (try simp only [Act.put, List.setIfInBounds_toArray, List.set_cons_zero, List.set_cons_succ])
  refine wpAnyH_take (i := 10) (oi := ⟨some 34, _, _, _, _, _⟩) (v := .bool true) rfl (by kernel_rfl) (by kernel_rfl) (by kernel_rfl) (fun _ _ _ h => h) (Or.inl ⟨by rfl, fun wz hz => ?_⟩) (Below.refl _ _) ?_
  · clear hz; go_simp; first | done | with_reducible rfl | rfl
  (try simp only [Act.put, List.setIfInBounds_toArray, List.set_cons_zero, List.set_cons_succ])
  refine wpAnyH_take (i := 11) (oi := ⟨some 35, _, _, _, _, _⟩) (v := .int .i64 (vn : Nat)) rfl (by kernel_rfl) (by kernel_rfl) (by kernel_rfl) (fun _ _ _ h => h) (Or.inl ⟨by rfl, fun wz hz => ?_⟩) (Below.refl _ _) ?_
  · clear hz; go_simp; first | done | with_reducible rfl | rfl
  (try simp only [Act.put, List.setIfInBounds_toArray, List.set_cons_zero, List.set_cons_succ])
  refine wpAnyH_take (i := 12) (oi := ⟨some 36, _, _, _, _, _⟩) (v := .slice va vn vc) rfl (by kernel_rfl) (by kernel_rfl) (by kernel_rfl) (fun _ _ _ h => h) (Or.inl ⟨by rfl, fun wz hz => ?_⟩) (Below.refl _ _) ?_
  · clear hz; go_simp; first | done | with_reducible rfl | rfl
  (try simp only [Act.put, List.setIfInBounds_toArray, List.set_cons_zero, List.set_cons_succ])
  refine wpAnyH_take (i := 13) (oi := ⟨some 37, _, _, _, _, _⟩) (v := .int .i64 (vn : Nat)) rfl (by kernel_rfl) (by kernel_rfl) (by kernel_rfl) (fun _ _ _ h => h) (Or.inl ⟨by rfl, fun wz hz => ?_⟩) (Below.refl _ _) ?_
  · clear hz; go_simp; first | done | with_reducible rfl | rfl
  (try simp only [Act.put, List.setIfInBounds_toArray, List.set_cons_zero, List.set_cons_succ])
  refine wpAnyH_take (i := 14) (oi := ⟨some 38, _, _, _, _, _⟩) (v := .bool true) rfl (by kernel_rfl) (by kernel_rfl) (by kernel_rfl) (fun _ _ _ h => h) (Or.inl ⟨by rfl, fun wz hz => ?_⟩) (Below.refl _ _) ?_
  · clear hz; go_simp; first | done | with_reducible rfl | rfl
  (try simp only [Act.put, List.setIfInBounds_toArray, List.set_cons_zero, List.set_cons_succ])
  refine wpAnyH_take (i := 15) (oi := ⟨some 39, _, _, _, _, _⟩) (v := .bool true) rfl (by kernel_rfl) (by kernel_rfl) (by kernel_rfl) (fun _ _ _ h => h) (Or.inl ⟨by rfl, fun wz hz => ?_⟩) (Below.refl _ _) ?_
  · clear hz; go_simp; first | done | with_reducible rfl | rfl
  (try simp only [Act.put, List.setIfInBounds_toArray, List.set_cons_zero, List.set_cons_succ])
  refine wpAnyH_take (i := 16) (oi := ⟨some 40, _, _, _, _, _⟩) (v := .bool true) rfl (by kernel_rfl) (by kernel_rfl) (by kernel_rfl) (fun _ _ _ h => h) (Or.inl ⟨by rfl, fun wz hz => ?_⟩) (Below.refl _ _) ?_
  · clear hz; go_simp; first | done | with_reducible rfl | rfl
  (try simp only [Act.put, List.setIfInBounds_toArray, List.set_cons_zero, List.set_cons_succ])
  refine held_load 17 rfl (by kernel_rfl) (by kernel_rfl) (by kernel_rfl) (fun _ _ _ _ h => h) rfl 37 (.tmp 6) rfl u4.heap.size 0 rfl L _ (fun u' hu => HRY.out u' (bel0 HBZ.out hu)) Try.underlying37 rfl (HIL.out) (Below.refl _ _) ?_
  (try simp only [Act.put, List.setIfInBounds_toArray, List.set_cons_zero, List.set_cons_succ])
  refine held_load 18 rfl (by kernel_rfl) (by kernel_rfl) (by kernel_rfl) (fun _ _ _ _ h => h) rfl 37 (.tmp 2) rfl w.heap.size 0 rfl L _ (fun u' hu => HRX.out u' (bel0 HBZ.out hu)) Try.underlying37 rfl (HIL.out) (Below.refl _ _) ?_
  (try simp only [Act.put, List.setIfInBounds_toArray, List.set_cons_zero, List.set_cons_succ])
  refine wpAnyH_take (i := 19) (oi := ⟨some 43, _, _, _, _, _⟩) (v := .bool true) rfl (by kernel_rfl) (by kernel_rfl) (by kernel_rfl) (fun _ _ _ h => h) (Or.inl ⟨by rfl, fun wz hz => ?_⟩) (Below.refl _ _) ?_
  · clear hz; have heq := HEQL.out; go_simp; first | done | with_reducible rfl | rfl
  (try simp only [Act.put, List.setIfInBounds_toArray, List.set_cons_zero, List.set_cons_succ])
  refine wpAnyH_take (i := 20) (oi := ⟨some 44, _, _, _, _, _⟩) (v := .bool true) rfl (by kernel_rfl) (by kernel_rfl) (by kernel_rfl) (fun _ _ _ h => h) (Or.inl ⟨by rfl, fun wz hz => ?_⟩) (Below.refl _ _) ?_
  · clear hz; go_simp; first | done | with_reducible rfl | rfl
  (try simp only [Act.put, List.setIfInBounds_toArray, List.set_cons_zero, List.set_cons_succ])
  refine wpAnyH_take (i := 21) (oi := ⟨some 45, _, _, _, _, _⟩) (v := .bool true) rfl (by kernel_rfl) (by kernel_rfl) (by kernel_rfl) (fun _ _ _ h => h) (Or.inl ⟨by rfl, fun wz hz => ?_⟩) (Below.refl _ _) ?_
  · clear hz; go_simp; first | done | with_reducible rfl | rfl
  (try simp only [Act.put, List.setIfInBounds_toArray, List.set_cons_zero, List.set_cons_succ])
  refine wpAnyH_ready (rs := [22]) (by kernel_rfl) (by simp) ?_
  refine AllReadyH.cons rfl (fun K hK => ?_) AllReadyH.nil
  go_simp
  refine (DA.out _).mono ?_
  rintro e q ⟨rfl, hbq⟩
  refine hK.out _ _ hbq (fun _ => ?_)
  clear hK K
  (try simp only [Act.put, List.setIfInBounds_toArray, List.set_cons_zero, List.set_cons_succ])
  refine wpAnyH_take (i := 23) (oi := ⟨some 47, _, _, _, _, _⟩) (v := .bool true) rfl (by kernel_rfl) (by kernel_rfl) (by kernel_rfl) (fun _ _ _ h => h) (Or.inl ⟨by rfl, fun wz hz => ?_⟩) hbq ?_
  · clear hz; go_simp; first | done | with_reducible rfl | rfl
  (try simp only [Act.put, List.setIfInBounds_toArray, List.set_cons_zero, List.set_cons_succ])
  refine wpAnyH_ready (rs := [24]) (by kernel_rfl) (by simp) ?_
  refine AllReadyH.cons rfl (fun K hK => ?_) AllReadyH.nil
  go_simp
  refine hK.out _ _ (hbq) (fun _ => ?_)
  clear hK K
  (try simp only [Act.put, List.setIfInBounds_toArray, List.set_cons_zero, List.set_cons_succ])
  refine wpAnyH_done (by kernel_rfl) ?_ _
  go_wp2_with fail
  go_ret
  exact ⟨rfl, (hBy.trans (HBZ.out.mono hBy.size)).trans (hbq.mono (hBy.trans (HBZ.out.mono hBy.size)).size)⟩

theorem walk_RecordsBlocks (a0 : BkD) (a1 : Option Addr) (len1 cap1 : Nat) (z1 : List Int) (w : World) (w0 : a0.ok) (w1 : IsRow .u8 w a1 len1 cap1 z1) :
    Calls Try.prog 4 #[.agg (flatP a0.parts), .slice a1 len1 cap1] w fun e w' => e = .returned (.bool true) ∧ Below w.heap.size w w' :=
  blk_walk a0 a1 len1 cap1 (z1.take len1) w w0 w1.byt

end Go.Proofs.Ytgcgjnjbhdhhgaa
