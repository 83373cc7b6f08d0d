/- AppendWide, AppendBytes. -/
import Derived.Test.YtjlfacdmfcbjfaaCdD
set_option linter.unusedVariables false
namespace Go.Proofs.Ytjlfacdmfcbjfaa
open Go.RowKit

set_option maxHeartbeats 2000000 in
theorem awide_any (v : Value) (bs : List Int) (n : Int) (w : World) (h : Byt w v bs) (hn : W256 n) (hb : bs.length ≤ 100000000000) :
    Calls Try.prog 16 #[v, .agg #[.int .u64 (l0 (n)), .int .u64 (l1 (n)), .int .u64 (l2 (n)), .int .u64 (l3 (n))]] w (App w (bs ++ bytesN n)) := by
  obtain ⟨va, vl, vc, rfl⟩ := h.shape
  have H := Lib.hid h; clear h
  have hbi := bytesN_is n
  have D := toB_any n hn
  have hX0 : (bytesV (bytesN n)).size = 32 := bytesV_size hbi.1
  have hX1 := bytesV_one (bytesN n)
  have e0 : ((bytesN n).map (Value.int .u8)).toArray = bytesV (bytesN n) := rfl
  rw [e0] at D
  obtain ⟨X, HX⟩ : ∃ X, Hid (X = bytesV (bytesN n)) := ⟨_, rfl⟩
  rw [← HX.out] at D hX0 hX1
  have HD := Lib.hid D; clear D e0
  have HX1 := Lib.hid hX1; clear hX1
  have HFL : Hid ([bs, bytesN n].flatten.length ≤ 1000000000000) := by show _ ≤ _; simp [hbi.1]; omega
  have HBI := Lib.hid hbi; clear hbi
  obtain ⟨Z, hZ⟩ : ∃ Z, Z = Array.replicate 32 (Value.int .u8 0) := ⟨_, rfl⟩
  have hsz : Z.size = 32 := by rw [hZ]; simp
  obtain ⟨hz32, hst⟩ := zero_array (P := Try.prog) (t := 24) (n := 32) Z (by rw [hZ]; kernel_rfl) hsz (by rw [hZ]; kernel_rfl)
  have HZ := Lib.hid hZ; clear hZ hst
  have H1 : Hid (Byt (w.alloc (.cells #[.int .u64 (l0 n), .int .u64 (l1 n), .int .u64 (l2 n), .int .u64 (l3 n)] 27)) (.slice va vl vc) bs) := H.out.alloc _
  go_enter Try.func16, Try.ntmps16
  go_wp2_with (first
    | (go_at_call 41; refine (HD.out _).mono ?_; rintro e w1 ⟨rfl, hb1⟩; have HB1 := Lib.hid hb1; clear hb1)
    | ((with_reducible refine at_store _ ?_); refine wpList_store_blk rfl 24 _ _ rfl w1.heap.size X rfl rfl Z (Blk.new rfl) (by rw [hsz, hX0]) (by rw [hX0]; kernel_rfl) HX1.out ?_; intro w2 U2 B2
       have HB2 := Lib.hid (U2.below ((Below.refl _ w1).alloc (Nat.le_refl _) (.cells Z 24)) (Nat.le_refl _)); clear U2
       have HBB2 := Lib.hid B2; clear B2)
    | (go_at_call 40; refine (concat_any _ 2 #[_, _] [bs, bytesN n] _ (parts2 rfl ((H1.out.below HB1.out).below HB2.out) (byt_root HBI.out (by rw [← HX.out]; exact HBB2.out))) (by omega) HFL.out).mono ?_; rintro e w3 ⟨v3, rfl, hb3, hbl3⟩; have HB3 := Lib.hid hb3; clear hb3; have HBL3 := Lib.hid hbl3; clear hbl3))
  go_ret
  refine ⟨v3, rfl, ?_, ?_⟩
  · simpa using HB3.out
  · have b1 := ((Below.refl _ w).alloc (Nat.le_refl _) (.cells #[.int .u64 (l0 n), .int .u64 (l1 n), .int .u64 (l2 n), .int .u64 (l3 n)] 27)).trans (HB1.out.mono (by simp))
    have b2 := b1.trans (HB2.out.mono b1.size)
    exact (b2.alloc b2.size _).trans (HBL3.out.mono (by have := b2.size; simp; omega))

set_option maxHeartbeats 2000000 in
theorem abytes_any (v y : Value) (bs ys : List Int) (w : World) (h : Byt w v bs) (hy : Byt w y ys) (hb : bs.length ≤ 100000000000) (hby : ys.length ≤ 100000000000) :
    Calls Try.prog 20 #[v, y] w (App w (bs ++ (uenc ys.length ++ ys))) := by
  obtain ⟨va, vl, vc, rfl⟩ := h.shape
  obtain ⟨ya, yl, yc, e, hyl, hym, _⟩ := hy.ints
  subst e
  have HFL : Hid ([bs, uenc ys.length, ys].flatten.length ≤ 1000000000000) := by
    have := uenc_len10 (n := ys.length) (by omega)
    show _ ≤ _; simp; omega
  rw [hyl] at HFL ⊢
  have hyl0 : yl ≤ 100000000000 := by omega
  have H := Lib.hid h; clear h
  have HY := Lib.hid hy; clear hy
  unfold maxLen at hym
  have HYL := Lib.hid hyl; clear hyl hym
  have D := fun w => auint_any (.slice none 0 0) [] (yl : Int) w (byt_nil _) (by omega) (by omega) (by simp)
  rw [Int.toNat_natCast] at D
  have HD := Lib.hid D; clear D
  go_enter Try.func20, Try.ntmps20
  go_wp2_with (first
    | (go_at_call 10; refine (HD.out _).mono ?_; rintro e w1 ⟨v1, rfl, ho1, hb1⟩; obtain ⟨a1, l1, c1, rfl⟩ := ho1.shape; have HO1 := Lib.hid ho1; clear ho1; have HB1 := Lib.hid hb1; clear hb1)
    | (go_at_call 40; refine (concat_any _ 3 #[_, _, _] [bs, uenc yl, ys] _ (parts3 rfl (H.out.below HB1.out) HO1.out (HY.out.below HB1.out)) (by omega) HFL.out).mono ?_; rintro e w3 ⟨v3, rfl, hb3, hbl3⟩; have HB3 := Lib.hid hb3; clear hb3; have HBL3 := Lib.hid hbl3; clear hbl3))
  go_ret
  refine ⟨v3, rfl, ?_, ?_⟩
  · simpa using HB3.out
  · exact (HB1.out.alloc HB1.out.size _).trans (HBL3.out.mono (by have := HB1.out.size; simp; omega))

end Go.Proofs.Ytjlfacdmfcbjfaa
