/- AppendWide, AppendBytes. -/
import Derived.Test.YtmnojgdfbhdkhaaCdD
set_option linter.unusedVariables false
namespace Go.Proofs.Ytmnojgdfbhdkhaa
open Go.RowKit

set_option maxHeartbeats 2000000 in
theorem awide_any (v : Value) (bs : List Int) (n : Int) (w : World) (h : Byt w v bs) (hn : W256 n) (hb : bs.length ≤ 100000000000) :
    Calls Try.prog 66 #[v, .agg #[.int .u64 (l0 (n)), .int .u64 (l1 (n)), .int .u64 (l2 (n)), .int .u64 (l3 (n))]] w (App w (bs ++ bytesN n)) := by
  obtain ⟨va, vl, vc, rfl⟩ := h.shape
  have H := Lib.hid h; clear h
  have hbi := bytesN_is n
  have D := toB_any n hn
  have hX0 : (bytesV (bytesN n)).size = 32 := bytesV_size hbi.1
  have hX1 := bytesV_one (bytesN n)
  have e0 : ((bytesN n).map (Value.int .u8)).toArray = bytesV (bytesN n) := rfl
  rw [e0] at D
  obtain ⟨X, HX⟩ : ∃ X, Hid (X = bytesV (bytesN n)) := ⟨_, rfl⟩
  rw [← HX.out] at D hX0 hX1
  have HD := Lib.hid D; clear D e0
  have HX1 := Lib.hid hX1; clear hX1
  have HFL : Hid ([bs, bytesN n].flatten.length ≤ 1000000000000) := by show _ ≤ _; simp [hbi.1]; omega
  have HBI := Lib.hid hbi; clear hbi
  obtain ⟨Z, hZ⟩ : ∃ Z, Z = Array.replicate 32 (Value.int .u8 0) := ⟨_, rfl⟩
  have hsz : Z.size = 32 := by rw [hZ]; simp
  obtain ⟨hz32, hst⟩ := zero_array (P := Try.prog) (t := 23) (n := 32) Z (by rw [hZ]; kernel_rfl) hsz (by rw [hZ]; kernel_rfl)
  have HZ := Lib.hid hZ; clear hZ hst
  have H1 : Hid (Byt (w.alloc (.cells #[.int .u64 (l0 n), .int .u64 (l1 n), .int .u64 (l2 n), .int .u64 (l3 n)] 30)) (.slice va vl vc) bs) := H.out.alloc _
  go_enter Try.func66, Try.ntmps66
  go_wp2_with (first
    | (go_at_call 93; refine (HD.out _).mono ?_; rintro e w1 ⟨rfl, hb1⟩; have HB1 := Lib.hid hb1; clear hb1)
    | ((with_reducible refine at_store _ ?_); refine wpList_store_blk rfl 23 _ _ rfl w1.heap.size X rfl rfl Z (Blk.new rfl) (by rw [hsz, hX0]) (by rw [hX0]; kernel_rfl) HX1.out ?_; intro w2 U2 B2
       have HB2 := Lib.hid (U2.below ((Below.refl _ w1).alloc (Nat.le_refl _) (.cells Z 23)) (Nat.le_refl _)); clear U2
       have HBB2 := Lib.hid B2; clear B2)
    | (go_at_call 46; refine (concat_any _ 2 #[_, _] [bs, bytesN n] _ (parts2 rfl ((H1.out.below HB1.out).below HB2.out) (byt_root HBI.out (by rw [← HX.out]; exact HBB2.out))) (by omega) HFL.out).mono ?_; rintro e w3 ⟨v3, rfl, hb3, hbl3⟩; have HB3 := Lib.hid hb3; clear hb3; have HBL3 := Lib.hid hbl3; clear hbl3))
  go_ret
  refine ⟨v3, rfl, ?_, ?_⟩
  · simpa using HB3.out
  · have b1 := ((Below.refl _ w).alloc (Nat.le_refl _) (.cells #[.int .u64 (l0 n), .int .u64 (l1 n), .int .u64 (l2 n), .int .u64 (l3 n)] 30)).trans (HB1.out.mono (by simp))
    have b2 := b1.trans (HB2.out.mono b1.size)
    exact (b2.alloc b2.size _).trans (HBL3.out.mono (by have := b2.size; simp; omega))

end Go.Proofs.Ytmnojgdfbhdkhaa
