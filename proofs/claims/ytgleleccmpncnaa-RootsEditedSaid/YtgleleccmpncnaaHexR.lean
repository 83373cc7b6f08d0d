/- Contract of the reference's ParseRoot. -/
import Derived.Test.YtgleleccmpncnaaHexQ
import Derived.Deep.LoopGhost
import Derived.Lib.IndexBytes
import Derived.IntWalk
set_option linter.unusedVariables false
namespace Go.Proofs.Ytgleleccmpncnaa
open Go.RowKit

set_option maxHeartbeats 2000000 in
theorem rpR_bad1 (s : ByteArray) (w : World) (hs : s.size ≤ maxLen) (hne66 : s.size ≠ 66) :
    Calls Try.prog 25 #[.string s] w fun e w' => e = .returned (.tuple #[.agg (bytesV zero32), .int .i64 1]) ∧ Below w.heap.size w w' := by
  have hne : ((s.size : Int) != 66) = true := by simp; omega
  obtain ⟨Z, hZ⟩ : ∃ Z, Z = bytesV zero32 := ⟨_, rfl⟩
  have hsz : Z.size = 32 := by rw [hZ]; rfl
  obtain ⟨hz32, hst⟩ := zero_array (P := Try.prog) (t := 37) (n := 32) Z (by rw [hZ]; kernel_rfl) hsz (by rw [hZ]; kernel_rfl)
  have HZ := Lib.hid hZ; clear hZ hne66
  go_enter Try.func25, Try.ntmps25
  go_wp2_with (first
    | (refine wpList_load_blk rfl 37 _ rfl (w.heap.size + 1) rfl Z _ (Blk.new (by simp)) Try.underlying37 rfl (by rw [hsz]; kernel_rfl) ?_)
    | (refine wpList_store_blk rfl 37 _ _ rfl w.heap.size Z rfl rfl Z ((Blk.new rfl).alloc _) rfl (by rw [hsz]; kernel_rfl) (by rw [HZ.out]; exact bytesV_one _) ?_; intro w2 U2 B2))
  refine bodyPost_ret (res_blk rfl rfl rfl B2 Try.underlying37 rfl (by rw [hsz]; kernel_rfl)) rfl ⟨by rw [← HZ.out]; rfl, ?_⟩
  exact U2.below (((Below.refl _ _).alloc (Nat.le_refl _) _).alloc (by simp) _) (Nat.le_refl _)

theorem pre_is (s : ByteArray) : ((s.extract 0 2).toList == [48, 120]) = prefB s := by
  rw [← hasPrefix_0x, ByteArray.toList_eq, Lib.extract_data]
  unfold Lib.hasPrefix
  rw [Bool.eq_iff_iff, beq_iff_eq, List.isPrefixOf_iff_prefix, List.prefix_iff_eq_take]
  simp only [List.drop_zero]
  exact ⟨fun h => h.symm, fun h => h.symm⟩

theorem digit_below (c : Int) (h0 : 0 ≤ c) (h1 : c ≤ 255) (w : World) :
    Calls Try.prog 43 #[.int .u8 c] w fun e w' => e = .returned (.int .u8 (dig16 c)) ∧ Below w.heap.size w w' :=
  (digit_any c h0 h1 w).mono fun _ _ ⟨he, hw⟩ => ⟨he, Below.same_world hw⟩

set_option maxHeartbeats 2000000 in
theorem rpR_bad2 (s : ByteArray) (w : World) (h66 : s.size = 66) (hp : prefB s = false) :
    Calls Try.prog 25 #[.string s] w fun e w' => e = .returned (.tuple #[.agg (bytesV zero32), .int .i64 1]) ∧ Below w.heap.size w w' := by
  have hne : ((s.size : Int) != 66) = false := by simp; omega
  have hs1 : (2 : Int) ≤ (s.size : Int) := by omega
  have hpre := pre_is s
  rw [hp] at hpre
  have H66 := Lib.hid h66
  obtain ⟨Z, hZ⟩ : ∃ Z, Z = bytesV zero32 := ⟨_, rfl⟩
  have hsz : Z.size = 32 := by rw [hZ]; rfl
  obtain ⟨hz32, hst⟩ := zero_array (P := Try.prog) (t := 37) (n := 32) Z (by rw [hZ]; kernel_rfl) hsz (by rw [hZ]; kernel_rfl)
  have HZ := Lib.hid hZ; clear hZ h66 hp
  go_enter Try.func25, Try.ntmps25
  go_wp2_with (first
    | (refine wpList_load_blk rfl 37 _ rfl (w.heap.size + 1) rfl Z _ (Blk.new (by simp)) Try.underlying37 rfl (by rw [hsz]; kernel_rfl) ?_)
    | (refine wpList_store_blk rfl 37 _ _ rfl w.heap.size Z rfl rfl Z ((Blk.new rfl).alloc _) rfl (by rw [hsz]; kernel_rfl) (by rw [HZ.out]; exact bytesV_one _) ?_; intro w2 U2 B2))
  refine bodyPost_ret (res_blk rfl rfl rfl B2 Try.underlying37 rfl (by rw [hsz]; kernel_rfl)) rfl ⟨by rw [← HZ.out]; rfl, ?_⟩
  exact U2.below (((Below.refl _ _).alloc (Nat.le_refl _) _).alloc (by simp) _) (Nat.le_refl _)

set_option maxHeartbeats 4000000 in
theorem rpR_main (s : ByteArray) (w : World) (hp : prefB s = true) (h66 : s.size = 66) :
    Calls Try.prog 25 #[.string s] w fun e w' => e = .returned (.tuple #[.agg (bytesV (rootV s)), .int .i64 (rootE s)]) ∧ Below w.heap.size w w' := by
  have ER : Hid (rootB s = pairsB s 32) := by show _ = _; unfold rootB; rw [hp, h66]; rfl
  have hne : ((s.size : Int) != 66) = false := by simp; omega
  have hs1 : (2 : Int) ≤ (s.size : Int) := by omega
  have hpre := pre_is s
  rw [hp] at hpre
  have hp1 : s.size ≤ 66 := by omega
  have hp2 : 66 ≤ s.size := by omega
  obtain ⟨Z, hZ⟩ : ∃ Z, Z = bytesV zero32 := ⟨_, rfl⟩
  have hsz : Z.size = 32 := by rw [hZ]; rfl
  obtain ⟨hz32, hst⟩ := zero_array (P := Try.prog) (t := 37) (n := 32) Z (by rw [hZ]; kernel_rfl) hsz (by rw [hZ]; kernel_rfl)
  have HZ := Lib.hid hZ
  have HZ' := Lib.hid (hZ.trans zero32_val); clear hZ hp h66
  go_enter Try.func25, Try.ntmps25
  go_wp2_with fail
  clear hst hne hpre
  go_loopw [5] (fun i wr => RPI w s i wr) (fun i _ => 32 - (intOf i).toNat)
  case atStart =>
    rw [HZ'.out]
    exact RPI.start (((Below.refl _ _).alloc (Nat.le_refl _) _).alloc (by simp) _) ((Blk.new rfl).alloc _) (Blk.new (by simp))
  case round =>
    obtain ⟨k, cs, hk, rfl, hprs, hcs, hc, ho, hb, bR, bD⟩ := hrel
    have HPR := Lib.hid hprs; clear hprs
    have HCS := Lib.hid hcs; clear hcs
    have HC := Lib.hid hc; clear hc
    have HO := Lib.hid ho; clear ho
    by_cases hlt : k < 32
    · obtain ⟨c1, HC1⟩ : ∃ c, Hid (c = sB s (2 * k + 2)) := ⟨_, rfl⟩
      obtain ⟨c2, HC2⟩ : ∃ c, Hid (c = sB s (2 * k + 3)) := ⟨_, rfl⟩
      have hcell1 : ((s[2 + 2 * k]'(by omega)).toNat : Int) = c1 := by
        rw [HC1.out, sB_at (by omega), Nat.add_comm]
      have hcell2 : ((s[3 + 2 * k]'(by omega)).toNat : Int) = c2 := by
        rw [HC2.out, sB_at (by omega), Nat.add_comm]
      have r1 := sB_rng s (2 * k + 2)
      have r2 := sB_rng s (2 * k + 3)
      rw [← HC1.out] at r1
      rw [← HC2.out] at r2
      obtain ⟨h, eh⟩ : ∃ h, dig16 c1 = h := ⟨_, rfl⟩
      obtain ⟨l, el⟩ : ∃ h, dig16 c2 = h := ⟨_, rfl⟩
      have D1 := digit_below c1 r1.1 r1.2
      have D2 := digit_below c2 r2.1 r2.2
      rw [eh] at D1
      rw [el] at D2
      have D1 := Lib.hid D1
      have D2 := Lib.hid D2
      have g1 := dig16_rng c1
      have g2 := dig16_rng c2
      rw [eh] at g1
      rw [el] at g2
      have EH := Lib.hid eh; clear eh
      have EL := Lib.hid el; clear el
      have hk0 : (0 : Int) ≤ (k : Int) := by omega
      have hk2 : (k : Int) < 32 := by omega
      obtain ⟨v, c3⟩ : ∃ v, wr.cell? ⟨w.heap.size + 1, k, none⟩ = some v := by rw [bD.cell]; exact ⟨cs[k]'(by have := HCS.out; omega), Array.getElem?_eq_getElem _⟩
      have c4 := bD.free
      have e1 : IntKind.i64.wrap (2 * (k : Int)) = 2 * (k : Int) := IntWalk.i64_in _ (by omega)
      have e2 : IntKind.i64.wrap (2 + 2 * (k : Int)) = 2 + 2 * (k : Int) := IntWalk.i64_in _ (by omega)
      have e3 : IntKind.i64.wrap (3 + 2 * (k : Int)) = 3 + 2 * (k : Int) := IntWalk.i64_in _ (by omega)
      have e4 : (0 : Int) ≤ 2 + 2 * (k : Int) := by omega
      have e5 : (0 : Int) ≤ 3 + 2 * (k : Int) := by omega
      have e6 : (2 + 2 * (k : Int)).toNat = 2 + 2 * k := by omega
      have e7 : (3 + 2 * (k : Int)).toNat = 3 + 2 * k := by omega
      have e8 : (2 + 2 * (k : Int)) < (s.size : Int) := by omega
      have e9 : (3 + 2 * (k : Int)) < (s.size : Int) := by omega
      go_wp2_with fail
      refine wp_region_fam2 (by kernel_rfl) (by kernel_rfl) ?_
      intro T F hT hF hG
      repeat (go_big_quiet_step ((first
        | (go_at_call_of 43 c1; exact fam_call hF hG (Nat.le_refl _) (D1.out _))
        | (go_at_call_of 43 c2; exact fam_call hF hG (Nat.le_refl _) (D2.out _)))))
      refine wpQuiet_nil ?_
      rintro _ ⟨t, rfl⟩
      clear e1 e2 e3 e4 e5 e6 e7 e8 e9 hcell1 hcell2 c3 c4
      have hb2 := bel0 hb (hF t)
      have bR2 := bR.call (hF t)
      have bD2 := bD.call (hF t)
      obtain ⟨v, c3⟩ : ∃ v, (F t).cell? ⟨w.heap.size + 1, k, none⟩ = some v := by rw [bD2.cell]; exact ⟨cs[k]'(by have := HCS.out; omega), Array.getElem?_eq_getElem _⟩
      have c4 := bD2.free
      by_cases hd : h < 16 ∧ l < 16
      · obtain ⟨h1, l1⟩ := hd
        have HV : Hid (h * 16 + l = pairV s k) := by show _ = _; unfold pairV; rw [← HC1.out, ← HC2.out, EH.out, EL.out]
        have HD := Lib.hid (show dig16 (sB s (2 * k + 2)) < 16 ∧ dig16 (sB s (2 * k + 3)) < 16 by rw [← HC1.out, ← HC2.out, EH.out, EL.out]; exact ⟨h1, l1⟩)
        have hor := (or_nib h l g1.1 h1 g2.1 l1).2
        go_wp2_with fail
        go_roundw
        case rel => exact RPI.next hlt HPR.out HD.out.1 HD.out.2 HCS.out HC.out HO.out hb2 bR2 bD2 HV.out
        case measure => simp [intOf]; omega
      · have hB : rootB s = false := by rw [ER.out]; exact pairsB_not hlt (by rw [← HC1.out, ← HC2.out, EH.out, EL.out]; exact hd)
        obtain ⟨e1, e2⟩ := rootV_no hB
        have E1 := Lib.hid e1; clear e1
        have E2 := Lib.hid e2; clear e2
        have hcase : 15 < h ∨ (h ≤ 15 ∧ 15 < l) := by omega
        clear hB hd
        rcases hcase with hc | ⟨hc0, hc⟩
        all_goals
          go_wp2_with (refine wpList_store_blk rfl 37 _ _ rfl w.heap.size Z rfl rfl _ bR2 (by rw [hsz]; rfl) (by rw [hsz]; kernel_rfl) (by rw [HZ.out]; exact bytesV_one _) ?_; intro w2 U2 B2)
          refine bodyPost_ret (res_blk rfl rfl rfl B2 Try.underlying37 rfl (by rw [hsz]; kernel_rfl)) rfl ⟨by rw [E1.out, E2.out, ← HZ.out]; rfl, ?_⟩
          exact U2.below hb2 (Nat.le_refl _)
    · obtain rfl : k = 32 := by omega
      have ecs := RPI.all HCS.out HC.out
      have hB : rootB s = true := by rw [ER.out]; exact HPR.out
      have E1 := Lib.hid (show rootV s = rootX s by unfold rootV; rw [if_pos hB])
      have E2 := Lib.hid (show rootE s = 0 by unfold rootE; rw [if_pos hB])
      have ECS := Lib.hid ecs
      clear hB ecs
      go_wp2_with (first
        | (refine wpList_load_blk rfl 37 _ rfl (w.heap.size + 1) rfl cs _ bD Try.underlying37 rfl (by rw [HCS.out]; kernel_rfl) ?_)
        | (refine wpList_store_blk rfl 37 _ _ rfl w.heap.size cs rfl rfl _ bR (by rw [HCS.out]; rfl) (by rw [HCS.out]; kernel_rfl) HO.out ?_; intro w2 U2 B2))
      refine bodyPost_ret (res_blk rfl rfl rfl B2 Try.underlying37 rfl (by rw [HCS.out]; kernel_rfl)) rfl ⟨by rw [E1.out, E2.out, ECS.out]; rfl, ?_⟩
      exact U2.below hb (Nat.le_refl _)

theorem rpR_any (s : ByteArray) (w : World) (hs : s.size ≤ maxLen) :
    Calls Try.prog 25 #[.string s] w fun e w' => e = .returned (.tuple #[.agg (bytesV (rootV s)), .int .i64 (rootE s)]) ∧ Below w.heap.size w w' := by
  by_cases h66 : s.size = 66
  · by_cases hp : prefB s = true
    · exact rpR_main s w hp h66
    · have hp' : prefB s = false := by simpa using hp
      have hB : rootB s = false := by unfold rootB; simp [hp']
      obtain ⟨e1, e2⟩ := rootV_no hB
      rw [e1, e2]
      exact rpR_bad2 s w h66 hp'
  · have hB : rootB s = false := by unfold rootB; simp [h66]
    obtain ⟨e1, e2⟩ := rootV_no hB
    rw [e1, e2]
    exact rpR_bad1 s w hs h66

end Go.Proofs.Ytgleleccmpncnaa
