/- Contract of roots.Parse. -/
import Derived.Test.YtjlfacdmfcbjfaaHexP
set_option linter.unusedVariables false
namespace Go.Proofs.Ytjlfacdmfcbjfaa
open Go.RowKit

theorem rootV_no {s : ByteArray} (h : rootB s = false) : rootV s = zero32 ∧ rootE s = 1 := by
  unfold rootV rootE
  rw [h]
  exact ⟨rfl, rfl⟩

set_option maxHeartbeats 2000000 in
theorem pR_bad1 (s : ByteArray) (w : World) (hs : s.size ≤ maxLen) (hp : prefB s = false) :
    Calls Try.prog 49 #[.string s] w fun e w' => e = .returned (.tuple #[.agg (bytesV zero32), .int .i64 1]) ∧ Below w.heap.size w w' := by
  have D := cut_any s
  rw [hp] at D
  have D := Lib.hid D
  obtain ⟨Z, hZ⟩ : ∃ Z, Z = bytesV zero32 := ⟨_, rfl⟩
  have hsz : Z.size = 32 := by rw [hZ]; rfl
  obtain ⟨hz32, hst⟩ := zero_array (P := Try.prog) (t := 25) (n := 32) Z (by rw [hZ]; kernel_rfl) hsz (by rw [hZ]; kernel_rfl)
  have HZ := Lib.hid hZ; clear hZ hp
  go_enter Try.func49, Try.ntmps49
  go_wp2_with (first
    | (go_at_call 58; refine (D.out _).mono ?_; rintro e w1 ⟨rfl, rfl⟩)
    | (refine wpList_store_blk rfl 25 _ _ rfl w.heap.size Z rfl rfl Z ((Blk.new rfl).alloc _) rfl (by rw [hsz]; kernel_rfl) (by rw [HZ.out]; exact bytesV_one _) ?_; intro w2 U2 B2))
  refine bodyPost_ret (res_blk rfl rfl rfl B2 Try.underlying25 rfl (by rw [hsz]; kernel_rfl)) rfl ⟨by rw [← HZ.out]; rfl, ?_⟩
  exact U2.below (((Below.refl _ _).alloc (Nat.le_refl _) _).alloc (by simp) _) (Nat.le_refl _)

set_option maxHeartbeats 2000000 in
theorem pR_bad2 (s : ByteArray) (w : World) (hs : s.size ≤ maxLen) (hp : prefB s = true) (hne66 : s.size ≠ 66) :
    Calls Try.prog 49 #[.string s] w fun e w' => e = .returned (.tuple #[.agg (bytesV zero32), .int .i64 1]) ∧ Below w.heap.size w w' := by
  have D := cut_any s
  obtain ⟨hps, _⟩ := tail2_yes hp
  have h2 : 2 ≤ s.size := by
    unfold prefB at hp
    simp at hp
    exact hp.1
  rw [hp] at D
  obtain ⟨p, ep⟩ : ∃ p, tail2 s = p := ⟨_, rfl⟩
  rw [ep] at D hps
  have D := Lib.hid D
  have hne : ((p.size : Int) != 64) = true := by simp; omega
  obtain ⟨Z, hZ⟩ : ∃ Z, Z = bytesV zero32 := ⟨_, rfl⟩
  have hsz : Z.size = 32 := by rw [hZ]; rfl
  obtain ⟨hz32, hst⟩ := zero_array (P := Try.prog) (t := 25) (n := 32) Z (by rw [hZ]; kernel_rfl) hsz (by rw [hZ]; kernel_rfl)
  have HZ := Lib.hid hZ; clear hZ hp hps ep hne66 h2
  go_enter Try.func49, Try.ntmps49
  go_wp2_with (first
    | (go_at_call 58; refine (D.out _).mono ?_; rintro e w1 ⟨rfl, rfl⟩)
    | (refine wpList_store_blk rfl 25 _ _ rfl w.heap.size Z rfl rfl Z ((Blk.new rfl).alloc _) rfl (by rw [hsz]; kernel_rfl) (by rw [HZ.out]; exact bytesV_one _) ?_; intro w2 U2 B2))
  refine bodyPost_ret (res_blk rfl rfl rfl B2 Try.underlying25 rfl (by rw [hsz]; kernel_rfl)) rfl ⟨by rw [← HZ.out]; rfl, ?_⟩
  exact U2.below (((Below.refl _ _).alloc (Nat.le_refl _) _).alloc (by simp) _) (Nat.le_refl _)

set_option maxHeartbeats 4000000 in
theorem pR_main (s : ByteArray) (w : World) (hp : prefB s = true) (h66 : s.size = 66) :
    Calls Try.prog 49 #[.string s] w fun e w' => e = .returned (.tuple #[.agg (bytesV (rootV s)), .int .i64 (rootE s)]) ∧ Below w.heap.size w w' := by
  have D := cut_any s
  obtain ⟨hps, hpb⟩ := tail2_yes hp
  have ER : Hid (rootB s = pairsB s 32) := by show _ = _; unfold rootB; rw [hp, h66]; rfl
  rw [hp] at D
  obtain ⟨p, ep⟩ : ∃ p, tail2 s = p := ⟨_, rfl⟩
  rw [ep] at D hps hpb
  have D := Lib.hid D
  have hp64 : p.size = 64 := by omega
  have HPB : Hid (∀ j, j < 64 → sB p j = sB s (j + 2)) := fun j hj => hpb j (by omega)
  have hne : ((p.size : Int) != 64) = false := by simp; omega
  obtain ⟨Z, hZ⟩ : ∃ Z, Z = bytesV zero32 := ⟨_, rfl⟩
  have hsz : Z.size = 32 := by rw [hZ]; rfl
  obtain ⟨hz32, hst⟩ := zero_array (P := Try.prog) (t := 25) (n := 32) Z (by rw [hZ]; kernel_rfl) hsz (by rw [hZ]; kernel_rfl)
  have HZ := Lib.hid hZ
  have HZ' := Lib.hid (hZ.trans zero32_val); clear hZ hp hps ep hpb h66
  have HP64 := Lib.hid hp64
  have hp1 : p.size ≤ 64 := by omega
  have hp2 : 64 ≤ p.size := by omega
  clear hp64
  go_enter Try.func49, Try.ntmps49
  go_wp2_with (go_at_call 58; refine (D.out _).mono ?_; rintro e w1 ⟨rfl, rfl⟩)
  clear hst hne
  go_loopw [24] (fun i wr => RPI w s i wr) (fun i _ => 32 - (intOf i).toNat)
  case atStart =>
    rw [HZ'.out]
    exact RPI.start (((Below.refl _ _).alloc (Nat.le_refl _) _).alloc (by simp) _) ((Blk.new rfl).alloc _) (Blk.new (by simp))
  case round =>
    obtain ⟨k, cs, hk, rfl, hprs, hcs, hc, ho, hb, bR, bD⟩ := hrel
    have HPR := Lib.hid hprs; clear hprs
    have HCS := Lib.hid hcs; clear hcs
    have HC := Lib.hid hc; clear hc
    have HO := Lib.hid ho; clear ho
    by_cases hlt : k < 32
    · obtain ⟨c1, HC1⟩ : ∃ c, Hid (c = sB s (2 * k + 2)) := ⟨_, rfl⟩
      obtain ⟨c2, HC2⟩ : ∃ c, Hid (c = sB s (2 * k + 3)) := ⟨_, rfl⟩
      have hcell1 : ((p[2 * k]'(by omega)).toNat : Int) = c1 := by rw [HC1.out, sB_at (by omega), HPB.out _ (by omega)]
      have hcell2 : ((p[2 * k + 1]'(by omega)).toNat : Int) = c2 := by rw [HC2.out, sB_at (by omega), HPB.out _ (by omega)]
      have r1 := sB_rng s (2 * k + 2)
      have r2 := sB_rng s (2 * k + 3)
      rw [← HC1.out] at r1
      rw [← HC2.out] at r2
      obtain ⟨h, eh⟩ : ∃ h, hexI c1 = h := ⟨_, rfl⟩
      obtain ⟨l, el⟩ : ∃ h, hexI c2 = h := ⟨_, rfl⟩
      have D1 := ib_any c1 r1.1 r1.2
      have D2 := ib_any c2 r2.1 r2.2
      rw [eh] at D1
      rw [el] at D2
      have D1 := Lib.hid D1
      have D2 := Lib.hid D2
      have g1 := dig16_rng c1
      have g2 := dig16_rng c2
      have EH := Lib.hid eh; clear eh
      have EL := Lib.hid el; clear el
      have hk0 : (0 : Int) ≤ (k : Int) := by omega
      have hk2 : (k : Int) < 32 := by omega
      by_cases hd : dig16 c1 < 16 ∧ dig16 c2 < 16
      · have e1 : h = dig16 c1 := by rw [← EH.out]; unfold hexI; rw [if_pos hd.1]
        have e2 : l = dig16 c2 := by rw [← EL.out]; unfold hexI; rw [if_pos hd.2]
        have h0 : 0 ≤ h := by omega
        have h1 : h < 16 := by omega
        have l0 : 0 ≤ l := by omega
        have l1 : l < 16 := by omega
        have HV : Hid (h * 16 + l = pairV s k) := by show _ = _; unfold pairV; rw [← HC1.out, ← HC2.out, e1, e2]
        have HD := Lib.hid (show dig16 (sB s (2 * k + 2)) < 16 ∧ dig16 (sB s (2 * k + 3)) < 16 by rw [← HC1.out, ← HC2.out]; exact hd)
        have hor := (or_nib h l h0 h1 l0 l1).1
        clear e1 e2 hd g1 g2 r1 r2
        obtain ⟨v, c3⟩ : ∃ v, wr.cell? ⟨w.heap.size + 1, k, none⟩ = some v := by rw [bD.cell]; exact ⟨cs[k]'(by have := HCS.out; omega), Array.getElem?_eq_getElem _⟩
        have c4 := bD.free
        go_wp2_with (first
          | (go_at_call_of 59 c1; refine (D1.out _).mono ?_; rintro e w1 ⟨rfl, rfl⟩)
          | (go_at_call_of 59 c2; refine (D2.out _).mono ?_; rintro e w1 ⟨rfl, rfl⟩))
        refine ⟨RPI.next hlt HPR.out HD.out.1 HD.out.2 HCS.out HC.out HO.out hb bR bD HV.out, by simp [intOf]; omega⟩
      · have hB : rootB s = false := by rw [ER.out]; exact pairsB_not hlt (by rw [← HC1.out, ← HC2.out]; exact hd)
        obtain ⟨e1, e2⟩ := rootV_no hB
        have E1 := Lib.hid e1; clear e1
        have E2 := Lib.hid e2; clear e2
        have hcase : h < 0 ∨ (0 ≤ h ∧ l < 0) := by
          have h1 := EH.out
          have h2 := EL.out
          unfold hexI at h1 h2
          by_cases hd1 : dig16 c1 < 16
          · right
            rw [if_pos hd1] at h1
            rw [if_neg (fun hc => hd ⟨hd1, hc⟩)] at h2
            omega
          · left
            rw [if_neg hd1] at h1
            omega
        clear hB hd g1 g2 r1 r2
        rcases hcase with hc | ⟨hc0, hc⟩
        case' inr => have hc1 : ¬ h < 0 := by omega
        all_goals
          go_wp2_with (first
            | (go_at_call_of 59 c1; refine (D1.out _).mono ?_; rintro e w1 ⟨rfl, rfl⟩)
            | (go_at_call_of 59 c2; refine (D2.out _).mono ?_; rintro e w1 ⟨rfl, rfl⟩)
            | (refine wpList_store_blk rfl 25 _ _ rfl w.heap.size Z rfl rfl _ bR (by rw [hsz]; rfl) (by rw [hsz]; kernel_rfl) (by rw [HZ.out]; exact bytesV_one _) ?_; intro w2 U2 B2))
          refine bodyPost_ret (res_blk rfl rfl rfl B2 Try.underlying25 rfl (by rw [hsz]; kernel_rfl)) rfl ⟨by rw [E1.out, E2.out, ← HZ.out]; rfl, ?_⟩
          exact U2.below hb (Nat.le_refl _)
    · obtain rfl : k = 32 := by omega
      have ecs := RPI.all HCS.out HC.out
      have hB : rootB s = true := by rw [ER.out]; exact HPR.out
      have E1 := Lib.hid (show rootV s = rootX s by unfold rootV; rw [if_pos hB])
      have E2 := Lib.hid (show rootE s = 0 by unfold rootE; rw [if_pos hB])
      have ECS := Lib.hid ecs
      clear hB ecs
      go_wp2_with (first
        | (refine wpList_load_blk rfl 25 _ rfl (w.heap.size + 1) rfl cs _ bD Try.underlying25 rfl (by rw [HCS.out]; kernel_rfl) ?_)
        | (refine wpList_store_blk rfl 25 _ _ rfl w.heap.size cs rfl rfl _ bR (by rw [HCS.out]; rfl) (by rw [HCS.out]; kernel_rfl) HO.out ?_; intro w2 U2 B2))
      refine bodyPost_ret (res_blk rfl rfl rfl B2 Try.underlying25 rfl (by rw [HCS.out]; kernel_rfl)) rfl ⟨by rw [E1.out, E2.out, ECS.out]; rfl, ?_⟩
      exact U2.below hb (Nat.le_refl _)

theorem pR_any (s : ByteArray) (w : World) (hs : s.size ≤ maxLen) :
    Calls Try.prog 49 #[.string s] w fun e w' => e = .returned (.tuple #[.agg (bytesV (rootV s)), .int .i64 (rootE s)]) ∧ Below w.heap.size w w' := by
  by_cases hp : prefB s = true
  · by_cases h66 : s.size = 66
    · exact pR_main s w hp h66
    · have hB : rootB s = false := by unfold rootB; simp [h66]
      obtain ⟨e1, e2⟩ := rootV_no hB
      rw [e1, e2]
      exact pR_bad2 s w hs hp h66
  · have hp' : prefB s = false := by simpa using hp
    have hB : rootB s = false := by unfold rootB; simp [hp']
    obtain ⟨e1, e2⟩ := rootV_no hB
    rw [e1, e2]
    exact pR_bad1 s w hs hp'

end Go.Proofs.Ytjlfacdmfcbjfaa
