/- Several texts as one: L15d. -/
import Derived.Test.YtidimiioglgliaaZ5
import Derived.Test.YtidimiioglgliaaHeld4
import Derived.Test.YtidimiioglgliaaHeldK
namespace Go.Proofs.Ytidimiioglgliaa

/-! L15d -/
section
set_option linter.unusedVariables false
set_option linter.unusedSimpArgs false
open Go.RowKit

set_option maxRecDepth 100000

set_option maxHeartbeats 32000000 in
theorem walk_BoostDirect (a0 : Option Addr) (len0 cap0 : Nat) (z0 : List Int) (a1 : Option Addr) (len1 cap1 : Nat) (z1 : List Int) (a2 : Int) (a3 : Int) (w : World) (w0 : IsRow .i64 w a0 len0 cap0 z0) (w1 : IsRow .i64 w a1 len1 cap1 z1) (w2 : (Lit.int .i64 a2).wf = true) (w3 : (Lit.int .u64 a3).wf = true) :
    Calls Try.prog 5 #[.slice a0 len0 cap0, .slice a1 len1 cap1, .int .i64 a2, .int .u64 a3] w fun e w' => e = .returned (.bool true) ∧ Below w.heap.size w w' := by
  have HTR := Lib.hid (fun u (hu : Below w.heap.size w u) => tree_any (.slice a0 len0 cap0) _ u ((rowInts w0).below hu))
  have HI1 := Lib.hid (fun u (hu : Below w.heap.size w u) => (rowInts w1).below hu)
  obtain ⟨l1, hl1⟩ : ∃ l, z1.take len1 = l := ⟨_, rfl⟩
  rw [hl1] at HI1
  have HAW := Lib.hid awake15_any
  have hi1 : (Try.prog.info? 43).map (·.size) = some 1 := by kernel_rfl
  obtain ⟨hz1, hst1⟩ := zero_array (P := Try.prog) (t := 43) (n := 1) #[.slice none 0 0] (by kernel_rfl) rfl (by kernel_rfl)
  have HR3 := Lib.hid (wf_u64 w3)
  clear hst1 w0 w1 w2 w3
  clear hl1
  go_enter Try.func5, Try.ntmps5
  go_upto_region 2 with (first
    | (go_at_call 12; refine (HTR.out _ (Below.refl _ _)).mono ?_; rintro e w1 ⟨v1, ns, rfl, hn1, hc1, hok, hl9, hb1⟩; obtain ⟨va, vc, rfl, _⟩ := hn1.shape; have HN1 := Lib.hid hn1; have HOK := Lib.hid hok; have HL9 := Lib.hid hl9; have HB1 := Lib.hid hb1; clear hn1 hc1 hok hl9 hb1)
    | ((with_reducible refine at_store (.tmp 9) ?_); refine wpList_store_blk rfl 43 (.tmp 9) _ rfl w1.heap.size #[.slice va ns.length vc] rfl rfl #[.slice none 0 0] (Blk.new rfl) rfl hi1 (by simp [Value.oneCell']) ?_; intro w2 U2 B2; have hb2 := U2.below ((Below.refl w1.heap.size w1).alloc (Nat.le_refl _) (.cells #[.slice none 0 0] 43)) (Nat.le_refl _); have S2 : Hid (AnS w w1.heap.size (.slice va ns.length vc) ns w2) := ⟨B2, HN1.out.call hb2, HB1.out.trans (hb2.mono HB1.out.size)⟩; clear U2 B2 hb2))
  obtain ⟨bt, hbt⟩ : ∃ x, w1.heap.size = x := ⟨_, rfl⟩
  rw [hbt] at S2 ⊢
  have hnl : ns.length ≤ 100000 := by have := HL9.out; omega
  have HNL := Lib.hid hnl
  have HPOS : Hid (0 < ns.length) := HOK.out.pos
  obtain ⟨m, hm⟩ : ∃ m, Hid (ns.length = m) := ⟨_, Lib.hid rfl⟩
  rw [hm.out] at S2 ⊢
  have hm9 : m ≤ 9 := by have := HL9.out; have := hm.out; omega
  have hm1 : 0 < m := by have := HPOS.out; have := hm.out; omega
  clear hbt HN1 HB1 hnl HTR
  (try simp only [Act.put])
  have HNU := Lib.hid (fun u (hu : AnS w bt (.slice va m vc) ns u) => num_any (.slice a1 len1 cap1) l1 m u (HI1.out u hu.b) (by omega))
  have HC0 := Lib.hid (S2.out.t.cell 0)
  go_upto_region 3 with (first
    | ((with_reducible refine at_load (.tmp 15) ?_); refine wpList_load_1 41 (.tmp 15) rfl bt 0 (.slice va m vc) HC0.out rfl _ Try.underlying41 rfl rfl ?_)
    | (go_at_call 13; refine (HNU.out _ S2.out).mono ?_; rintro e w3 ⟨v3, rfl, ho3, hb3⟩; have S3 : Hid (BdN w bt (.slice va m vc) v3 ns (numK l1 m) w3) := ⟨S2.out.call hb3, num_nums ho3 (by omega)⟩; clear ho3 hb3))
  obtain ⟨da, dc, rfl, _⟩ := NumsV.shapeW S3.out.d
  have HLX := Lib.hid (numK_len l1 m)
  obtain ⟨X, hX⟩ : ∃ x, numK l1 m = x := ⟨_, rfl⟩
  rw [hX] at S3 HLX ⊢
  clear hX HNU S2 HC0 HI1
  rw [HLX.out] at S3 ⊢
  obtain ⟨E, hlE, hE⟩ := i64_and31_nat a2
  obtain ⟨R0, hR0⟩ : ∃ r, rootK (E : Int) = r := ⟨_, rfl⟩
  have HRK : Hid (∀ u, Calls Try.prog 14 #[.int .i64 (E : Int)] u fun e w' => e = .returned (.agg (bytesL R0).toArray) ∧ Below u.heap.size u w') := fun u => by rw [← hR0]; exact root_k (E : Int) u
  have HIR : Hid (IsBytes 32 R0) := by show IsBytes 32 R0; rw [← hR0]; exact rootK_is _
  have hi2 : (Try.prog.info? 28).map (·.size) = some (bytesL R0).toArray.size := by rw [List.size_toArray, bytesL_len HIR.out]; kernel_rfl
  have HS0 : Hid ((bytesL R0).toArray.size = 32) := by show _ = _; rw [List.size_toArray, bytesL_len HIR.out]
  have HO0 : ∀ v ∈ (bytesL R0).toArray, v.oneCell' = true := fun v hv => bytesL_one _ v (by simpa using hv)
  obtain ⟨C0, hC0⟩ : ∃ C, Hid ((bytesL R0).toArray = C) := ⟨_, Lib.hid rfl⟩
  rw [hC0.out] at HRK hi2 HS0 HO0
  clear hR0
  obtain ⟨K, hlK, hK⟩ := i64_and16_nat (a2 / 64)
  obtain ⟨k, hk⟩ : ∃ x, K % m = x := ⟨_, rfl⟩
  have hrk : Int.tmod (K : Int) (m : Int) = (k : Int) := by rw [tmod_nat, hk]
  have hmk : k < m := by rw [← hk]; exact Nat.mod_lt _ hm1
  clear hk
  have hm0 : ((m : Int) == 0) = false := by simp; omega
  have hm0' : ¬ (m : Int) = 0 := by omega
  obtain ⟨am, ham, ham0, ham1⟩ : ∃ x, a3.tmod 4611686018427387905 = x ∧ 0 ≤ x ∧ x ≤ 4611686018427387904 := by
    have h := HR3.out
    refine ⟨_, rfl, ?_⟩
    rw [Int.tmod_eq_emod_of_nonneg h.1]; omega
  obtain ⟨z, hz⟩ : ∃ z, bits .and .i64 a2 32 = z := ⟨_, rfl⟩
  obtain ⟨qz, hqz⟩ : ∃ q : Bool, (z == 0) = q := ⟨_, rfl⟩
  have hm0q : ¬ m = 0 := by omega
  go_upto_if 24 with (first
    | (go_at_call 14; refine (HRK.out _).mono ?_; rintro e w4 ⟨rfl, hb4⟩; have S4 := Lib.hid (S3.out.call hb4); clear hb4)
    | ((with_reducible refine at_store (.tmp 11) ?_); refine wpList_store_blk rfl 28 (.tmp 11) _ rfl w4.heap.size C0 rfl rfl _ (Blk.new rfl) (by rw [HS0.out]; rfl) hi2 HO0 ?_; intro w5 U5 B5; have HB5 := Lib.hid (U5.below ((Below.refl w4.heap.size w4).alloc (Nat.le_refl _) _) (Nat.le_refl _)); have HR5 := Lib.hid B5; clear U5 B5))
  obtain ⟨br, hbr⟩ : ∃ x, w4.heap.size = x := ⟨_, rfl⟩
  rw [hbr] at HB5 HR5 ⊢
  have HBR := Lib.hid hbr
  have HN4 := Lib.hid (show NodesV w4 (.slice va m vc) ns from S4.out.a.n)
  have hkn : k < ns.length := by rw [hm.out]; exact hmk
  obtain ⟨nb, no, rfl, hl0, hbb, hna, hok⟩ := HN4.out.elem hkn
  have HRT : Hid (w4.rangeAt nb (no + k * 240 + 67) (bytesL ns[k].b.root)) := hna.bk.root
  have HIK : Hid (IsBytes 32 ns[k].b.root) := hok.1.2.2.2.1
  obtain ⟨rk, hrk0⟩ : ∃ r, ns[k].b.root = r := ⟨_, rfl⟩
  rw [hrk0] at HRT HIK
  have hiK : (Try.prog.info? 28).map (·.size) = some (bytesL rk).length := by rw [bytesL_len HIK.out]; kernel_rfl
  have HBB : Hid (nb < br) := by show _ < _; rw [← hbr]; exact hbb
  have HCK : Hid (∀ u, Below br w4 u → u.cell? ⟨bt, 0, none⟩ = some (.slice (some ⟨nb, no, none⟩) m vc)) := fun u hu => by rw [← hbr] at hu; exact (S4.out.a.t.call hu).cell 0
  have HRU : Hid (∀ u, Below br w4 u → u.rangeAt nb (no + k * 240 + 67) (bytesL rk)) := fun u hu => Below.rng hu HBB.out HRT.out
  have HLW : Hid (br ≤ w4.heap.size) := by show _ ≤ _; rw [← hbr]; exact Nat.le_refl _
  have SR5 : Hid (BrR w4 br w5) := ⟨HB5.out, C0, HS0.out, HR5.out⟩
  clear hbr hl0 hbb hna hok hrk0 hkn S3 hqz
  go_cut [24] from 25 to 37 (fun _ wx => ∃ r, IsBytes 32 r ∧ Blk wx br (bytesL r).toArray ∧ Below br w4 wx)
  case first =>
    cases qz
    case true =>
      go_upto_region 5 with fail
      have HSx0 : Hid ((fun u => BrR w4 br u) w5.drew) := SR5.out.call HLW.out (Below.drewN (n := 1) (Below.refl _ _) : Below w5.heap.size w5 w5.drew)
      refine wp_region_held_drew (S := fun u => BrR w4 br u) (by kernel_rfl) (HSx0.out) (fun _ => ?_)
      (try simp only [Act.put, List.setIfInBounds_toArray, List.set_cons_zero, List.set_cons_succ])
      obtain ⟨x0, hx0⟩ : ∃ x, w5.drew = x := ⟨_, rfl⟩
      rw [hx0] at HSx0 ⊢
      clear hx0
      refine wpAnyH_take (i := 0) (oi := ⟨some 25, _, _, _, _, _⟩) (v := .pointer (some ⟨bt, 0, none⟩)) rfl (by kernel_rfl) (by kernel_rfl) (by kernel_rfl) (fun _ _ _ h => h) (Or.inl ⟨by rfl, fun wz hz => ?_⟩) HSx0.out ?_
      · clear hz; go_simp; first | done | with_reducible rfl | rfl
      (try simp only [Act.put, List.setIfInBounds_toArray, List.set_cons_zero, List.set_cons_succ])
      refine held_load1 (oi := ⟨some 26, _, _, _, _, _⟩) 1 rfl (by kernel_rfl) (by kernel_rfl) (by kernel_rfl) (fun _ _ _ _ h => h) rfl 41 (.tmp 25) rfl bt (0) rfl (.slice (some ⟨nb, no, none⟩) m vc) _ (fun u' hu => HCK.out _ hu.b) Try.underlying41 rfl HSx0.out ?_
      (try simp only [Act.put, List.setIfInBounds_toArray, List.set_cons_zero, List.set_cons_succ])
      refine wpAnyH_take (i := 2) (oi := ⟨some 27, _, _, _, _, _⟩) (v := .int .i64 a2) rfl (by kernel_rfl) (by kernel_rfl) (by kernel_rfl) (fun _ _ _ h => h) (Or.inl ⟨by rfl, fun wz hz => ?_⟩) HSx0.out ?_
      · clear hz; go_simp; first | done | with_reducible rfl | rfl
      (try simp only [Act.put, List.setIfInBounds_toArray, List.set_cons_zero, List.set_cons_succ])
      refine wpAnyH_take (i := 3) (oi := ⟨some 28, _, _, _, _, _⟩) (v := .int .i64 (a2 / 64)) rfl (by kernel_rfl) (by kernel_rfl) (by kernel_rfl) (fun _ _ _ h => h) (Or.inl ⟨by rfl, fun wz hz => ?_⟩) HSx0.out ?_
      · clear hz; go_simp; first | done | with_reducible rfl | rfl
      (try simp only [Act.put, List.setIfInBounds_toArray, List.set_cons_zero, List.set_cons_succ])
      refine wpAnyH_take (i := 4) (oi := ⟨some 29, _, _, _, _, _⟩) (v := .int .i64 K) rfl (by kernel_rfl) (by kernel_rfl) (by kernel_rfl) (fun _ _ _ h => h) (Or.inl ⟨by rfl, fun wz hz => ?_⟩) HSx0.out ?_
      · clear hz; go_simp; first | done | with_reducible rfl | rfl
      (try simp only [Act.put, List.setIfInBounds_toArray, List.set_cons_zero, List.set_cons_succ])
      refine wpAnyH_take (i := 5) (oi := ⟨some 30, _, _, _, _, _⟩) (v := .pointer (some ⟨bt, 0, none⟩)) rfl (by kernel_rfl) (by kernel_rfl) (by kernel_rfl) (fun _ _ _ h => h) (Or.inl ⟨by rfl, fun wz hz => ?_⟩) HSx0.out ?_
      · clear hz; go_simp; first | done | with_reducible rfl | rfl
      (try simp only [Act.put, List.setIfInBounds_toArray, List.set_cons_zero, List.set_cons_succ])
      refine held_load1 (oi := ⟨some 31, _, _, _, _, _⟩) 6 rfl (by kernel_rfl) (by kernel_rfl) (by kernel_rfl) (fun _ _ _ _ h => h) rfl 41 (.tmp 30) rfl bt (0) rfl (.slice (some ⟨nb, no, none⟩) m vc) _ (fun u' hu => HCK.out _ hu.b) Try.underlying41 rfl HSx0.out ?_
      (try simp only [Act.put, List.setIfInBounds_toArray, List.set_cons_zero, List.set_cons_succ])
      refine wpAnyH_take (i := 7) (oi := ⟨some 32, _, _, _, _, _⟩) (v := .int .i64 m) rfl (by kernel_rfl) (by kernel_rfl) (by kernel_rfl) (fun _ _ _ h => h) (Or.inl ⟨by rfl, fun wz hz => ?_⟩) HSx0.out ?_
      · clear hz; go_simp; first | done | with_reducible rfl | rfl
      (try simp only [Act.put, List.setIfInBounds_toArray, List.set_cons_zero, List.set_cons_succ])
      refine wpAnyH_take (i := 8) (oi := ⟨some 33, _, _, _, _, _⟩) (v := .int .i64 k) rfl (by kernel_rfl) (by kernel_rfl) (by kernel_rfl) (fun _ _ _ h => h) (Or.inl ⟨by rfl, fun wz hz => ?_⟩) HSx0.out ?_
      · clear hz; go_simp; first | done | with_reducible rfl | rfl
      (try simp only [Act.put, List.setIfInBounds_toArray, List.set_cons_zero, List.set_cons_succ])
      refine wpAnyH_take (i := 9) (oi := ⟨some 34, _, _, _, _, _⟩) (v := .pointer (some ⟨nb, no + k * 240, none⟩)) rfl (by kernel_rfl) (by kernel_rfl) (by kernel_rfl) (fun _ _ _ h => h) (Or.inl ⟨by rfl, fun wz hz => ?_⟩) HSx0.out ?_
      · clear hz; go_simp; first | done | with_reducible rfl | rfl
      (try simp only [Act.put, List.setIfInBounds_toArray, List.set_cons_zero, List.set_cons_succ])
      refine wpAnyH_take (i := 10) (oi := ⟨some 35, _, _, _, _, _⟩) (v := .pointer (some ⟨nb, no + k * 240, none⟩)) rfl (by kernel_rfl) (by kernel_rfl) (by kernel_rfl) (fun _ _ _ h => h) (Or.inl ⟨by rfl, fun wz hz => ?_⟩) HSx0.out ?_
      · clear hz; go_simp; first | done | with_reducible rfl | rfl
      (try simp only [Act.put, List.setIfInBounds_toArray, List.set_cons_zero, List.set_cons_succ])
      refine wpAnyH_take (i := 11) (oi := ⟨some 36, _, _, _, _, _⟩) (v := .pointer (some ⟨nb, no + k * 240 + 67, none⟩)) rfl (by kernel_rfl) (by kernel_rfl) (by kernel_rfl) (fun _ _ _ h => h) (Or.inl ⟨by rfl, fun wz hz => ?_⟩) HSx0.out ?_
      · clear hz; go_simp; first | done | with_reducible rfl | rfl
      (try simp only [Act.put, List.setIfInBounds_toArray, List.set_cons_zero, List.set_cons_succ])
      refine held_load (oi := ⟨some 37, _, _, _, _, _⟩) 12 rfl (by kernel_rfl) (by kernel_rfl) (by kernel_rfl) (fun _ _ _ _ h => h) rfl 28 (.tmp 36) rfl nb ((no + k * 240 + 67)) rfl (bytesL rk) _ (fun u' hu => HRU.out _ hu.b) Try.underlying28 rfl (hiK) HSx0.out ?_
      (try simp only [Act.put, List.setIfInBounds_toArray, List.set_cons_zero, List.set_cons_succ])
      refine wpAnyH_ready (rs := [13]) (by kernel_rfl) (by simp) ?_
      refine AllReadyH.cons (o := ⟨none, _, _, _, _, _⟩) rfl (fun K hK => ?_) AllReadyH.nil
      obtain ⟨cs, hcs1, hcs2⟩ := HSx0.out.r
      refine wp_store_blk 28 (.tmp 11) (.tmp 37) rfl br (bytesL rk).toArray rfl rfl cs hcs2 (by rw [hcs1, List.size_toArray, bytesL_len HIK.out]) (by rw [List.size_toArray]; exact hiK) (fun v hv => bytesL_one _ v (by simpa using hv)) ?_
      intro x1 U1 B1
      have HB1 := Lib.hid (U1.below HSx0.out.b (Nat.le_refl _))
      have HK1 := Lib.hid B1
      have HSx1 : Hid (BrR w4 br x1) := ⟨HB1.out, _, by rw [List.size_toArray, bytesL_len HIK.out], HK1.out⟩
      clear U1 B1 hcs1 hcs2
      refine hK.out _ _ (HSx1.out) (fun _ => ?_)
      clear hK K
      (try simp only [Act.put, List.setIfInBounds_toArray, List.set_cons_zero, List.set_cons_succ])
      refine wpAnyH_done (by kernel_rfl) ?_ _
      go_wp2_with fail
      go_meet
      case rel => exact ⟨rk, HIK.out, HK1.out, HB1.out⟩
    case false =>
      go_wp2_with fail
      go_meet
      case rel => exact ⟨R0, HIR.out, by rw [hC0.out]; exact HR5.out, HB5.out⟩
  case rest =>
    obtain ⟨r, hir, hbk, hbw⟩ := hcut
    have HIR := Lib.hid hir
    have S6 : Hid (BdS w bt br (.slice (some ⟨nb, no, none⟩) m vc) (.slice da m dc) ns X (bytesL r).toArray wc) := ⟨S4.out.call (by rw [HBR.out]; exact hbw), hbk⟩
    have HLQ : Hid (X.length = ns.length) := by show _ = _; rw [HLX.out, hm.out]
    have HD1 : Hid (∀ u, BdS w bt br (.slice (some ⟨nb, no, none⟩) m vc) (.slice da m dc) ns X (bytesL r).toArray u → Calls Try.prog 16 #[.agg #[.slice (some ⟨nb, no, none⟩) m vc], .slice da m dc, .agg (bytesL r).toArray, .int .u64 am] u fun e w' => ∃ v', e = .returned v' ∧ NumsV w' v' (booN ns X r am) ∧ Below u.heap.size u w') := fun u hu => by
      have h := cboo_any _ _ ns X r am u hu.a.a.n hu.a.d HLQ.out (by rw [HLX.out]; omega) HIR.out
      refine h.mono ?_
      rintro e w' ⟨v', rfl, h1, _, h3⟩
      exact ⟨v', rfl, h1, h3⟩
    have HD2 : Hid (∀ u, BdS w bt br (.slice (some ⟨nb, no, none⟩) m vc) (.slice da m dc) ns X (bytesL r).toArray u → Calls Try.prog 17 #[.agg #[.slice (some ⟨nb, no, none⟩) m vc], .slice da m dc, .agg (bytesL r).toArray, .int .u64 am] u fun e w' => ∃ v', e = .returned v' ∧ NumsV w' v' (booN ns X r am) ∧ Below u.heap.size u w') := fun u hu => by
      have h := boo_any _ _ ns X r am u hu.a.a.n hu.a.d HLQ.out (by rw [HLX.out]; omega) HIR.out
      refine h.mono ?_
      rintro e w' ⟨v', rfl, h1, _, h3⟩
      exact ⟨v', rfl, h1, h3⟩
    obtain ⟨BO, hBO⟩ : ∃ x, booN ns X r am = x := ⟨_, rfl⟩
    rw [hBO] at HD1 HD2
    have hiR : (Try.prog.info? 28).map (·.size) = some (bytesL r).length := by rw [bytesL_len HIR.out]; kernel_rfl
    obtain ⟨Y, hY⟩ : ∃ Y, bytesL r = Y := ⟨_, rfl⟩
    rw [hY] at S6 HD1 HD2 hiR
    have HYR : Hid (∀ u, BdS w bt br (.slice (some ⟨nb, no, none⟩) m vc) (.slice da m dc) ns X Y.toArray u → u.rangeAt br 0 Y) := fun u hu => by have h := hu.r.range; rwa [List.toList_toArray] at h
    have HSM := Lib.hid d_same
    clear hir hbk hbw hBO hY HCK HRU HRT HN4 S4 SR5
    obtain ⟨w6, hw6⟩ : ∃ z, wc = z := ⟨_, rfl⟩
    rw [hw6] at S6 ⊢
    clear hw6
    go_upto_region 7 with fail
    have HSx0 : Hid ((fun u => BdS w bt br (.slice (some ⟨nb, no, none⟩) m vc) (.slice da m dc) ns X Y.toArray u) w6.drew) := S6.out.call (Below.drewN (n := 1) (Below.refl _ _) : Below w6.heap.size w6 w6.drew)
    refine wp_region_held_drew (S := fun u => BdS w bt br (.slice (some ⟨nb, no, none⟩) m vc) (.slice da m dc) ns X Y.toArray u) (by kernel_rfl) (HSx0.out) (fun _ => ?_)
    (try simp only [Act.put, List.setIfInBounds_toArray, List.set_cons_zero, List.set_cons_succ])
    obtain ⟨x0, hx0⟩ : ∃ x, w6.drew = x := ⟨_, rfl⟩
    rw [hx0] at HSx0 ⊢
    clear hx0
    refine held_load (oi := ⟨some 40, _, _, _, _, _⟩) 0 rfl (by kernel_rfl) (by kernel_rfl) (by kernel_rfl) (fun _ _ _ _ h => h) rfl 43 (.tmp 9) rfl bt (0) rfl [.slice (some ⟨nb, no, none⟩) m vc] _ (fun u' hu => hu.a.a.t.range) Try.underlying43 rfl (hi1) HSx0.out ?_
    (try simp only [Act.put, List.setIfInBounds_toArray, List.set_cons_zero, List.set_cons_succ])
    refine wpAnyH_take (i := 1) (oi := ⟨some 41, _, _, _, _, _⟩) (v := .slice da m dc) rfl (by kernel_rfl) (by kernel_rfl) (by kernel_rfl) (fun _ _ _ h => h) (Or.inl ⟨by rfl, fun wz hz => ?_⟩) HSx0.out ?_
    · clear hz; go_simp; first | done | with_reducible rfl | rfl
    (try simp only [Act.put, List.setIfInBounds_toArray, List.set_cons_zero, List.set_cons_succ])
    refine held_load (oi := ⟨some 42, _, _, _, _, _⟩) 2 rfl (by kernel_rfl) (by kernel_rfl) (by kernel_rfl) (fun _ _ _ _ h => h) rfl 28 (.tmp 11) rfl br (0) rfl Y _ (fun u' hu => HYR.out _ hu) Try.underlying28 rfl (hiR) HSx0.out ?_
    (try simp only [Act.put, List.setIfInBounds_toArray, List.set_cons_zero, List.set_cons_succ])
    refine wpAnyH_take (i := 3) (oi := ⟨some 43, _, _, _, _, _⟩) (v := .int .u64 am) rfl (by kernel_rfl) (by kernel_rfl) (by kernel_rfl) (fun _ _ _ h => h) (Or.inl ⟨by rfl, fun wz hz => ?_⟩) HSx0.out ?_
    · clear hz; go_simp; first | done | with_reducible rfl | rfl
    (try simp only [Act.put, List.setIfInBounds_toArray, List.set_cons_zero, List.set_cons_succ])
    refine held_load (oi := ⟨some 45, _, _, _, _, _⟩) 5 rfl (by kernel_rfl) (by kernel_rfl) (by kernel_rfl) (fun _ _ _ _ h => h) rfl 43 (.tmp 9) rfl bt (0) rfl [.slice (some ⟨nb, no, none⟩) m vc] _ (fun u' hu => hu.a.a.t.range) Try.underlying43 rfl (hi1) HSx0.out ?_
    (try simp only [Act.put, List.setIfInBounds_toArray, List.set_cons_zero, List.set_cons_succ])
    refine wpAnyH_take (i := 6) (oi := ⟨some 46, _, _, _, _, _⟩) (v := .slice da m dc) rfl (by kernel_rfl) (by kernel_rfl) (by kernel_rfl) (fun _ _ _ h => h) (Or.inl ⟨by rfl, fun wz hz => ?_⟩) HSx0.out ?_
    · clear hz; go_simp; first | done | with_reducible rfl | rfl
    (try simp only [Act.put, List.setIfInBounds_toArray, List.set_cons_zero, List.set_cons_succ])
    refine held_load (oi := ⟨some 47, _, _, _, _, _⟩) 7 rfl (by kernel_rfl) (by kernel_rfl) (by kernel_rfl) (fun _ _ _ _ h => h) rfl 28 (.tmp 11) rfl br (0) rfl Y _ (fun u' hu => HYR.out _ hu) Try.underlying28 rfl (hiR) HSx0.out ?_
    (try simp only [Act.put, List.setIfInBounds_toArray, List.set_cons_zero, List.set_cons_succ])
    refine wpAnyH_take (i := 8) (oi := ⟨some 48, _, _, _, _, _⟩) (v := .int .u64 am) rfl (by kernel_rfl) (by kernel_rfl) (by kernel_rfl) (fun _ _ _ h => h) (Or.inl ⟨by rfl, fun wz hz => ?_⟩) HSx0.out ?_
    · clear hz; go_simp; first | done | with_reducible rfl | rfl
    (try simp only [Act.put, List.setIfInBounds_toArray, List.set_cons_zero, List.set_cons_succ])
    refine wpAnyH_ready (rs := [4]) (by kernel_rfl) (by simp) ?_
    refine AllReadyH.cons (o := ⟨some 44, _, _, _, _, _⟩) rfl (fun K hK => ?_) AllReadyH.nil
    go_simp
    refine (HD1.out x0 HSx0.out).mono ?_
    rintro e x1 ⟨d1, rfl, hn1, hb⟩
    have HN1 := Lib.hid hn1
    clear hn1
    have HSx1 : Hid ((fun u => BdS w bt br (.slice (some ⟨nb, no, none⟩) m vc) (.slice da m dc) ns X Y.toArray u) x1) := HSx0.out.call hb
    clear hb
    refine hK.out _ _ (HSx1.out) (fun _ => ?_)
    clear hK K
    (try simp only [Act.put, List.setIfInBounds_toArray, List.set_cons_zero, List.set_cons_succ])
    refine wpAnyH_ready (rs := [9]) (by kernel_rfl) (by simp) ?_
    refine AllReadyH.cons (o := ⟨some 49, _, _, _, _, _⟩) rfl (fun K hK => ?_) AllReadyH.nil
    go_simp
    refine (HD2.out x1 HSx1.out).mono ?_
    rintro e x2 ⟨d2, rfl, hn2, hb⟩
    have HN2 := Lib.hid hn2
    clear hn2
    have HN1 := Lib.hid ((⟨HN1.out.1.below hb, HN1.out.2⟩ : NumsV _ _ _))
    have HSx2 : Hid ((fun u => BdS w bt br (.slice (some ⟨nb, no, none⟩) m vc) (.slice da m dc) ns X Y.toArray u) x2) := HSx1.out.call hb
    clear hb
    refine hK.out _ _ (HSx2.out) (fun _ => ?_)
    clear hK K
    (try simp only [Act.put, List.setIfInBounds_toArray, List.set_cons_zero, List.set_cons_succ])
    refine wpAnyH_ready (rs := [10]) (by kernel_rfl) (by simp) ?_
    refine AllReadyH.cons (o := ⟨some 50, _, _, _, _, _⟩) rfl (fun K hK => ?_) AllReadyH.nil
    go_simp
    refine (HSM.out _ _ BO x2 HN1.out HN2.out).mono ?_
    rintro e x3 ⟨rfl, hb⟩
    have HSx3 : Hid ((fun u => BdS w bt br (.slice (some ⟨nb, no, none⟩) m vc) (.slice da m dc) ns X Y.toArray u) x3) := HSx2.out.call hb
    clear hb
    refine hK.out _ _ (HSx3.out) (fun _ => ?_)
    clear hK K
    (try simp only [Act.put, List.setIfInBounds_toArray, List.set_cons_zero, List.set_cons_succ])
    refine wpAnyH_take (i := 11) (oi := ⟨some 51, _, _, _, _, _⟩) (v := .bool true) rfl (by kernel_rfl) (by kernel_rfl) (by kernel_rfl) (fun _ _ _ h => h) (Or.inl ⟨by rfl, fun wz hz => ?_⟩) HSx3.out ?_
    · clear hz; go_simp; first | done | with_reducible rfl | rfl
    (try simp only [Act.put, List.setIfInBounds_toArray, List.set_cons_zero, List.set_cons_succ])
    refine wpAnyH_ready (rs := [12]) (by kernel_rfl) (by simp) ?_
    refine AllReadyH.cons (o := ⟨some 52, _, _, _, _, _⟩) rfl (fun K hK => ?_) AllReadyH.nil
    go_simp
    refine (HAW.out x3).mono ?_
    rintro e x4 ⟨rfl, hb⟩
    have HSx4 : Hid ((fun u => BdS w bt br (.slice (some ⟨nb, no, none⟩) m vc) (.slice da m dc) ns X Y.toArray u) x4) := HSx3.out.call hb
    clear hb
    refine hK.out _ _ (HSx4.out) (fun _ => ?_)
    clear hK K
    (try simp only [Act.put, List.setIfInBounds_toArray, List.set_cons_zero, List.set_cons_succ])
    refine wpAnyH_take (i := 13) (oi := ⟨some 53, _, _, _, _, _⟩) (v := .bool true) rfl (by kernel_rfl) (by kernel_rfl) (by kernel_rfl) (fun _ _ _ h => h) (Or.inl ⟨by rfl, fun wz hz => ?_⟩) HSx4.out ?_
    · clear hz; go_simp; first | done | with_reducible rfl | rfl
    (try simp only [Act.put, List.setIfInBounds_toArray, List.set_cons_zero, List.set_cons_succ])
    refine wpAnyH_ready (rs := [14]) (by kernel_rfl) (by simp) ?_
    refine AllReadyH.cons (o := ⟨some 8, _, _, _, _, _⟩) rfl (fun K hK => ?_) AllReadyH.nil
    go_simp
    refine hK.out _ _ (HSx4.out) (fun _ => ?_)
    clear hK K
    (try simp only [Act.put, List.setIfInBounds_toArray, List.set_cons_zero, List.set_cons_succ])
    refine wpAnyH_done (by kernel_rfl) ?_ _
    go_wp2_with fail
    go_ret
    exact ⟨rfl, HSx4.out.a.a.b⟩
end

end Go.Proofs.Ytidimiioglgliaa
