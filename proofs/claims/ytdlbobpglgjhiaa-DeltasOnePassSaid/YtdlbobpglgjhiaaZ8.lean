/- Several texts as one: L14o. -/
import Derived.Test.YtdlbobpglgjhiaaZ5
namespace Go.Proofs.Ytdlbobpglgjhiaa

/-! L14o -/
section
set_option linter.unusedVariables false
set_option linter.unusedSimpArgs false
open Go.RowKit

set_option maxRecDepth 100000

set_option maxHeartbeats 32000000 in
theorem walk_DeltasOnePass (a0 : Option Addr) (len0 cap0 : Nat) (z0 : List Int) (a1 : Option Addr) (len1 cap1 : Nat) (z1 : List Int) (a2 : Option Addr) (len2 cap2 : Nat) (z2 : List Int) (w : World) (w0 : IsRow .i64 w a0 len0 cap0 z0) (w1 : IsRow .i64 w a1 len1 cap1 z1) (w2 : IsRow .i64 w a2 len2 cap2 z2) :
    Calls Try.prog 5 #[.slice a0 len0 cap0, .slice a1 len1 cap1, .slice a2 len2 cap2] w fun e w' => e = .returned (.bool true) ∧ Below w.heap.size w w' := by
  have HTR := Lib.hid (fun u (hu : Below w.heap.size w u) => tree_any (.slice a0 len0 cap0) _ u ((rowInts w0).below hu))
  have HI1 := Lib.hid (fun u (hu : Below w.heap.size w u) => (rowInts w1).below hu)
  obtain ⟨l1, hl1⟩ : ∃ l, z1.take len1 = l := ⟨_, rfl⟩
  rw [hl1] at HI1
  have HI2 := Lib.hid (fun u (hu : Below w.heap.size w u) => (rowInts w2).below hu)
  obtain ⟨l2, hl2⟩ : ∃ l, z2.take len2 = l := ⟨_, rfl⟩
  rw [hl2] at HI2
  have HAW := Lib.hid awake14_any
  have hi1 : (Try.prog.info? 25).map (·.size) = some 1 := by kernel_rfl
  obtain ⟨hz1, hst1⟩ := zero_array (P := Try.prog) (t := 25) (n := 1) #[.slice none 0 0] (by kernel_rfl) rfl (by kernel_rfl)
  clear hst1 w0 w1 w2
  clear hl1
  clear hl2
  go_enter Try.func5, Try.ntmps5
  go_upto_region 2 with (first
    | (go_at_call 9; refine (HTR.out _ (Below.refl _ _)).mono ?_; rintro e w1 ⟨v1, ns, rfl, hn1, hc1, hok, hl9, hb1⟩; obtain ⟨va, vc, rfl, _⟩ := hn1.shape; have HN1 := Lib.hid hn1; have HOK := Lib.hid hok; have HL9 := Lib.hid hl9; have HB1 := Lib.hid hb1; clear hn1 hc1 hok hl9 hb1)
    | ((with_reducible refine at_store (.tmp 7) ?_); refine wpList_store_blk rfl 25 (.tmp 7) _ rfl w1.heap.size #[.slice va ns.length vc] rfl rfl #[.slice none 0 0] (Blk.new rfl) rfl hi1 (by simp [Value.oneCell']) ?_; intro w2 U2 B2; have hb2 := U2.below ((Below.refl w1.heap.size w1).alloc (Nat.le_refl _) (.cells #[.slice none 0 0] 25)) (Nat.le_refl _); have S2 : Hid (AnS w w1.heap.size (.slice va ns.length vc) ns w2) := ⟨B2, HN1.out.call hb2, HB1.out.trans (hb2.mono HB1.out.size)⟩; clear U2 B2 hb2))
  obtain ⟨bt, hbt⟩ : ∃ x, w1.heap.size = x := ⟨_, rfl⟩
  rw [hbt] at S2 ⊢
  have hnl : ns.length ≤ 100000 := by have := HL9.out; omega
  have HNL := Lib.hid hnl
  have HPOS : Hid (0 < ns.length) := HOK.out.pos
  obtain ⟨m, hm⟩ : ∃ m, Hid (ns.length = m) := ⟨_, Lib.hid rfl⟩
  rw [hm.out] at S2 ⊢
  have hm9 : m ≤ 9 := by have := HL9.out; have := hm.out; omega
  have hm1 : 0 < m := by have := HPOS.out; have := hm.out; omega
  clear hbt HN1 HB1 hnl HTR
  (try simp only [Act.put])
  go_cut [8, 9] from 14 to 23 (fun pv qv wx => ∃ p q, pv = p ∧ qv = q ∧ DnS w bt (.slice va m vc) ns p q (numK l1 m) (numK l2 m) wx)
  case first =>
    have HSx0 : Hid ((fun u => AnS w bt (.slice va m vc) ns u) w2.drew) := S2.out.call (Below.drewN (n := 1) (Below.refl _ _) : Below w2.heap.size w2 w2.drew)
    refine wp_region_held_drew (S := fun u => AnS w bt (.slice va m vc) ns u) (by kernel_rfl) (HSx0.out) (fun _ => ?_)
    (try simp only [Act.put, List.setIfInBounds_toArray, List.set_cons_zero, List.set_cons_succ])
    obtain ⟨x0, hx0⟩ : ∃ x, w2.drew = x := ⟨_, rfl⟩
    rw [hx0] at HSx0 ⊢
    clear hx0
    refine wpAnyH_take (i := 0) (oi := ⟨some 14, _, _, _, _, _⟩) (v := .slice a1 len1 cap1) rfl (by kernel_rfl) (by kernel_rfl) (by kernel_rfl) (fun _ _ _ h => h) (Or.inl ⟨by rfl, fun wz hz => ?_⟩) HSx0.out ?_
    · clear hz; go_simp; first | done | with_reducible rfl | rfl
    (try simp only [Act.put, List.setIfInBounds_toArray, List.set_cons_zero, List.set_cons_succ])
    refine wpAnyH_take (i := 1) (oi := ⟨some 15, _, _, _, _, _⟩) (v := .pointer (some ⟨bt, 0, none⟩)) rfl (by kernel_rfl) (by kernel_rfl) (by kernel_rfl) (fun _ _ _ h => h) (Or.inl ⟨by rfl, fun wz hz => ?_⟩) HSx0.out ?_
    · clear hz; go_simp; first | done | with_reducible rfl | rfl
    (try simp only [Act.put, List.setIfInBounds_toArray, List.set_cons_zero, List.set_cons_succ])
    refine held_load1 (oi := ⟨some 16, _, _, _, _, _⟩) 2 rfl (by kernel_rfl) (by kernel_rfl) (by kernel_rfl) (fun _ _ _ _ h => h) rfl 23 (.tmp 15) rfl bt (0) rfl (.slice va m vc) _ (fun u' hu => hu.t.cell 0) Try.underlying23 rfl HSx0.out ?_
    (try simp only [Act.put, List.setIfInBounds_toArray, List.set_cons_zero, List.set_cons_succ])
    refine wpAnyH_take (i := 3) (oi := ⟨some 17, _, _, _, _, _⟩) (v := .int .i64 m) rfl (by kernel_rfl) (by kernel_rfl) (by kernel_rfl) (fun _ _ _ h => h) (Or.inl ⟨by rfl, fun wz hz => ?_⟩) HSx0.out ?_
    · clear hz; go_simp; first | done | with_reducible rfl | rfl
    (try simp only [Act.put, List.setIfInBounds_toArray, List.set_cons_zero, List.set_cons_succ])
    refine wpAnyH_take (i := 5) (oi := ⟨some 19, _, _, _, _, _⟩) (v := .slice a2 len2 cap2) rfl (by kernel_rfl) (by kernel_rfl) (by kernel_rfl) (fun _ _ _ h => h) (Or.inl ⟨by rfl, fun wz hz => ?_⟩) HSx0.out ?_
    · clear hz; go_simp; first | done | with_reducible rfl | rfl
    (try simp only [Act.put, List.setIfInBounds_toArray, List.set_cons_zero, List.set_cons_succ])
    refine wpAnyH_take (i := 6) (oi := ⟨some 20, _, _, _, _, _⟩) (v := .pointer (some ⟨bt, 0, none⟩)) rfl (by kernel_rfl) (by kernel_rfl) (by kernel_rfl) (fun _ _ _ h => h) (Or.inl ⟨by rfl, fun wz hz => ?_⟩) HSx0.out ?_
    · clear hz; go_simp; first | done | with_reducible rfl | rfl
    (try simp only [Act.put, List.setIfInBounds_toArray, List.set_cons_zero, List.set_cons_succ])
    refine held_load1 (oi := ⟨some 21, _, _, _, _, _⟩) 7 rfl (by kernel_rfl) (by kernel_rfl) (by kernel_rfl) (fun _ _ _ _ h => h) rfl 23 (.tmp 20) rfl bt (0) rfl (.slice va m vc) _ (fun u' hu => hu.t.cell 0) Try.underlying23 rfl HSx0.out ?_
    (try simp only [Act.put, List.setIfInBounds_toArray, List.set_cons_zero, List.set_cons_succ])
    refine wpAnyH_take (i := 8) (oi := ⟨some 22, _, _, _, _, _⟩) (v := .int .i64 m) rfl (by kernel_rfl) (by kernel_rfl) (by kernel_rfl) (fun _ _ _ h => h) (Or.inl ⟨by rfl, fun wz hz => ?_⟩) HSx0.out ?_
    · clear hz; go_simp; first | done | with_reducible rfl | rfl
    (try simp only [Act.put, List.setIfInBounds_toArray, List.set_cons_zero, List.set_cons_succ])
    refine wpAnyH_ready (rs := [4]) (by kernel_rfl) (by simp) ?_
    refine AllReadyH.cons (o := ⟨some 18, _, _, _, _, _⟩) rfl (fun K hK => ?_) AllReadyH.nil
    go_simp
    refine (num_any (.slice a1 len1 cap1) l1 m x0 (HI1.out x0 HSx0.out.b) (by omega)).mono ?_
    rintro e x1 ⟨p1, rfl, ho1, hb⟩
    have HP1 := Lib.hid (num_nums ho1 (by omega))
    clear ho1
    have HSx1 : Hid ((fun u => AnS w bt (.slice va m vc) ns u) x1) := HSx0.out.call hb
    clear hb
    refine hK.out _ _ (HSx1.out) (fun _ => ?_)
    clear hK K
    (try simp only [Act.put, List.setIfInBounds_toArray, List.set_cons_zero, List.set_cons_succ])
    refine wpAnyH_ready (rs := [9]) (by kernel_rfl) (by simp) ?_
    refine AllReadyH.cons (o := ⟨some 23, _, _, _, _, _⟩) rfl (fun K hK => ?_) AllReadyH.nil
    go_simp
    refine (num_any (.slice a2 len2 cap2) l2 m x1 (HI2.out x1 HSx1.out.b) (by omega)).mono ?_
    rintro e x2 ⟨p2, rfl, ho2, hb⟩
    have HP2 := Lib.hid (num_nums ho2 (by omega))
    clear ho2
    have HP1 := Lib.hid ((⟨HP1.out.1.below hb, HP1.out.2⟩ : NumsV _ _ _))
    have HSx2 : Hid ((fun u => AnS w bt (.slice va m vc) ns u) x2) := HSx1.out.call hb
    clear hb
    refine hK.out _ _ (HSx2.out) (fun _ => ?_)
    clear hK K
    (try simp only [Act.put, List.setIfInBounds_toArray, List.set_cons_zero, List.set_cons_succ])
    refine wpAnyH_ready (rs := [10]) (by kernel_rfl) (by simp) ?_
    refine AllReadyH.cons (o := ⟨some 8, _, _, _, _, _⟩) rfl (fun K hK => ?_) AllReadyH.nil
    go_simp
    refine hK.out _ _ (HSx2.out) (fun _ => ?_)
    clear hK K
    (try simp only [Act.put, List.setIfInBounds_toArray, List.set_cons_zero, List.set_cons_succ])
    refine wpAnyH_ready (rs := [11]) (by kernel_rfl) (by simp) ?_
    refine AllReadyH.cons (o := ⟨some 9, _, _, _, _, _⟩) rfl (fun K hK => ?_) AllReadyH.nil
    go_simp
    refine hK.out _ _ (HSx2.out) (fun _ => ?_)
    clear hK K
    (try simp only [Act.put, List.setIfInBounds_toArray, List.set_cons_zero, List.set_cons_succ])
    refine wpAnyH_done (by kernel_rfl) ?_ _
    go_wp2_with fail
    go_meet
    case rel => exact ⟨p1, p2, rfl, rfl, HSx2.out, HP1.out, HP2.out⟩
  case rest =>
    obtain ⟨p, q, rfl, rfl, hs⟩ := hcut
    have S3 := Lib.hid hs
    obtain ⟨pa, pc, rfl, _⟩ := NumsV.shapeW hs.p
    obtain ⟨qa, qc, rfl, _⟩ := NumsV.shapeW hs.q
    have HLX := Lib.hid (numK_len l1 m)
    have HLY := Lib.hid (numK_len l2 m)
    have HBX : Hid (∀ i, 0 ≤ (numK l1 m).getD i 0 ∧ (numK l1 m).getD i 0 ≤ 864691128455135232) := fun i => by have := num_at l1 m i; omega
    have HBY : Hid (∀ i, 0 ≤ (numK l2 m).getD i 0 ∧ (numK l2 m).getD i 0 ≤ 864691128455135232) := fun i => by have := num_at l2 m i; omega
    obtain ⟨X, hX⟩ : ∃ x, numK l1 m = x := ⟨_, rfl⟩
    obtain ⟨Y, hY⟩ : ∃ x, numK l2 m = x := ⟨_, rfl⟩
    rw [hX] at S3 HLX HBX ⊢
    rw [hY] at S3 HLY HBY ⊢
    clear hs S2 hX hY HI1 HI2
    rw [HLX.out] at S3 ⊢
    rw [HLY.out] at S3 ⊢
    have HML : Hid (∀ u, DnS w bt (.slice va m vc) ns (.slice pa m pc) (.slice qa m qc) X Y u → Calls Try.prog 12 #[.agg #[.slice va m vc], .slice pa m pc, .slice qa m qc] u fun e w' => ∃ v', e = .returned v' ∧ DeltasV w' v' (movK X Y m) ∧ Below u.heap.size u w') := fun u hu => by
      have h := cmov_any (.slice va m vc) (.slice pa m pc) (.slice qa m qc) ns X Y HNL.out u hu.a.n hu.p hu.q (by rw [HLX.out, hm.out]) (by rw [HLY.out, hm.out])
      rw [hm.out] at h
      exact h
    have HCS := Lib.hid (fun u (hu : AnS w bt (.slice va m vc) ns u) dv dl hd hl => d_sub HOK.out HNL.out hm.out u hu dv dl hd hl)
    have HCA : Hid (∀ u, AnS w bt (.slice va m vc) ns u → ∀ wv dv, NumsV u wv (sbtL ns X m) → DeltasV u dv (movK X Y m) → Calls Try.prog 16 #[.agg #[.slice va m vc], wv, dv] u fun e w' => ∃ v', e = .returned (.tuple #[v', .int .i64 0]) ∧ NumsV w' v' (sbtL ns Y m) ∧ Below u.heap.size u w') := fun u hu wv dv hw hd => by
      have h := capl_any (.slice va m vc) wv dv ns HOK.out (sbtL ns X m) (movK X Y m) HNL.out u hu.n hw hd
      have e := one_pass (ns := ns) (by rw [hm.out]; omega) HBX.out HBY.out
      rw [hm.out] at e
      rw [e] at h
      exact h
    have HSM := Lib.hid d_same
    obtain ⟨Z, hZ⟩ : ∃ x, sbtL ns Y m = x := ⟨_, rfl⟩
    have HLZ : Hid (Z.length = m) := by show _ = _; rw [← hZ, sbtL_len]
    have HCS2 : Hid (∀ u, AnS w bt (.slice va m vc) ns u → ∀ dv, NumsV u dv Y → Calls Try.prog 19 #[.agg #[.slice va m vc], dv] u fun e w' => ∃ v', e = .returned v' ∧ NumsV w' v' Z ∧ Below u.heap.size u w') := fun u hu dv hd => by rw [← hZ]; exact HCS.out u hu dv Y hd HLY.out
    rw [hZ] at HCA
    clear hZ
    obtain ⟨w3, hw3⟩ : ∃ z, wc = z := ⟨_, rfl⟩
    rw [hw3] at S3 ⊢
    clear hw3
    go_upto_region 3 with fail
    go_cut [10, 11] from 24 to 35 (fun wv ev wx => ∃ v, wv = v ∧ ev = .int .i64 0 ∧ NumsV wx v Z ∧ DnS w bt (.slice va m vc) ns (.slice pa m pc) (.slice qa m qc) X Y wx)
    case first =>
      have HSx0 : Hid ((fun u => DnS w bt (.slice va m vc) ns (.slice pa m pc) (.slice qa m qc) X Y u) w3.drew) := S3.out.call (Below.drewN (n := 1) (Below.refl _ _) : Below w3.heap.size w3 w3.drew)
      refine wp_region_held_drew (S := fun u => DnS w bt (.slice va m vc) ns (.slice pa m pc) (.slice qa m qc) X Y u) (by kernel_rfl) (HSx0.out) (fun _ => ?_)
      (try simp only [Act.put, List.setIfInBounds_toArray, List.set_cons_zero, List.set_cons_succ])
      obtain ⟨x0, hx0⟩ : ∃ x, w3.drew = x := ⟨_, rfl⟩
      rw [hx0] at HSx0 ⊢
      clear hx0
      refine held_load (oi := ⟨some 25, _, _, _, _, _⟩) 0 rfl (by kernel_rfl) (by kernel_rfl) (by kernel_rfl) (fun _ _ _ _ h => h) rfl 25 (.tmp 7) rfl bt (0) rfl [.slice va m vc] _ (fun u' hu => hu.a.t.range) Try.underlying25 rfl (hi1) HSx0.out ?_
      (try simp only [Act.put, List.setIfInBounds_toArray, List.set_cons_zero, List.set_cons_succ])
      refine held_load (oi := ⟨some 26, _, _, _, _, _⟩) 1 rfl (by kernel_rfl) (by kernel_rfl) (by kernel_rfl) (fun _ _ _ _ h => h) rfl 25 (.tmp 7) rfl bt (0) rfl [.slice va m vc] _ (fun u' hu => hu.a.t.range) Try.underlying25 rfl (hi1) HSx0.out ?_
      (try simp only [Act.put, List.setIfInBounds_toArray, List.set_cons_zero, List.set_cons_succ])
      refine wpAnyH_take (i := 2) (oi := ⟨some 27, _, _, _, _, _⟩) (v := .slice pa m pc) rfl (by kernel_rfl) (by kernel_rfl) (by kernel_rfl) (fun _ _ _ h => h) (Or.inl ⟨by rfl, fun wz hz => ?_⟩) HSx0.out ?_
      · clear hz; go_simp; first | done | with_reducible rfl | rfl
      (try simp only [Act.put, List.setIfInBounds_toArray, List.set_cons_zero, List.set_cons_succ])
      refine held_load (oi := ⟨some 29, _, _, _, _, _⟩) 4 rfl (by kernel_rfl) (by kernel_rfl) (by kernel_rfl) (fun _ _ _ _ h => h) rfl 25 (.tmp 7) rfl bt (0) rfl [.slice va m vc] _ (fun u' hu => hu.a.t.range) Try.underlying25 rfl (hi1) HSx0.out ?_
      (try simp only [Act.put, List.setIfInBounds_toArray, List.set_cons_zero, List.set_cons_succ])
      refine wpAnyH_take (i := 5) (oi := ⟨some 30, _, _, _, _, _⟩) (v := .slice pa m pc) rfl (by kernel_rfl) (by kernel_rfl) (by kernel_rfl) (fun _ _ _ h => h) (Or.inl ⟨by rfl, fun wz hz => ?_⟩) HSx0.out ?_
      · clear hz; go_simp; first | done | with_reducible rfl | rfl
      (try simp only [Act.put, List.setIfInBounds_toArray, List.set_cons_zero, List.set_cons_succ])
      refine wpAnyH_take (i := 6) (oi := ⟨some 31, _, _, _, _, _⟩) (v := .slice qa m qc) rfl (by kernel_rfl) (by kernel_rfl) (by kernel_rfl) (fun _ _ _ h => h) (Or.inl ⟨by rfl, fun wz hz => ?_⟩) HSx0.out ?_
      · clear hz; go_simp; first | done | with_reducible rfl | rfl
      (try simp only [Act.put, List.setIfInBounds_toArray, List.set_cons_zero, List.set_cons_succ])
      refine wpAnyH_ready (rs := [3]) (by kernel_rfl) (by simp) ?_
      refine AllReadyH.cons (o := ⟨some 28, _, _, _, _, _⟩) rfl (fun K hK => ?_) AllReadyH.nil
      go_simp
      refine (HCS.out x0 HSx0.out.a _ X HSx0.out.p HLX.out).mono ?_
      rintro e x1 ⟨v1, rfl, hn1, hb⟩
      have HN1 := Lib.hid hn1
      clear hn1
      have HSx1 : Hid ((fun u => DnS w bt (.slice va m vc) ns (.slice pa m pc) (.slice qa m qc) X Y u) x1) := HSx0.out.call hb
      clear hb
      refine hK.out _ _ (HSx1.out) (fun _ => ?_)
      clear hK K
      (try simp only [Act.put, List.setIfInBounds_toArray, List.set_cons_zero, List.set_cons_succ])
      refine wpAnyH_ready (rs := [7]) (by kernel_rfl) (by simp) ?_
      refine AllReadyH.cons (o := ⟨some 32, _, _, _, _, _⟩) rfl (fun K hK => ?_) AllReadyH.nil
      go_simp
      refine (HML.out x1 HSx1.out).mono ?_
      rintro e x2 ⟨v2, rfl, hd2, hb⟩
      have HD2 := Lib.hid hd2
      clear hd2
      have HN1 := Lib.hid ((⟨HN1.out.1.below hb, HN1.out.2⟩ : NumsV _ _ _))
      have HSx2 : Hid ((fun u => DnS w bt (.slice va m vc) ns (.slice pa m pc) (.slice qa m qc) X Y u) x2) := HSx1.out.call hb
      clear hb
      refine hK.out _ _ (HSx2.out) (fun _ => ?_)
      clear hK K
      (try simp only [Act.put, List.setIfInBounds_toArray, List.set_cons_zero, List.set_cons_succ])
      refine wpAnyH_ready (rs := [8]) (by kernel_rfl) (by simp) ?_
      refine AllReadyH.cons (o := ⟨some 33, _, _, _, _, _⟩) rfl (fun K hK => ?_) AllReadyH.nil
      go_simp
      refine (HCA.out x2 HSx2.out.a v1 v2 HN1.out HD2.out).mono ?_
      rintro e x3 ⟨v3, rfl, hn3, hb⟩
      have HN3 := Lib.hid hn3
      clear hn3
      have HSx3 : Hid ((fun u => DnS w bt (.slice va m vc) ns (.slice pa m pc) (.slice qa m qc) X Y u) x3) := HSx2.out.call hb
      clear hb
      refine hK.out _ _ (HSx3.out) (fun _ => ?_)
      clear hK K
      (try simp only [Act.put, List.setIfInBounds_toArray, List.set_cons_zero, List.set_cons_succ])
      refine wpAnyH_take (i := 9) (oi := ⟨some 24, _, _, _, _, _⟩) (v := .tuple #[v3, .int .i64 0]) rfl (by kernel_rfl) (by kernel_rfl) (by kernel_rfl) (fun _ _ _ h => h) (Or.inl ⟨by rfl, fun wz hz => ?_⟩) HSx3.out ?_
      · clear hz; go_simp; first | done | with_reducible rfl | rfl
      (try simp only [Act.put, List.setIfInBounds_toArray, List.set_cons_zero, List.set_cons_succ])
      refine wpAnyH_take (i := 10) (oi := ⟨some 34, _, _, _, _, _⟩) (v := v3) rfl (by kernel_rfl) (by kernel_rfl) (by kernel_rfl) (fun _ _ _ h => h) (Or.inl ⟨by rfl, fun wz hz => ?_⟩) HSx3.out ?_
      · clear hz; go_simp; first | done | with_reducible rfl | rfl
      (try simp only [Act.put, List.setIfInBounds_toArray, List.set_cons_zero, List.set_cons_succ])
      refine wpAnyH_take (i := 11) (oi := ⟨some 35, _, _, _, _, _⟩) (v := .int .i64 0) rfl (by kernel_rfl) (by kernel_rfl) (by kernel_rfl) (fun _ _ _ h => h) (Or.inl ⟨by rfl, fun wz hz => ?_⟩) HSx3.out ?_
      · clear hz; go_simp; first | done | with_reducible rfl | rfl
      (try simp only [Act.put, List.setIfInBounds_toArray, List.set_cons_zero, List.set_cons_succ])
      refine wpAnyH_ready (rs := [12]) (by kernel_rfl) (by simp) ?_
      refine AllReadyH.cons (o := ⟨some 10, _, _, _, _, _⟩) rfl (fun K hK => ?_) AllReadyH.nil
      go_simp
      refine hK.out _ _ (HSx3.out) (fun _ => ?_)
      clear hK K
      (try simp only [Act.put, List.setIfInBounds_toArray, List.set_cons_zero, List.set_cons_succ])
      refine wpAnyH_ready (rs := [13]) (by kernel_rfl) (by simp) ?_
      refine AllReadyH.cons (o := ⟨some 11, _, _, _, _, _⟩) rfl (fun K hK => ?_) AllReadyH.nil
      go_simp
      refine hK.out _ _ (HSx3.out) (fun _ => ?_)
      clear hK K
      (try simp only [Act.put, List.setIfInBounds_toArray, List.set_cons_zero, List.set_cons_succ])
      refine wpAnyH_done (by kernel_rfl) ?_ _
      go_wp2_with fail
      go_meet
      case rel => exact ⟨v3, rfl, rfl, HN3.out, HSx3.out⟩
    case rest =>
      obtain ⟨v, rfl, rfl, hn, hs⟩ := hcut
      obtain ⟨ca, cc, rfl, _⟩ := NumsV.shapeW hn
      have HN4 := Lib.hid hn
      have S4 := Lib.hid hs
      clear hn hs S3
      rw [HLZ.out] at HN4 ⊢
      have HT4 := Lib.hid S4.out.a.t
      have HC4 := Lib.hid (S4.out.a.t.cell 0)
      go_wp2_with (first
        | ((with_reducible refine at_load (.tmp 7) ?_); refine wpList_load_g 25 (.tmp 7) rfl bt rfl #[.slice va m vc] _ HT4.out Try.underlying25 rfl hi1 rfl ?_)
        | (go_at_call 19; refine (HCS2.out _ S4.out.a _ S4.out.q).mono ?_; rintro e w5 ⟨v5, rfl, hn5, hb5⟩; have HN5 := Lib.hid hn5; have HN4 : Hid (NumsV w5 (.slice ca m cc) Z) := ⟨HN4.out.1.below hb5, HN4.out.2⟩; have S5 := Lib.hid (S4.out.call hb5); clear hn5 hb5)
        | (go_at_call 18; refine (HSM.out _ _ Z _ HN4.out HN5.out).mono ?_; rintro e w6 ⟨rfl, hb6⟩; have S6 := Lib.hid (S5.out.call hb6); have HC6 := Lib.hid (S6.out.a.t.cell 0); clear hb6)
        | ((with_reducible refine at_load (.tmp 48) ?_); refine wpList_load_1 23 (.tmp 48) rfl bt 0 (.slice va m vc) HC6.out rfl _ Try.underlying23 rfl rfl ?_)
        | (go_at_call 14; refine (HAW.out _).mono ?_; rintro e w7 ⟨rfl, hb7⟩; have S7 := Lib.hid (S6.out.call hb7); clear hb7))
      go_ret
      exact ⟨rfl, S7.out.a.b⟩
end

end Go.Proofs.Ytdlbobpglgjhiaa
