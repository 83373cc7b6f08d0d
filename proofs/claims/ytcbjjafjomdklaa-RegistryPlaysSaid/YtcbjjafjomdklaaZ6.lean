/- Several texts as one: RgE, L10n. -/
import Derived.Test.YtcbjjafjomdklaaZ3
import Derived.Test.YtcbjjafjomdklaaZ4
import Derived.Test.YtcbjjafjomdklaaZ5
namespace Go.Proofs.Ytcbjjafjomdklaa

/-! RgE -/
section
set_option linter.unusedVariables false
set_option linter.unusedSimpArgs false
open Go.RowKit Go.Maps

set_option maxRecDepth 100000

theorem build_vts (a1 : Option Addr) (n1 c1 : Nat) (a2 : Option Addr) (n2 c2 : Nat) (u : World) : (Instr.build 47 #[(0, .slice a1 n1 c1), (1, .slice a2 n2 c2)]).run Try.prog u = .ok (.agg #[.slice a1 n1 c1, .slice a2 n2 c2]) u := by kernel_rfl

/-- The empty result is no part of what the callees handed back. -/
theorem ints_offZ {k : IntKind} {w : World} {v : Value} {l : List Int} {b : Nat} (h : Ints k w v l) (hB : Blk w b #[.slice none 0 0, .slice none 0 0]) : Off b v := by
  obtain ⟨a, n, c, rfl, hl, _, hr⟩ := h
  intro z l' c' e h0 hb
  cases e
  rcases hr with h' | ⟨b', off, e', hlt, hc⟩
  · omega
  cases e'
  simp only at hb
  subst hb
  have h1 := hc 0 (by omega)
  rw [hB.cell] at h1
  rcases off with _ | _ | off
  · simp at h1
  · simp at h1
  · rw [Array.getElem?_eq_none (by simp)] at h1; cases h1

theorem elv_offZ {α : Type} {sz : Nat} {El : (Value → Prop) → World → Array Value → α → Prop} (E : ElOK sz El) {w : World} {v : Value} {ds : List α} {b : Nat} {cs : Array Value} (h : ElV El sz w v ds) (hB : Blk w b cs) (hs : cs.size < sz) : Off b v := by
  intro z l c e h0 hb
  subst e
  obtain ⟨a', cap', e, hl, hr⟩ := id h
  cases e
  obtain ⟨b', off, X, h1, h2, h3, h4, h5, h6, h7⟩ := ElV.at E h (i := 0) h0
  cases h1
  simp only at hb
  subst hb
  have hlt : sz - 1 < X.toList.length := by rw [Array.length_toList, h6]; omega
  have hj : X.toList[sz - 1]? = some X.toList[sz - 1] := List.getElem?_eq_getElem hlt
  have hc := h4 _ _ hj
  rw [hB.cell, Array.getElem?_eq_none (by omega)] at hc
  cases hc

theorem tabs_updZ {w w' : World} {v : Value} {ds : List (CpD × List Int)} {b : Nat} (h : TabsV w v ds) (hB : Blk w b #[.slice none 0 0, .slice none 0 0]) (U : Upd b w w') : TabsV w' v ds := by
  have ho := elv_offZ (tabOK _ _) h hB (by show 2 < 34; omega)
  have hg := upd_grown U
  obtain ⟨a, cap, rfl, hl, hr⟩ := h
  refine ⟨a, cap, rfl, hl, ?_⟩
  rcases hr with h0 | ⟨b', off, rfl, hlt, Xs, h1, h2⟩
  · exact .inl h0
  by_cases h0 : ds.length = 0
  · exact .inl h0
  have hne : some b' ≠ some b := fun e => ho _ _ _ rfl (by omega) (by cases e; rfl)
  refine .inr ⟨b', off, rfl, Nat.lt_of_lt_of_le hlt hg.size, Xs, fun j u hj => by rw [hg.cell_far ⟨b', off + j, none⟩ hlt hne]; exact h1 j u hj, h2.imp fun X d hX => ?_⟩
  have hE := tabOK 0 False
  have hX' : TabEl 0 False (Off b) w X d := by
    obtain ⟨hc, a', n, k, e, h1, h2, h3, h4⟩ := hX
    exact ⟨hc, a', n, k, e, h1, h2, h3, ints_offZ h1.1 hB⟩
  exact hE.mono (hE.grown hX' hg fun g y e hy => by cases e; exact hy) fun _ _ => trivial

set_option maxHeartbeats 8000000 in
theorem snap_any (lo hi : Nat) (ra : RgA) (n lim : Int) (vs : List VoD) (gs : List Bool) (E : List TeD) (ds : List (CpD × List Int)) (w : World) (hR : RgI w lo hi ra n lim vs gs E) (hm : Match E ds) (hE : E.length ≤ 1000) :
    Calls Try.prog 22 #[.pointer (some ⟨ra.b, 0, none⟩)] w fun e w' => ∃ s1 s2 s3, e = .returned (.tuple #[.agg #[s1, s2], s3]) ∧ VotesV w' s1 vs ∧ IntsV w' s2 (memS gs) ∧ TabsV w' s3 ds ∧ Below w.heap.size w w' := by
  have HRG := Lib.hid hR
  have HN : Hid (n ≤ 1024) := by have := hR.nv; have := hR.vot.len; show n ≤ 1024; omega
  have HEL := Lib.hid hE
  have HM := Lib.hid hm
  have HND := Lib.hid (ents_nodup hR.book)
  have HDL : Hid (ds.length ≤ 1000) := by show _ ≤ _; rw [← hm.len]; exact hE
  have hblt := hR.blk.lt
  have HNE : Hid (ra.b ≠ w.heap.size) := by show _ ≠ _; omega
  have hi2 : (Try.prog.info? 47).map (·.size) = some 2 := by kernel_rfl
  have HBA := Lib.hid ((Below.refl w.heap.size w).alloc (Nat.le_refl _) (.cells #[.slice none 0 0, .slice none 0 0] 47))
  have HBT : Hid (Blk (w.alloc (.cells #[.slice none 0 0, .slice none 0 0] 47)) w.heap.size #[.slice none 0 0, .slice none 0 0]) := Blk.new rfl
  clear hR hm hE
  go_enter Try.func22, Try.ntmps22
  go_wp2_with fail
  obtain ⟨x, hx⟩ : ∃ x, (w.alloc (.cells #[.slice none 0 0, .slice none 0 0] 47)).drew = x := ⟨_, rfl⟩
  have hbd : Below (w.alloc (.cells #[.slice none 0 0, .slice none 0 0] 47)).heap.size (w.alloc (.cells #[.slice none 0 0, .slice none 0 0] 47)) x := by rw [← hx]; exact ⟨rfl, rfl, rfl, Nat.le_refl _, fun _ _ => rfl⟩
  have HB := Lib.hid (HBA.out.trans (hbd.mono HBA.out.size))
  have HT := Lib.hid (HBT.out.call hbd)
  have HS := Lib.hid (HRG.out.call HB.out).blk
  clear hbd HBT HBA
  refine wp_region_held_drew (S := fun u' => Blk u' ra.b #[.pointer (some ⟨ra.b1, 0, none⟩), .pointer (some ⟨ra.b2, 0, none⟩), .pointer (some ⟨ra.b3, 0, none⟩)]) (by kernel_rfl) (by rw [hx]; exact HS.out) (fun _ => ?_)
  rw [hx]
  clear hx
  (try simp only [Act.put, List.setIfInBounds_toArray, List.set_cons_zero, List.set_cons_succ])
  refine wpAnyH_take (i := 0) (oi := ⟨some 4, _, _, _, _, _⟩) (v := .pointer (some ⟨ra.b, 0, none⟩)) rfl (by kernel_rfl) (by kernel_rfl) (by kernel_rfl) (fun _ _ _ h => h) (Or.inl ⟨by rfl, fun wz hz => ?_⟩) HS.out ?_
  · clear hz; go_simp; first | done | with_reducible rfl | rfl
  (try simp only [Act.put, List.setIfInBounds_toArray, List.set_cons_zero, List.set_cons_succ])
  refine wpAnyH_take (i := 1) (oi := ⟨some 5, _, _, _, _, _⟩) (v := .pointer (some ⟨ra.b, 0, none⟩)) rfl (by kernel_rfl) (by kernel_rfl) (by kernel_rfl) (fun _ _ _ h => h) (Or.inl ⟨by rfl, fun wz hz => ?_⟩) HS.out ?_
  · clear hz; go_simp; first | done | with_reducible rfl | rfl
  (try simp only [Act.put, List.setIfInBounds_toArray, List.set_cons_zero, List.set_cons_succ])
  refine wpAnyH_take (i := 2) (oi := ⟨some 6, _, _, _, _, _⟩) (v := .pointer (some ⟨ra.b, 0, none⟩)) rfl (by kernel_rfl) (by kernel_rfl) (by kernel_rfl) (fun _ _ _ h => h) (Or.inl ⟨by rfl, fun wz hz => ?_⟩) HS.out ?_
  · clear hz; go_simp; first | done | with_reducible rfl | rfl
  (try simp only [Act.put, List.setIfInBounds_toArray, List.set_cons_zero, List.set_cons_succ])
  refine held_load1 (oi := ⟨some 7, _, _, _, _, _⟩) 3 rfl (by kernel_rfl) (by kernel_rfl) (by kernel_rfl) (fun _ _ _ _ h => h) rfl 57 (.tmp 6) rfl ra.b 0 rfl (.pointer (some ⟨ra.b1, 0, none⟩)) _ (fun u' hu => hu.cell 0) Try.underlying57 rfl HS.out ?_
  (try simp only [Act.put, List.setIfInBounds_toArray, List.set_cons_zero, List.set_cons_succ])
  refine wpAnyH_take (i := 5) (oi := ⟨some 9, _, _, _, _, _⟩) (v := .pointer (some ⟨ra.b, 0, none⟩)) rfl (by kernel_rfl) (by kernel_rfl) (by kernel_rfl) (fun _ _ _ h => h) (Or.inl ⟨by rfl, fun wz hz => ?_⟩) HS.out ?_
  · clear hz; go_simp; first | done | with_reducible rfl | rfl
  (try simp only [Act.put, List.setIfInBounds_toArray, List.set_cons_zero, List.set_cons_succ])
  refine wpAnyH_take (i := 6) (oi := ⟨some 10, _, _, _, _, _⟩) (v := .pointer (some ⟨ra.b, 0, none⟩)) rfl (by kernel_rfl) (by kernel_rfl) (by kernel_rfl) (fun _ _ _ h => h) (Or.inl ⟨by rfl, fun wz hz => ?_⟩) HS.out ?_
  · clear hz; go_simp; first | done | with_reducible rfl | rfl
  (try simp only [Act.put, List.setIfInBounds_toArray, List.set_cons_zero, List.set_cons_succ])
  refine wpAnyH_take (i := 7) (oi := ⟨some 11, _, _, _, _, _⟩) (v := .pointer (some ⟨ra.b, 1, none⟩)) rfl (by kernel_rfl) (by kernel_rfl) (by kernel_rfl) (fun _ _ _ h => h) (Or.inl ⟨by rfl, fun wz hz => ?_⟩) HS.out ?_
  · clear hz; go_simp; first | done | with_reducible rfl | rfl
  (try simp only [Act.put, List.setIfInBounds_toArray, List.set_cons_zero, List.set_cons_succ])
  refine held_load1 (oi := ⟨some 12, _, _, _, _, _⟩) 8 rfl (by kernel_rfl) (by kernel_rfl) (by kernel_rfl) (fun _ _ _ _ h => h) rfl 58 (.tmp 11) rfl ra.b 1 rfl (.pointer (some ⟨ra.b2, 0, none⟩)) _ (fun u' hu => hu.cell 1) Try.underlying58 rfl HS.out ?_
  (try simp only [Act.put, List.setIfInBounds_toArray, List.set_cons_zero, List.set_cons_succ])
  refine wpAnyH_take (i := 11) (oi := ⟨some 15, _, _, _, _, _⟩) (v := .pointer (some ⟨ra.b, 0, none⟩)) rfl (by kernel_rfl) (by kernel_rfl) (by kernel_rfl) (fun _ _ _ h => h) (Or.inl ⟨by rfl, fun wz hz => ?_⟩) HS.out ?_
  · clear hz; go_simp; first | done | with_reducible rfl | rfl
  (try simp only [Act.put, List.setIfInBounds_toArray, List.set_cons_zero, List.set_cons_succ])
  refine wpAnyH_take (i := 12) (oi := ⟨some 16, _, _, _, _, _⟩) (v := .pointer (some ⟨ra.b, 0, none⟩)) rfl (by kernel_rfl) (by kernel_rfl) (by kernel_rfl) (fun _ _ _ h => h) (Or.inl ⟨by rfl, fun wz hz => ?_⟩) HS.out ?_
  · clear hz; go_simp; first | done | with_reducible rfl | rfl
  (try simp only [Act.put, List.setIfInBounds_toArray, List.set_cons_zero, List.set_cons_succ])
  refine wpAnyH_take (i := 13) (oi := ⟨some 17, _, _, _, _, _⟩) (v := .pointer (some ⟨ra.b, 2, none⟩)) rfl (by kernel_rfl) (by kernel_rfl) (by kernel_rfl) (fun _ _ _ h => h) (Or.inl ⟨by rfl, fun wz hz => ?_⟩) HS.out ?_
  · clear hz; go_simp; first | done | with_reducible rfl | rfl
  (try simp only [Act.put, List.setIfInBounds_toArray, List.set_cons_zero, List.set_cons_succ])
  refine held_load1 (oi := ⟨some 18, _, _, _, _, _⟩) 14 rfl (by kernel_rfl) (by kernel_rfl) (by kernel_rfl) (fun _ _ _ _ h => h) rfl 59 (.tmp 17) rfl ra.b 2 rfl (.pointer (some ⟨ra.b3, 0, none⟩)) _ (fun u' hu => hu.cell 2) Try.underlying59 rfl HS.out ?_
  (try simp only [Act.put, List.setIfInBounds_toArray, List.set_cons_zero, List.set_cons_succ])
  refine wpAnyH_ready (rs := [4]) (by kernel_rfl) (by simp) ?_
  refine AllReadyH.cons (o := ⟨some 8, _, _, _, _, _⟩) rfl (fun K hK => ?_) AllReadyH.nil
  rw [if_pos (by rfl)]
  go_simp
  refine (votes_any ra.b1 ra.g1 vs _ (HRG.out.call HB.out).vot).mono ?_
  rintro e w1 ⟨s1, rfl, ho1, hb⟩
  obtain ⟨a1, c1, rfl, _, _, _⟩ := ho1.shape
  have HV1 := Lib.hid (ho1.elV voOK)
  have HSn := Lib.hid (HS.out.call hb)
  clear HS
  have HS := HSn
  clear HSn
  have HTn := Lib.hid (HT.out.call hb)
  clear HT
  have HT := HTn
  clear HTn
  have HBn := Lib.hid (HB.out.trans (hb.mono HB.out.size))
  clear HB
  have HB := HBn
  clear HBn
  clear hb ho1
  refine hK.out _ _ HS.out (fun _ => ?_)
  clear hK K
  (try simp only [Act.put, List.setIfInBounds_toArray, List.set_cons_zero, List.set_cons_succ])
  refine wpAnyH_ready (rs := [9]) (by kernel_rfl) (by simp) ?_
  refine AllReadyH.cons (o := ⟨some 13, _, _, _, _, _⟩) rfl (fun K hK => ?_) AllReadyH.nil
  rw [if_pos (by rfl)]
  go_simp
  refine (members_ints ra.b2 ra.g2 gs _ (HRG.out.call HB.out).set).mono ?_
  rintro e w2 ⟨s2, rfl, ho2, hb⟩
  obtain ⟨a2, n2, c2, rfl⟩ := ints_shape' ho2.1
  have HV2 := Lib.hid (ElV.below voOK HV1.out hb)
  have HI2 := Lib.hid ho2
  have HSn := Lib.hid (HS.out.call hb)
  clear HS
  have HS := HSn
  clear HSn
  have HTn := Lib.hid (HT.out.call hb)
  clear HT
  have HT := HTn
  clear HTn
  have HBn := Lib.hid (HB.out.trans (hb.mono HB.out.size))
  clear HB
  have HB := HBn
  clear HBn
  clear hb ho2
  refine hK.out _ _ HS.out (fun _ => ?_)
  clear hK K
  (try simp only [Act.put, List.setIfInBounds_toArray, List.set_cons_zero, List.set_cons_succ])
  refine wpAnyH_take (i := 10) (oi := ⟨some 14, _, _, _, _, _⟩) (v := .agg #[.slice a1 vs.length c1, .slice a2 n2 c2]) rfl (by kernel_rfl) (by kernel_rfl) (by kernel_rfl) (fun _ _ _ h => h) (Or.inl ⟨by rfl, fun wz hz => ?_⟩) HS.out ?_
  · clear hz; have hbv := build_vts a1 vs.length c1 a2 n2 c2 wz; go_simp; first | done | with_reducible rfl | rfl
  (try simp only [Act.put, List.setIfInBounds_toArray, List.set_cons_zero, List.set_cons_succ])
  refine wpAnyH_ready (rs := [15]) (by kernel_rfl) (by simp) ?_
  refine AllReadyH.cons (o := ⟨some 19, _, _, _, _, _⟩) rfl (fun K hK => ?_) AllReadyH.nil
  rw [if_pos (by rfl)]
  go_simp
  refine (tabs_any ra.b3 ra.mb n lim E _ (HRG.out.call HB.out).book HN.out HEL.out).mono ?_
  intro e w3 ht
  obtain ⟨s3, rfl, hb, hel3⟩ := tabsR_elV ht HM.out HND.out HDL.out
  obtain ⟨a3, c3, rfl, _⟩ := hel3.shape
  have HV3 := Lib.hid (ElV.below voOK HV2.out hb)
  have HI3 := Lib.hid (HI2.out.call hb)
  have HE3 := Lib.hid hel3
  have HSn := Lib.hid (HS.out.call hb)
  clear HS
  have HS := HSn
  clear HSn
  have HTn := Lib.hid (HT.out.call hb)
  clear HT
  have HT := HTn
  clear HTn
  have HBn := Lib.hid (HB.out.trans (hb.mono HB.out.size))
  clear HB
  have HB := HBn
  clear HBn
  clear hb ht hel3
  refine hK.out _ _ HS.out (fun _ => ?_)
  clear hK K
  (try simp only [Act.put, List.setIfInBounds_toArray, List.set_cons_zero, List.set_cons_succ])
  refine wpAnyH_ready (rs := [16]) (by kernel_rfl) (by simp) ?_
  refine AllReadyH.cons (o := ⟨none, _, _, _, _, _⟩) rfl (fun K hK => ?_) AllReadyH.nil
  rw [if_pos (by rfl)]
  refine wp_store_blk 47 (.tmp 2) (.tmp 14) rfl w.heap.size #[.slice a1 vs.length c1, .slice a2 n2 c2] rfl rfl _ HT.out rfl hi2 (by intro v hv; simp at hv; rcases hv with rfl | rfl <;> rfl) ?_
  intro w4 U4 B4
  have HS4 := Lib.hid (U4.blk HS.out HNE.out)
  have hb4 := U4.below HB.out (Nat.le_refl _)
  refine hK.out _ _ HS4.out (fun _ => ?_)
  clear hK K
  (try simp only [Act.put, List.setIfInBounds_toArray, List.set_cons_zero, List.set_cons_succ])
  refine wpAnyH_ready (rs := [17]) (by kernel_rfl) (by simp) ?_
  refine AllReadyH.cons (o := ⟨some 3, _, _, _, _, _⟩) rfl (fun K hK => ?_) AllReadyH.nil
  go_simp
  refine hK.out _ _ HS4.out (fun _ => ?_)
  clear hK K
  (try simp only [Act.put, List.setIfInBounds_toArray, List.set_cons_zero, List.set_cons_succ])
  refine wpAnyH_done (by kernel_rfl) ?_ _
  have hv4 : VotesV w4 (.slice a1 vs.length c1) vs := VotesV.grownOff HV3.out (upd_grown U4) (elv_offZ voOK HV3.out HT.out (by show 2 < 34; omega))
  have hi4 := IntsV.off HI3.out (upd_grown U4) (ints_offZ HI3.out.1 HT.out)
  have ht4 := tabs_updZ HE3.out HT.out U4
  go_wp2_with fail
  refine bodyPost_ret (res_cell_tmp rfl rfl rfl B4 Try.underlying47 rfl hi2) rfl ⟨_, _, _, rfl, hv4, hi4, ht4, hb4⟩

set_option maxHeartbeats 8000000 in
theorem same10_any (lo hi : Nat) (ra : RgA) (n lim : Int) (vs : List VoD) (gs : List Bool) (E : List TeD) (ds : List (CpD × List Int)) (lv ev tv : Value) (w : World) (hR : RgI w lo hi ra n lim vs gs E) (hm : Match E ds) (hE : E.length ≤ 1000) (hV : VotesV w lv vs) (hI : IntsV w ev (memS gs)) (hT : TabsV w tv ds) :
    Calls Try.prog 9 #[.pointer (some ⟨ra.b, 0, none⟩), .agg #[lv, ev], tv] w fun e w' => e = .returned (.bool true) ∧ Below w.heap.size w w' := by
  obtain ⟨la, lc, rfl, _⟩ := hV.shape
  obtain ⟨ea, en, ec, rfl⟩ := ints_shape' hI.1
  obtain ⟨ta, tc, rfl, _⟩ := hT.shape
  have HRG := Lib.hid hR
  have HV := Lib.hid hV
  have HI := Lib.hid hI
  have HT := Lib.hid hT
  have HSN := Lib.hid (fun u (hu : RgI u lo hi ra n lim vs gs E) => snap_any lo hi ra n lim vs gs E ds u hu hm hE)
  have HVL : Hid (vs.length ≤ 1000000) := by have := hR.vot.len; show _ ≤ _; omega
  have HDL : Hid (ds.length ≤ 1000000) := by show _ ≤ _; rw [← hm.len]; omega
  have hi2 : (Try.prog.info? 47).map (·.size) = some 2 := by kernel_rfl
  have HBA := Lib.hid ((Below.refl w.heap.size w).alloc (Nat.le_refl _) (.cells #[.slice la vs.length lc, .slice ea en ec] 47))
  have HBX : Hid (Blk (w.alloc (.cells #[.slice la vs.length lc, .slice ea en ec] 47)) w.heap.size #[.slice la vs.length lc, .slice ea en ec]) := Blk.new rfl
  clear hR hm hE hV hI hT
  go_enter Try.func9, Try.ntmps9
  go_wp2_with (first
    | (go_at_call 22; refine (HSN.out _ (HRG.out.call HBA.out)).mono ?_; rintro e w1 ⟨s1, s2, s3, rfl, hv1, hi1, ht1, hb1⟩; obtain ⟨sa, sc, rfl, _⟩ := hv1.shape; obtain ⟨sea, sen, sec, rfl⟩ := ints_shape' hi1.1; obtain ⟨sta, stc, rfl, _⟩ := ht1.shape; have HV1 := Lib.hid hv1; have HI1 := Lib.hid hi1; have HT1 := Lib.hid ht1; have HBX1 := Lib.hid (HBX.out.call hb1); have HB1 := Lib.hid (HBA.out.trans (hb1.mono HBA.out.size)); clear hv1 hi1 ht1 hb1)
    | ((with_reducible refine at_store (.tmp 7) ?_); refine wpList_store_blk rfl 47 (.tmp 7) _ rfl w1.heap.size #[.slice sa vs.length sc, .slice sea sen sec] rfl rfl #[.slice none 0 0, .slice none 0 0] (Blk.new rfl) rfl hi2 (by intro v hv; simp at hv; rcases hv with rfl | rfl <;> rfl) ?_; intro w2 U2 B2; have hb2 := U2.below ((Below.refl w1.heap.size w1).alloc (Nat.le_refl _) (.cells #[.slice none 0 0, .slice none 0 0] 47)) (Nat.le_refl _); have HV2 := Lib.hid (ElV.below voOK HV1.out hb2); have HI2 := Lib.hid (HI1.out.call hb2); have HT2 := Lib.hid (TabsV.below HT1.out hb2); have HBX2 := Lib.hid (HBX1.out.call hb2); have HBS2 := Lib.hid B2; have HB2 := Lib.hid (HB1.out.trans (hb2.mono HB1.out.size)); have hs0 := B2.cell 0; have hs1 := B2.cell 1; have hx0 := HBX2.out.cell 0; have hx1 := HBX2.out.cell 1; simp only [List.getElem?_toArray, List.getElem?_cons_zero, List.getElem?_cons_succ] at hs0 hs1 hx0 hx1; clear hb2 U2 B2)
    | (go_at_call 23; refine (svotes_yes _ _ vs w2 HV2.out (ElV.below voOK HV.out HB2.out) HVL.out).mono ?_; rintro e w3 ⟨rfl, hb3⟩; have HI3 := Lib.hid (HI2.out.call hb3); have HT3 := Lib.hid (TabsV.below HT2.out hb3); have HBX3 := Lib.hid (HBX2.out.call hb3); have HBS3 := Lib.hid (HBS2.out.call hb3); have HB3 := Lib.hid (HB2.out.trans (hb3.mono HB2.out.size)); have ks1 := HBS3.out.cell 1; have kx1 := HBX3.out.cell 1; simp only [List.getElem?_toArray, List.getElem?_cons_zero, List.getElem?_cons_succ] at ks1 kx1; clear hb3)
    | (go_at_call 24; refine (sints_yes _ _ (memS gs) w3 HI3.out (HI.out.call HB3.out)).mono ?_; rintro e w4 ⟨rfl, hb4⟩; have HT4 := Lib.hid (TabsV.below HT3.out hb4); have HB4 := Lib.hid (HB3.out.trans (hb4.mono HB3.out.size)); clear hb4)
    | (go_at_call 25; refine (stabs_yes _ _ ds w4 HT4.out (TabsV.below HT.out HB4.out) HDL.out).mono ?_; rintro e w5 ⟨rfl, hb5⟩; have HB5 := Lib.hid (HB4.out.trans (hb5.mono HB4.out.size)); clear hb5))
  go_ret
  exact ⟨rfl, HB5.out⟩
end

/-! L10n -/
section
set_option linter.unusedVariables false
set_option linter.unusedSimpArgs false
open Go.RowKit Go.Maps

set_option maxRecDepth 100000

theorem wp_makeEls {o : Oper} {a : Act} {w : World} {K : Act → World → Prop} {Q : Exit → Act → World → Prop} (l : Operand) (t e : TypeId) (hop : o.op = Op.makeSlice t l l) (Z : List Value) (bytes : Nat)
    (hu : Try.prog.underlying t = some (.slice e)) (hi : (Try.prog.info? e).map (fun i => (i.zero, i.size, i.bytes)) = some (some (.agg Z.toArray), Z.length, bytes)) (kl : IntKind) (n : Nat) (hl : a.eval l = .int kl (n : Int)) (hb : bytes * n ≤ 281474976710656) (hn : n ≤ 1000000)
    (hK : ∀ w', w.grownBy w' none → w'.heap.size = w.heap.size + 1 → RowB w' w.heap.size (List.replicate n Z) → K (a.put o.dst (.slice (some ⟨w.heap.size, 0, none⟩) n n)) w') : o.wp Try.prog a w K Q := by
  obtain ⟨i0, hi0, hz0, hz1, hz2⟩ := info_parts hi
  have hr := run_make (P := Try.prog) w t e i0 (.agg Z.toArray) hu hi0 hz0 kl kl n n (by omega) (by omega) (by rw [hz2, ← Int.natCast_mul]; omega) (by omega)
  simp only [Int.toNat_natCast, hz1] at hr
  have hm : madeCells (Value.agg Z.toArray).cells (n * Z.length) = flatP (List.replicate n Z) := made_flat Z n
  rw [hm] at hr
  unfold Oper.wp
  simp only [execOp, hop, hl, Sem.run_bind, hr, Result.andThen, Sem.run_pure]
  exact hK _ (World.grownBy_alloc _ _ _) (by simp) ⟨[], by
    have : flatP (List.replicate n Z ++ [[]]) = flatP (List.replicate n Z) := by simp [flatP]
    rw [this]; exact Blk.new rfl⟩

theorem rep_votes {w : World} {g n : Nat} (hn : n ≤ 1000000) (h : RowB w g (List.replicate n zeV.cells)) : VotesV w (.slice (some ⟨g, 0, none⟩) n n) (List.replicate n zeV) := by
  have h2 := row_votes (w := w) (g := g) (cap := n) (vs := List.replicate n zeV) (by rw [List.map_replicate]; exact h) (fun v hv => by rw [List.eq_of_mem_replicate hv]; exact zeV_ok) (by rw [List.length_replicate]; unfold maxLen; omega)
  rw [List.length_replicate] at h2; exact h2

theorem build_vts0 (a1 : Option Addr) (n1 c1 : Nat) (u : World) : (Instr.build 47 #[(0, .slice a1 n1 c1)]).run Try.prog u = .ok (.agg #[.slice a1 n1 c1, .slice none 0 0]) u := by kernel_rfl

theorem ints_nil10 (w : World) : IntsV w (.slice none 0 0) [] := ⟨⟨none, 0, 0, rfl, rfl, by unfold maxLen; omega, .inl rfl⟩, by simp⟩

theorem match_one (c : CpD) (v : Value) (l : List Int) : Match [⟨c, v, l⟩] [(c, l)] := ⟨.refl _, List.pairwise_singleton _ _⟩

theorem one_table {w : World} {c : CpD} {a : Option Addr} {n k : Nat} {l : List Int} {Y : List Value} {t : TypeId} (hc : c.ok) (hY : flatP [c.cells, [.slice a n k]] = Y.toArray) (hI : NumsV w (.slice a n k) l) : TabsV (w.alloc (.cells Y.toArray t)) (.slice (some ⟨w.heap.size, 0, none⟩) 1 1) [(c, l)] := by
  have hB : Blk (w.alloc (.cells Y.toArray t)) w.heap.size Y.toArray := Blk.new rfl
  refine ⟨_, _, rfl, by unfold maxLen; simp, .inr ⟨w.heap.size, 0, rfl, hB.lt, [Y.toArray], ?_, by simp, ?_⟩⟩
  · have e : rowsL [Y.toArray] = Y.toArray.toList := by simp [rowsL]
    rw [e]; exact hB.range
  · intro p hp
    simp only [List.zip_cons_cons, List.zip_nil_right, List.mem_singleton] at hp
    subst hp
    exact ⟨hc, a, n, k, hY.symm, NumsV.below hI ((Below.refl _ w).alloc (Nat.le_refl _) _), (fun z l c e h => Nat.zero_le _), (fun h => h.elim), trivial⟩

set_option maxHeartbeats 16000000 in
theorem walk_RegistryNew (X0 : Array Value) (n0 : Int) (r0 : List Int) (y0 : Value) (l0 : List Int) (w : World) (w0 : CfI X0 n0 r0 y0) (u0 : NumsV w y0 l0) :
    Calls Try.prog 3 #[.agg X0] w fun e w' => e = .returned (.bool true) ∧ Below w.heap.size w w' := by
  obtain ⟨ya, yk, rfl, hmx⟩ := NumsV.shape u0
  unfold maxLen at hmx
  have HCF := Lib.hid w0
  have HI := Lib.hid u0
  have HA := Lib.hid awake10_any
  have HBA := Lib.hid ((Below.refl w.heap.size w).alloc (Nat.le_refl _) (.cells X0 31))
  have HBX0 : Hid (Blk (w.alloc (.cells X0 31)) w.heap.size X0) := Blk.new rfl
  have HAT0 := Lib.hid (w0.at HBX0.out)
  have hiC : (Try.prog.info? 31).map (·.size) = some X0.size := by rw [w0.size]; kernel_rfl
  obtain ⟨R, hR⟩ : ∃ R, Hid (bytesL r0 = R) := ⟨_, Lib.hid rfl⟩
  have HRG12 := HAT0.out.2.2
  rw [hR.out] at HRG12
  have HRG12 := Lib.hid HRG12
  have hiR : (Try.prog.info? 28).map (·.size) = some R.length := by rw [← hR.out, bytesL_len w0.isb]; kernel_rfl
  have HCK : Hid (CpD.ok ⟨0, r0⟩) := ⟨by show (0 : Int) ≤ 0; omega, by show (0 : Int) ≤ _; omega, w0.isb⟩
  have hBC : ∀ u, (Instr.build 34 #[(1, .agg R.toArray)]).run Try.prog u = .ok (cpX ⟨0, r0⟩) u := fun u => by rw [← hR.out]; exact build_cp1 w0.isb u
  have hBT : ∀ u, (Instr.build 36 #[(0, cpX ⟨0, r0⟩), (1, .slice ya l0.length yk)]).run Try.prog u = .ok (.agg (flatP [(CpD.mk 0 r0).cells, [.slice ya l0.length yk]])) u := fun u => build_tbv HCK.out ya l0.length yk u
  have HON0 : Hid (∀ v ∈ flatP [(CpD.mk 0 r0).cells, [.slice ya l0.length yk]], v.oneCell' = true) := tab_one
  have HSY0 := Lib.hid (tabOff HCK.out (.slice ya l0.length yk)).2.2
  obtain ⟨Y, HY⟩ : ∃ Y : List Value, Hid (flatP [(CpD.mk 0 r0).cells, [.slice ya l0.length yk]] = Y.toArray) := ⟨(flatP [(CpD.mk 0 r0).cells, [.slice ya l0.length yk]]).toList, Lib.hid (by simp)⟩
  rw [HY.out] at hBT HON0 HSY0
  have hsY : Y.length = 34 := by have := HSY0.out; simpa using this
  have hiY : (Try.prog.info? 36).map (·.size) = some Y.length := by rw [hsY]; kernel_rfl
  have hiY' : (Try.prog.info? 36).map (·.size) = some Y.toArray.size := by rw [List.size_toArray]; exact hiY
  obtain ⟨Z, hZ⟩ : ∃ Z, flatP [zeC.cells, [nilS]] = Z := ⟨_, rfl⟩
  have hsz : Z.size = 34 := by rw [← hZ]; rfl
  obtain ⟨hz34, hst⟩ := zero_array (P := Try.prog) (t := 36) (n := 34) Z (by rw [← hZ]; kernel_rfl) hsz (by rw [← hZ]; kernel_rfl)
  have HBC := Lib.hid hBC
  have HBTB := Lib.hid hBT
  obtain ⟨CX, hCX⟩ : ∃ CX, Hid (cpX ⟨0, r0⟩ = CX) := ⟨_, Lib.hid rfl⟩
  rw [hCX.out] at HBC HBTB
  obtain ⟨er, her⟩ : ∃ er, Hid (vtE l0.length l0 = er) := ⟨_, Lib.hid rfl⟩
  clear hst hZ hBC hBT
  by_cases h2000 : (2000 : Int) < (l0.length : Int)
  · have HB4 := HBA
    clear w0 u0
    go_enter Try.func3, Try.ntmps3
    go_wp2_with (first
    | ((with_reducible refine at_load (.tmp 7) ?_); refine wpList_load_1 29 (.tmp 7) rfl w.heap.size 44 (.slice ya l0.length yk) HAT0.out.2.1 rfl _ Try.underlying29 rfl rfl ?_)
    | (go_at_call 5; refine (HA.out _).mono ?_; rintro e w9 ⟨rfl, hb9⟩; have HB9 := Lib.hid (HB4.out.trans (hb9.mono HB4.out.size)); clear hb9))
    go_ret
    exact ⟨rfl, HB9.out⟩
  by_cases hbad : 1024 < l0.length ∨ n0 < 1 ∨ 64 < n0
  · have HNB := Lib.hid (fun u => new_bad X0 n0 r0 ya l0.length yk u w0 (by unfold maxLen; omega) hbad)
    clear w0 u0
    by_cases hb1 : 1024 < l0.length
    · have hb1' : (1024 : Int) < (l0.length : Int) := by omega
      clear hbad
      go_enter Try.func3, Try.ntmps3
      go_wp2_with (first
    | ((with_reducible refine at_load (.tmp 7) ?_); refine wpList_load_1 29 (.tmp 7) rfl w.heap.size 44 (.slice ya l0.length yk) HAT0.out.2.1 rfl _ Try.underlying29 rfl rfl ?_)
    | ((with_reducible refine at_load (.tmp 12) ?_); refine wpList_load_at 28 (.tmp 12) rfl w.heap.size 12 (by simp [Act.eval, Act.put]) R HRG12.out _ Try.underlying28 rfl hiR rfl ?_)
    | ((with_reducible refine at_build (some 14) ?_); refine wpList_build rfl 34 _ rfl #[(1, .agg R.toArray)] (by simp [Act.eval, Act.put]) CX (HBC.out _) ?_)
    | ((with_reducible refine at_load (.tmp 15) ?_); refine wpList_load_1 29 (.tmp 15) rfl w.heap.size 44 (.slice ya l0.length yk) HAT0.out.2.1 rfl _ Try.underlying29 rfl rfl ?_)
    | ((with_reducible refine at_build (some 17) ?_); refine wpList_build rfl 36 _ rfl #[(0, CX), (1, .slice ya l0.length yk)] (by simp [Act.eval, Act.put]) (.agg Y.toArray) (HBTB.out _) ?_)
    | ((with_reducible refine at_store (.tmp 3) ?_); refine wpList_store_blk rfl 36 (.tmp 3) _ rfl (w.heap.size + 1) Y.toArray rfl rfl Z (Blk.new (by simp)) (by rw [hsz, List.size_toArray, hsY]) hiY' HON0.out ?_; intro w2 U2 B2; have hb2 := U2.below ((Below.refl (w.alloc (.cells X0 31)).heap.size (w.alloc (.cells X0 31))).alloc (Nat.le_refl _) (.cells Z 36)) (by simp); have HBX2 := Lib.hid (HBX0.out.call hb2); have HBT2 := Lib.hid B2; have HB2 := Lib.hid (HBA.out.trans (hb2.mono HBA.out.size)); have HAT2 := Lib.hid (HCF.out.at HBX2.out); clear hb2 U2 B2)
    | ((with_reducible refine at_load (.tmp 3) ?_); refine wpList_load_blk rfl 36 (.tmp 3) rfl (w.heap.size + 1) rfl Y.toArray _ HBT2.out Try.underlying36 rfl hiY' ?_)
    | ((with_reducible refine at_load (.tmp 19) ?_); refine wpList_load_1 29 (.tmp 19) rfl w.heap.size 44 (.slice ya l0.length yk) HAT2.out.2.1 rfl _ Try.underlying29 rfl rfl ?_)
    | (go_at_call 6; have hvt := rvtab_any ⟨0, r0⟩ (.slice ya l0.length yk) l0 l0.length w2 HCK.out (HI.out.below HB2.out); rw [HY.out, her.out] at hvt; refine hvt.mono ?_; rintro e w3 ⟨rfl, hb3⟩; have HBX3 := Lib.hid (HBX2.out.call hb3); have HBT3 := Lib.hid (HBT2.out.call hb3); have HB3 := Lib.hid (HB2.out.trans (hb3.mono HB2.out.size)); have HAT3 := Lib.hid (HCF.out.at HBX3.out); have d1 : w3.cell? ⟨w.heap.size, 44, none⟩ = some (.slice ya l0.length yk) := HAT3.out.2.1; have d2 : w3.cell? ⟨w.heap.size, 3, none⟩ = some (.int .i64 n0) := HAT3.out.1; clear hvt hb3)
    | ((with_reducible refine at_load (.tmp 1) ?_); refine wpList_load_blk rfl 31 (.tmp 1) rfl w.heap.size rfl X0 _ HBX3.out Try.underlying31 rfl hiC ?_)
    | (go_at_call 7; refine (HNB.out w3).mono ?_; rintro e w4 ⟨rfl, hb4⟩; have HB4 := Lib.hid (HB3.out.trans (hb4.mono HB3.out.size)); clear hb4)
    | (go_at_call 5; refine (HA.out _).mono ?_; rintro e w9 ⟨rfl, hb9⟩; have HB9 := Lib.hid (HB4.out.trans (hb9.mono HB4.out.size)); clear hb9))
      go_ret
      exact ⟨rfl, HB9.out⟩
    have hb1' : ¬ (1024 : Int) < (l0.length : Int) := by omega
    by_cases hb2 : n0 < 1
    · clear hbad
      go_enter Try.func3, Try.ntmps3
      go_wp2_with (first
    | ((with_reducible refine at_load (.tmp 7) ?_); refine wpList_load_1 29 (.tmp 7) rfl w.heap.size 44 (.slice ya l0.length yk) HAT0.out.2.1 rfl _ Try.underlying29 rfl rfl ?_)
    | ((with_reducible refine at_load (.tmp 12) ?_); refine wpList_load_at 28 (.tmp 12) rfl w.heap.size 12 (by simp [Act.eval, Act.put]) R HRG12.out _ Try.underlying28 rfl hiR rfl ?_)
    | ((with_reducible refine at_build (some 14) ?_); refine wpList_build rfl 34 _ rfl #[(1, .agg R.toArray)] (by simp [Act.eval, Act.put]) CX (HBC.out _) ?_)
    | ((with_reducible refine at_load (.tmp 15) ?_); refine wpList_load_1 29 (.tmp 15) rfl w.heap.size 44 (.slice ya l0.length yk) HAT0.out.2.1 rfl _ Try.underlying29 rfl rfl ?_)
    | ((with_reducible refine at_build (some 17) ?_); refine wpList_build rfl 36 _ rfl #[(0, CX), (1, .slice ya l0.length yk)] (by simp [Act.eval, Act.put]) (.agg Y.toArray) (HBTB.out _) ?_)
    | ((with_reducible refine at_store (.tmp 3) ?_); refine wpList_store_blk rfl 36 (.tmp 3) _ rfl (w.heap.size + 1) Y.toArray rfl rfl Z (Blk.new (by simp)) (by rw [hsz, List.size_toArray, hsY]) hiY' HON0.out ?_; intro w2 U2 B2; have hb2 := U2.below ((Below.refl (w.alloc (.cells X0 31)).heap.size (w.alloc (.cells X0 31))).alloc (Nat.le_refl _) (.cells Z 36)) (by simp); have HBX2 := Lib.hid (HBX0.out.call hb2); have HBT2 := Lib.hid B2; have HB2 := Lib.hid (HBA.out.trans (hb2.mono HBA.out.size)); have HAT2 := Lib.hid (HCF.out.at HBX2.out); clear hb2 U2 B2)
    | ((with_reducible refine at_load (.tmp 3) ?_); refine wpList_load_blk rfl 36 (.tmp 3) rfl (w.heap.size + 1) rfl Y.toArray _ HBT2.out Try.underlying36 rfl hiY' ?_)
    | ((with_reducible refine at_load (.tmp 19) ?_); refine wpList_load_1 29 (.tmp 19) rfl w.heap.size 44 (.slice ya l0.length yk) HAT2.out.2.1 rfl _ Try.underlying29 rfl rfl ?_)
    | (go_at_call 6; have hvt := rvtab_any ⟨0, r0⟩ (.slice ya l0.length yk) l0 l0.length w2 HCK.out (HI.out.below HB2.out); rw [HY.out, her.out] at hvt; refine hvt.mono ?_; rintro e w3 ⟨rfl, hb3⟩; have HBX3 := Lib.hid (HBX2.out.call hb3); have HBT3 := Lib.hid (HBT2.out.call hb3); have HB3 := Lib.hid (HB2.out.trans (hb3.mono HB2.out.size)); have HAT3 := Lib.hid (HCF.out.at HBX3.out); have d1 : w3.cell? ⟨w.heap.size, 44, none⟩ = some (.slice ya l0.length yk) := HAT3.out.2.1; have d2 : w3.cell? ⟨w.heap.size, 3, none⟩ = some (.int .i64 n0) := HAT3.out.1; clear hvt hb3)
    | ((with_reducible refine at_load (.tmp 1) ?_); refine wpList_load_blk rfl 31 (.tmp 1) rfl w.heap.size rfl X0 _ HBX3.out Try.underlying31 rfl hiC ?_)
    | (go_at_call 7; refine (HNB.out w3).mono ?_; rintro e w4 ⟨rfl, hb4⟩; have HB4 := Lib.hid (HB3.out.trans (hb4.mono HB3.out.size)); clear hb4)
    | (go_at_call 5; refine (HA.out _).mono ?_; rintro e w9 ⟨rfl, hb9⟩; have HB9 := Lib.hid (HB4.out.trans (hb9.mono HB4.out.size)); clear hb9))
      go_ret
      exact ⟨rfl, HB9.out⟩
    have hb3 : 64 < n0 := by omega
    clear hbad
    go_enter Try.func3, Try.ntmps3
    go_wp2_with (first
    | ((with_reducible refine at_load (.tmp 7) ?_); refine wpList_load_1 29 (.tmp 7) rfl w.heap.size 44 (.slice ya l0.length yk) HAT0.out.2.1 rfl _ Try.underlying29 rfl rfl ?_)
    | ((with_reducible refine at_load (.tmp 12) ?_); refine wpList_load_at 28 (.tmp 12) rfl w.heap.size 12 (by simp [Act.eval, Act.put]) R HRG12.out _ Try.underlying28 rfl hiR rfl ?_)
    | ((with_reducible refine at_build (some 14) ?_); refine wpList_build rfl 34 _ rfl #[(1, .agg R.toArray)] (by simp [Act.eval, Act.put]) CX (HBC.out _) ?_)
    | ((with_reducible refine at_load (.tmp 15) ?_); refine wpList_load_1 29 (.tmp 15) rfl w.heap.size 44 (.slice ya l0.length yk) HAT0.out.2.1 rfl _ Try.underlying29 rfl rfl ?_)
    | ((with_reducible refine at_build (some 17) ?_); refine wpList_build rfl 36 _ rfl #[(0, CX), (1, .slice ya l0.length yk)] (by simp [Act.eval, Act.put]) (.agg Y.toArray) (HBTB.out _) ?_)
    | ((with_reducible refine at_store (.tmp 3) ?_); refine wpList_store_blk rfl 36 (.tmp 3) _ rfl (w.heap.size + 1) Y.toArray rfl rfl Z (Blk.new (by simp)) (by rw [hsz, List.size_toArray, hsY]) hiY' HON0.out ?_; intro w2 U2 B2; have hb2 := U2.below ((Below.refl (w.alloc (.cells X0 31)).heap.size (w.alloc (.cells X0 31))).alloc (Nat.le_refl _) (.cells Z 36)) (by simp); have HBX2 := Lib.hid (HBX0.out.call hb2); have HBT2 := Lib.hid B2; have HB2 := Lib.hid (HBA.out.trans (hb2.mono HBA.out.size)); have HAT2 := Lib.hid (HCF.out.at HBX2.out); clear hb2 U2 B2)
    | ((with_reducible refine at_load (.tmp 3) ?_); refine wpList_load_blk rfl 36 (.tmp 3) rfl (w.heap.size + 1) rfl Y.toArray _ HBT2.out Try.underlying36 rfl hiY' ?_)
    | ((with_reducible refine at_load (.tmp 19) ?_); refine wpList_load_1 29 (.tmp 19) rfl w.heap.size 44 (.slice ya l0.length yk) HAT2.out.2.1 rfl _ Try.underlying29 rfl rfl ?_)
    | (go_at_call 6; have hvt := rvtab_any ⟨0, r0⟩ (.slice ya l0.length yk) l0 l0.length w2 HCK.out (HI.out.below HB2.out); rw [HY.out, her.out] at hvt; refine hvt.mono ?_; rintro e w3 ⟨rfl, hb3⟩; have HBX3 := Lib.hid (HBX2.out.call hb3); have HBT3 := Lib.hid (HBT2.out.call hb3); have HB3 := Lib.hid (HB2.out.trans (hb3.mono HB2.out.size)); have HAT3 := Lib.hid (HCF.out.at HBX3.out); have d1 : w3.cell? ⟨w.heap.size, 44, none⟩ = some (.slice ya l0.length yk) := HAT3.out.2.1; have d2 : w3.cell? ⟨w.heap.size, 3, none⟩ = some (.int .i64 n0) := HAT3.out.1; clear hvt hb3)
    | ((with_reducible refine at_load (.tmp 1) ?_); refine wpList_load_blk rfl 31 (.tmp 1) rfl w.heap.size rfl X0 _ HBX3.out Try.underlying31 rfl hiC ?_)
    | (go_at_call 7; refine (HNB.out w3).mono ?_; rintro e w4 ⟨rfl, hb4⟩; have HB4 := Lib.hid (HB3.out.trans (hb4.mono HB3.out.size)); clear hb4)
    | (go_at_call 5; refine (HA.out _).mono ?_; rintro e w9 ⟨rfl, hb9⟩; have HB9 := Lib.hid (HB4.out.trans (hb9.mono HB4.out.size)); clear hb9))
    go_ret
    exact ⟨rfl, HB9.out⟩
  have hb1 : l0.length ≤ 1024 := by omega
  have hb1' : ¬ (1024 : Int) < (l0.length : Int) := by omega
  have hb2 : ¬ n0 < 1 := by omega
  have hb3 : ¬ 64 < n0 := by omega
  clear hbad
  by_cases h0 : er = 0
  case neg =>
    have hq : (er != 0) = true := by simpa using h0
    have hee : (er != er) = false := by simp
    have HNE := Lib.hid (fun (u : World) (hu : NumsV u (.slice ya l0.length yk) l0) => new_err X0 n0 r0 ya yk l0 u w0 hu hb1 (by omega) (by omega) her.out h0)
    clear w0 u0
    go_enter Try.func3, Try.ntmps3
    go_wp2_with (first
    | ((with_reducible refine at_load (.tmp 7) ?_); refine wpList_load_1 29 (.tmp 7) rfl w.heap.size 44 (.slice ya l0.length yk) HAT0.out.2.1 rfl _ Try.underlying29 rfl rfl ?_)
    | ((with_reducible refine at_load (.tmp 12) ?_); refine wpList_load_at 28 (.tmp 12) rfl w.heap.size 12 (by simp [Act.eval, Act.put]) R HRG12.out _ Try.underlying28 rfl hiR rfl ?_)
    | ((with_reducible refine at_build (some 14) ?_); refine wpList_build rfl 34 _ rfl #[(1, .agg R.toArray)] (by simp [Act.eval, Act.put]) CX (HBC.out _) ?_)
    | ((with_reducible refine at_load (.tmp 15) ?_); refine wpList_load_1 29 (.tmp 15) rfl w.heap.size 44 (.slice ya l0.length yk) HAT0.out.2.1 rfl _ Try.underlying29 rfl rfl ?_)
    | ((with_reducible refine at_build (some 17) ?_); refine wpList_build rfl 36 _ rfl #[(0, CX), (1, .slice ya l0.length yk)] (by simp [Act.eval, Act.put]) (.agg Y.toArray) (HBTB.out _) ?_)
    | ((with_reducible refine at_store (.tmp 3) ?_); refine wpList_store_blk rfl 36 (.tmp 3) _ rfl (w.heap.size + 1) Y.toArray rfl rfl Z (Blk.new (by simp)) (by rw [hsz, List.size_toArray, hsY]) hiY' HON0.out ?_; intro w2 U2 B2; have hb2 := U2.below ((Below.refl (w.alloc (.cells X0 31)).heap.size (w.alloc (.cells X0 31))).alloc (Nat.le_refl _) (.cells Z 36)) (by simp); have HBX2 := Lib.hid (HBX0.out.call hb2); have HBT2 := Lib.hid B2; have HB2 := Lib.hid (HBA.out.trans (hb2.mono HBA.out.size)); have HAT2 := Lib.hid (HCF.out.at HBX2.out); clear hb2 U2 B2)
    | ((with_reducible refine at_load (.tmp 3) ?_); refine wpList_load_blk rfl 36 (.tmp 3) rfl (w.heap.size + 1) rfl Y.toArray _ HBT2.out Try.underlying36 rfl hiY' ?_)
    | ((with_reducible refine at_load (.tmp 19) ?_); refine wpList_load_1 29 (.tmp 19) rfl w.heap.size 44 (.slice ya l0.length yk) HAT2.out.2.1 rfl _ Try.underlying29 rfl rfl ?_)
    | (go_at_call 6; have hvt := rvtab_any ⟨0, r0⟩ (.slice ya l0.length yk) l0 l0.length w2 HCK.out (HI.out.below HB2.out); rw [HY.out, her.out] at hvt; refine hvt.mono ?_; rintro e w3 ⟨rfl, hb3⟩; have HBX3 := Lib.hid (HBX2.out.call hb3); have HBT3 := Lib.hid (HBT2.out.call hb3); have HB3 := Lib.hid (HB2.out.trans (hb3.mono HB2.out.size)); have HAT3 := Lib.hid (HCF.out.at HBX3.out); have d1 : w3.cell? ⟨w.heap.size, 44, none⟩ = some (.slice ya l0.length yk) := HAT3.out.2.1; have d2 : w3.cell? ⟨w.heap.size, 3, none⟩ = some (.int .i64 n0) := HAT3.out.1; clear hvt hb3)
    | ((with_reducible refine at_load (.tmp 1) ?_); refine wpList_load_blk rfl 31 (.tmp 1) rfl w.heap.size rfl X0 _ HBX3.out Try.underlying31 rfl hiC ?_)
    | (go_at_call 7; refine (HNE.out w3 (HI.out.below HB3.out)).mono ?_; rintro e w4 ⟨rfl, hb4⟩; have HB4 := Lib.hid (HB3.out.trans (hb4.mono HB3.out.size)); clear hb4)
    | (go_at_call 5; refine (HA.out _).mono ?_; rintro e w9 ⟨rfl, hb9⟩; have HB9 := Lib.hid (HB4.out.trans (hb9.mono HB4.out.size)); clear hb9))
    go_ret
    exact ⟨rfl, HB9.out⟩
  subst h0
  have HNG := Lib.hid (fun (u : World) (hu : NumsV u (.slice ya l0.length yk) l0) => new_good X0 n0 r0 ya yk l0 u w0 hu hb1 (by omega) (by omega) her.out)
  have HBE := Lib.hid (fun u => buildEl (P := Try.prog) (t := 48) (e := 36) (Z := flatP [zeC.cells, [nilS]]) (X := Y.toArray) (sz := 34) Try.underlying48 (fun w => by kernel_rfl) (by kernel_rfl) (by rfl) (by rw [List.size_toArray, hsY]) (by omega) (by omega) u)
  clear w0 u0
  go_enter Try.func3, Try.ntmps3
  go_wp2_with (first
    | ((with_reducible refine at_load (.tmp 7) ?_); refine wpList_load_1 29 (.tmp 7) rfl w.heap.size 44 (.slice ya l0.length yk) HAT0.out.2.1 rfl _ Try.underlying29 rfl rfl ?_)
    | ((with_reducible refine at_load (.tmp 12) ?_); refine wpList_load_at 28 (.tmp 12) rfl w.heap.size 12 (by simp [Act.eval, Act.put]) R HRG12.out _ Try.underlying28 rfl hiR rfl ?_)
    | ((with_reducible refine at_build (some 14) ?_); refine wpList_build rfl 34 _ rfl #[(1, .agg R.toArray)] (by simp [Act.eval, Act.put]) CX (HBC.out _) ?_)
    | ((with_reducible refine at_load (.tmp 15) ?_); refine wpList_load_1 29 (.tmp 15) rfl w.heap.size 44 (.slice ya l0.length yk) HAT0.out.2.1 rfl _ Try.underlying29 rfl rfl ?_)
    | ((with_reducible refine at_build (some 17) ?_); refine wpList_build rfl 36 _ rfl #[(0, CX), (1, .slice ya l0.length yk)] (by simp [Act.eval, Act.put]) (.agg Y.toArray) (HBTB.out _) ?_)
    | ((with_reducible refine at_store (.tmp 3) ?_); refine wpList_store_blk rfl 36 (.tmp 3) _ rfl (w.heap.size + 1) Y.toArray rfl rfl Z (Blk.new (by simp)) (by rw [hsz, List.size_toArray, hsY]) hiY' HON0.out ?_; intro w2 U2 B2; have hb2 := U2.below ((Below.refl (w.alloc (.cells X0 31)).heap.size (w.alloc (.cells X0 31))).alloc (Nat.le_refl _) (.cells Z 36)) (by simp); have HBX2 := Lib.hid (HBX0.out.call hb2); have HBT2 := Lib.hid B2; have HB2 := Lib.hid (HBA.out.trans (hb2.mono HBA.out.size)); have HAT2 := Lib.hid (HCF.out.at HBX2.out); clear hb2 U2 B2)
    | ((with_reducible refine at_load (.tmp 3) ?_); refine wpList_load_blk rfl 36 (.tmp 3) rfl (w.heap.size + 1) rfl Y.toArray _ HBT2.out Try.underlying36 rfl hiY' ?_)
    | ((with_reducible refine at_load (.tmp 19) ?_); refine wpList_load_1 29 (.tmp 19) rfl w.heap.size 44 (.slice ya l0.length yk) HAT2.out.2.1 rfl _ Try.underlying29 rfl rfl ?_)
    | (go_at_call 6; have hvt := rvtab_any ⟨0, r0⟩ (.slice ya l0.length yk) l0 l0.length w2 HCK.out (HI.out.below HB2.out); rw [HY.out, her.out] at hvt; refine hvt.mono ?_; rintro e w3 ⟨rfl, hb3⟩; have HBX3 := Lib.hid (HBX2.out.call hb3); have HBT3 := Lib.hid (HBT2.out.call hb3); have HB3 := Lib.hid (HB2.out.trans (hb3.mono HB2.out.size)); have HAT3 := Lib.hid (HCF.out.at HBX3.out); have d1 : w3.cell? ⟨w.heap.size, 44, none⟩ = some (.slice ya l0.length yk) := HAT3.out.2.1; have d2 : w3.cell? ⟨w.heap.size, 3, none⟩ = some (.int .i64 n0) := HAT3.out.1; clear hvt hb3)
    | ((with_reducible refine at_load (.tmp 1) ?_); refine wpList_load_blk rfl 31 (.tmp 1) rfl w.heap.size rfl X0 _ HBX3.out Try.underlying31 rfl hiC ?_)
    | (go_at_call 7; refine (HNG.out w3 (HI.out.below HB3.out)).mono ?_; rintro e w4 ⟨ra, hi, v', rfl, hr4, hb4⟩; have HR4 := Lib.hid hr4; have HB4 := Lib.hid (HB3.out.trans (hb4.mono HB3.out.size)); have HBX4 := Lib.hid (HBX3.out.call hb4); have HBT4 := Lib.hid (HBT3.out.call hb4); clear hr4 hb4))
  obtain ⟨x, hx⟩ : ∃ x, w4.drew = x := ⟨_, rfl⟩
  have hbd : Below w4.heap.size w4 x := by rw [← hx]; exact ⟨rfl, rfl, rfl, Nat.le_refl _, fun _ _ => rfl⟩
  have HB := Lib.hid (HB4.out.trans (hbd.mono HB4.out.size))
  have HR := Lib.hid (HR4.out.call hbd)
  have HBX := Lib.hid (HBX4.out.call hbd)
  have HBT := Lib.hid (HBT4.out.call hbd)
  have HI2 := Lib.hid (HI.out.below HB.out)
  have HS : Hid (Below x.heap.size x x) := Below.refl _ _
  have HAT := Lib.hid (fun (u : World) (hu : Blk u w.heap.size X0) => HCF.out.at hu)
  clear HI hbd d1 d2 HB4 HB3 HB2 HBX3 HBX2 HBT3 HBT2 HBX4 HBT4 HR4 HAT3 HAT2
  have HI := HI2
  clear HI2
  refine wp_region_held_drew (S := fun u' => Below x.heap.size x u') (by kernel_rfl) (by rw [hx]; exact HS.out) (fun _ => ?_)
  rw [hx]
  clear hx
  (try simp only [Act.put, List.setIfInBounds_toArray, List.set_cons_zero, List.set_cons_succ])
  refine wpAnyH_take (i := 0) (oi := ⟨some 54, _, _, _, _, _⟩) (v := .pointer (some ⟨ra.b, 0, none⟩)) rfl (by kernel_rfl) (by kernel_rfl) (by kernel_rfl) (fun _ _ _ h => h) (Or.inl ⟨by rfl, fun wz hz => ?_⟩) HS.out ?_
  · clear hz; go_simp; first | done | with_reducible rfl | rfl
  (try simp only [Act.put, List.setIfInBounds_toArray, List.set_cons_zero, List.set_cons_succ])
  refine wpAnyH_ready (rs := [1]) (by kernel_rfl) (by simp) ?_
  refine AllReadyH.cons (o := ⟨some 55, _, _, _, _, _⟩) rfl (fun K hK => ?_) AllReadyH.nil
  rw [if_pos (by rfl)]
  go_simp
  refine (ready_any _ _ ra _ _ _ _ _ _ HR.out).mono ?_
  rintro e wq ⟨rfl, hq⟩
  rw [hq]
  refine hK.out _ _ HS.out (fun _ => ?_)
  clear hK K hq
  (try simp only [Act.put, List.setIfInBounds_toArray, List.set_cons_zero, List.set_cons_succ])
  refine wpAnyH_take (i := 2) (oi := ⟨some 56, _, _, _, _, _⟩) (v := .bool true) rfl (by kernel_rfl) (by kernel_rfl) (by kernel_rfl) (fun _ _ _ h => h) (Or.inl ⟨by rfl, fun wz hz => ?_⟩) HS.out ?_
  · clear hz; go_simp; first | done | with_reducible rfl | rfl
  (try simp only [Act.put, List.setIfInBounds_toArray, List.set_cons_zero, List.set_cons_succ])
  refine wpAnyH_take (i := 3) (oi := ⟨some 57, _, _, _, _, _⟩) (v := .pointer (some ⟨ra.b, 0, none⟩)) rfl (by kernel_rfl) (by kernel_rfl) (by kernel_rfl) (fun _ _ _ h => h) (Or.inl ⟨by rfl, fun wz hz => ?_⟩) HS.out ?_
  · clear hz; go_simp; first | done | with_reducible rfl | rfl
  (try simp only [Act.put, List.setIfInBounds_toArray, List.set_cons_zero, List.set_cons_succ])
  refine wpAnyH_take (i := 4) (oi := ⟨some 58, _, _, _, _, _⟩) (v := .pointer (some ⟨w.heap.size, 44, none⟩)) rfl (by kernel_rfl) (by kernel_rfl) (by kernel_rfl) (fun _ _ _ h => h) (Or.inl ⟨by rfl, fun wz hz => ?_⟩) HS.out ?_
  · clear hz; go_simp; first | done | with_reducible rfl | rfl
  (try simp only [Act.put, List.setIfInBounds_toArray, List.set_cons_zero, List.set_cons_succ])
  refine held_load1 (oi := ⟨some 59, _, _, _, _, _⟩) 5 rfl (by kernel_rfl) (by kernel_rfl) (by kernel_rfl) (fun _ _ _ _ h => h) rfl 29 (.tmp 58) rfl w.heap.size 44 rfl (.slice ya l0.length yk) _ (fun u' hu => (HAT.out _ (HBX.out.call hu)).2.1) Try.underlying29 rfl HS.out ?_
  (try simp only [Act.put, List.setIfInBounds_toArray, List.set_cons_zero, List.set_cons_succ])
  refine wpAnyH_take (i := 6) (oi := ⟨some 60, _, _, _, _, _⟩) (v := .int .i64 l0.length) rfl (by kernel_rfl) (by kernel_rfl) (by kernel_rfl) (fun _ _ _ h => h) (Or.inl ⟨by rfl, fun wz hz => ?_⟩) HS.out ?_
  · clear hz; go_simp; first | done | with_reducible rfl | rfl
  (try simp only [Act.put, List.setIfInBounds_toArray, List.set_cons_zero, List.set_cons_succ])
  refine held_load (oi := ⟨some 63, _, _, _, _, _⟩) 9 rfl (by kernel_rfl) (by kernel_rfl) (by kernel_rfl) (fun _ _ _ _ h => h) rfl 36 (.tmp 3) rfl (w.heap.size + 1) 0 rfl Y _ (fun u' hu => (HBT.out.call hu).rng) Try.underlying36 rfl (hiY) HS.out ?_
  (try simp only [Act.put, List.setIfInBounds_toArray, List.set_cons_zero, List.set_cons_succ])
  refine wpAnyH_ready (rs := [7, 10]) (by kernel_rfl) (by simp) ?_
  refine AllReadyH.cons (o := ⟨some 61, _, _, _, _, _⟩) rfl (fun K hK => ?_) (AllReadyH.cons (o := ⟨some 64, _, _, _, _, _⟩) rfl (fun K hK => ?_) AllReadyH.nil)
  · rw [if_pos (by rfl)]
    refine wp_makeEls (.tmp 60) 44 78 rfl zeV.cells 48 Try.underlying44 info_vote .i64 l0.length rfl (by omega) (by omega) ?_
    intro wm hgm hsm hrm
    clear hsm
    have hb : Below x.heap.size x wm := grown_belowM hgm
    have HVM := Lib.hid (rep_votes (by omega) hrm)
    have HSn := Lib.hid (HS.out.trans (hb.mono HS.out.size))
    refine hK.out _ _ HSn.out (fun _ => ?_)
    clear hK K HS
    have HS := HSn
    clear HSn
    (try simp only [Act.put, List.setIfInBounds_toArray, List.set_cons_zero, List.set_cons_succ])
    refine wpAnyH_take (i := 8) (oi := ⟨some 62, _, _, _, _, _⟩) (v := .agg #[.slice (some ⟨x.heap.size, 0, none⟩) l0.length l0.length, .slice none 0 0]) rfl (by kernel_rfl) (by kernel_rfl) (by kernel_rfl) (fun _ _ _ h => h) (Or.inl ⟨by rfl, fun wz hz => ?_⟩) HS.out ?_
    · clear hz; have hbv := build_vts0 (some ⟨x.heap.size, 0, none⟩) l0.length l0.length wz; go_simp; first | done | with_reducible rfl | rfl
    (try simp only [Act.put, List.setIfInBounds_toArray, List.set_cons_zero, List.set_cons_succ])
    refine wpAnyH_ready (rs := [10]) (by kernel_rfl) (by simp) ?_
    refine AllReadyH.cons (o := ⟨some 64, _, _, _, _, _⟩) rfl (fun K hK => ?_) AllReadyH.nil
    rw [if_pos (by rfl)]
    refine wp_buildSlice 48 1 _ rfl #[(0, .agg Y.toArray)] (by simp [Act.eval, Act.put]) _ (HBE.out wm) ?_
    have hb := (Below.refl wm.heap.size wm).alloc (Nat.le_refl _) (.cells Y.toArray 36)
    have HTM := Lib.hid (one_table (t := 36) HCK.out HY.out ((HI.out.below HS.out)))
    obtain ⟨wt, hwt⟩ : ∃ wt, Hid (wm.alloc (.cells Y.toArray 36) = wt) := ⟨_, Lib.hid rfl⟩
    rw [hwt.out] at HTM hb ⊢
    have HVMn : Hid (VotesV wt (.slice (some ⟨x.heap.size, 0, none⟩) l0.length l0.length) (List.replicate l0.length zeV)) := ElV.below voOK HVM.out hb
    clear HVM
    have HVM := HVMn
    clear HVMn
    have HSn := Lib.hid (HS.out.trans (hb.mono HS.out.size))
    refine hK.out _ _ HSn.out (fun _ => ?_)
    clear hK K HS
    have HS := HSn
    clear HSn
    (try simp only [Act.put, List.setIfInBounds_toArray, List.set_cons_zero, List.set_cons_succ])
    refine wpAnyH_ready (rs := [11]) (by kernel_rfl) (by simp) ?_
    refine AllReadyH.cons (o := ⟨some 65, _, _, _, _, _⟩) rfl (fun K hK => ?_) AllReadyH.nil
    rw [if_pos (by rfl)]
    go_simp
    refine (same10_any _ _ ra _ _ _ _ _ [(⟨0, r0⟩, l0)] _ _ _ _ (HR.out.call HS.out) (match_one _ _ _) (by simp) HVM.out (by rw [memS_rep]; exact ints_nil10 _) HTM.out).mono ?_
    rintro e w8 ⟨rfl, hb⟩
    have HSn := Lib.hid (HS.out.trans (hb.mono HS.out.size))
    refine hK.out _ _ HSn.out (fun _ => ?_)
    clear hK K HS
    have HS := HSn
    clear HSn
    refine wpAnyH_take (i := 12) (oi := ⟨some 66, _, _, _, _, _⟩) (v := .bool true) rfl (by kernel_rfl) (by kernel_rfl) (by kernel_rfl) (fun _ _ _ h => h) (Or.inl ⟨by rfl, fun wz hz => ?_⟩) HS.out ?_
    · clear hz; go_simp; first | done | with_reducible rfl | rfl
    (try simp only [Act.put, List.setIfInBounds_toArray, List.set_cons_zero, List.set_cons_succ])
    refine wpAnyH_take (i := 13) (oi := ⟨some 67, _, _, _, _, _⟩) (v := .bool true) rfl (by kernel_rfl) (by kernel_rfl) (by kernel_rfl) (fun _ _ _ h => h) (Or.inl ⟨by rfl, fun wz hz => ?_⟩) HS.out ?_
    · clear hz; go_simp; first | done | with_reducible rfl | rfl
    (try simp only [Act.put, List.setIfInBounds_toArray, List.set_cons_zero, List.set_cons_succ])
    refine wpAnyH_ready (rs := [14]) (by kernel_rfl) (by simp) ?_
    refine AllReadyH.cons (o := ⟨some 68, _, _, _, _, _⟩) rfl (fun K hK => ?_) AllReadyH.nil
    rw [if_pos (by rfl)]
    go_simp
    refine (HA.out _).mono ?_
    rintro e w9 ⟨rfl, hb⟩
    have HSn := Lib.hid (HS.out.trans (hb.mono HS.out.size))
    refine hK.out _ _ HSn.out (fun _ => ?_)
    clear hK K HS
    have HS := HSn
    clear HSn
    refine wpAnyH_take (i := 15) (oi := ⟨some 69, _, _, _, _, _⟩) (v := .bool true) rfl (by kernel_rfl) (by kernel_rfl) (by kernel_rfl) (fun _ _ _ h => h) (Or.inl ⟨by rfl, fun wz hz => ?_⟩) HS.out ?_
    · clear hz; go_simp; first | done | with_reducible rfl | rfl
    (try simp only [Act.put, List.setIfInBounds_toArray, List.set_cons_zero, List.set_cons_succ])
    refine wpAnyH_ready (rs := [16]) (by kernel_rfl) (by simp) ?_
    refine AllReadyH.cons (o := ⟨some 2, _, _, _, _, _⟩) rfl (fun K hK => ?_) AllReadyH.nil
    go_simp
    refine hK.out _ _ HS.out (fun _ => ?_)
    clear hK K
    (try simp only [Act.put, List.setIfInBounds_toArray, List.set_cons_zero, List.set_cons_succ])
    refine wpAnyH_done (by kernel_rfl) ?_ _
    go_wp2_with fail
    go_ret
    exact ⟨rfl, HB.out.trans (HS.out.mono HB.out.size)⟩
  · rw [if_pos (by rfl)]
    refine wp_buildSlice 48 1 _ rfl #[(0, .agg Y.toArray)] (by simp [Act.eval, Act.put]) _ (HBE.out x) ?_
    have hb := (Below.refl x.heap.size x).alloc (Nat.le_refl _) (.cells Y.toArray 36)
    have HTM := Lib.hid (one_table (t := 36) HCK.out HY.out ((HI.out.below HS.out)))
    obtain ⟨wt, hwt⟩ : ∃ wt, Hid (x.alloc (.cells Y.toArray 36) = wt) := ⟨_, Lib.hid rfl⟩
    rw [hwt.out] at HTM hb ⊢
    have HSn := Lib.hid (HS.out.trans (hb.mono HS.out.size))
    refine hK.out _ _ HSn.out (fun _ => ?_)
    clear hK K HS
    have HS := HSn
    clear HSn
    (try simp only [Act.put, List.setIfInBounds_toArray, List.set_cons_zero, List.set_cons_succ])
    refine wpAnyH_ready (rs := [7]) (by kernel_rfl) (by simp) ?_
    refine AllReadyH.cons (o := ⟨some 61, _, _, _, _, _⟩) rfl (fun K hK => ?_) AllReadyH.nil
    rw [if_pos (by rfl)]
    refine wp_makeEls (.tmp 60) 44 78 rfl zeV.cells 48 Try.underlying44 info_vote .i64 l0.length rfl (by omega) (by omega) ?_
    intro wm hgm hsm hrm
    clear hsm
    have hb : Below wt.heap.size wt wm := grown_belowM hgm
    have HVM := Lib.hid (rep_votes (by omega) hrm)
    have HTMn := Lib.hid (TabsV.below HTM.out hb)
    clear HTM
    have HTM := HTMn
    clear HTMn
    have HSn := Lib.hid (HS.out.trans (hb.mono HS.out.size))
    refine hK.out _ _ HSn.out (fun _ => ?_)
    clear hK K HS
    have HS := HSn
    clear HSn
    (try simp only [Act.put, List.setIfInBounds_toArray, List.set_cons_zero, List.set_cons_succ])
    refine wpAnyH_take (i := 8) (oi := ⟨some 62, _, _, _, _, _⟩) (v := .agg #[.slice (some ⟨wt.heap.size, 0, none⟩) l0.length l0.length, .slice none 0 0]) rfl (by kernel_rfl) (by kernel_rfl) (by kernel_rfl) (fun _ _ _ h => h) (Or.inl ⟨by rfl, fun wz hz => ?_⟩) HS.out ?_
    · clear hz; have hbv := build_vts0 (some ⟨wt.heap.size, 0, none⟩) l0.length l0.length wz; go_simp; first | done | with_reducible rfl | rfl
    (try simp only [Act.put, List.setIfInBounds_toArray, List.set_cons_zero, List.set_cons_succ])
    refine wpAnyH_ready (rs := [11]) (by kernel_rfl) (by simp) ?_
    refine AllReadyH.cons (o := ⟨some 65, _, _, _, _, _⟩) rfl (fun K hK => ?_) AllReadyH.nil
    rw [if_pos (by rfl)]
    go_simp
    refine (same10_any _ _ ra _ _ _ _ _ [(⟨0, r0⟩, l0)] _ _ _ _ (HR.out.call HS.out) (match_one _ _ _) (by simp) HVM.out (by rw [memS_rep]; exact ints_nil10 _) HTM.out).mono ?_
    rintro e w8 ⟨rfl, hb⟩
    have HSn := Lib.hid (HS.out.trans (hb.mono HS.out.size))
    refine hK.out _ _ HSn.out (fun _ => ?_)
    clear hK K HS
    have HS := HSn
    clear HSn
    refine wpAnyH_take (i := 12) (oi := ⟨some 66, _, _, _, _, _⟩) (v := .bool true) rfl (by kernel_rfl) (by kernel_rfl) (by kernel_rfl) (fun _ _ _ h => h) (Or.inl ⟨by rfl, fun wz hz => ?_⟩) HS.out ?_
    · clear hz; go_simp; first | done | with_reducible rfl | rfl
    (try simp only [Act.put, List.setIfInBounds_toArray, List.set_cons_zero, List.set_cons_succ])
    refine wpAnyH_take (i := 13) (oi := ⟨some 67, _, _, _, _, _⟩) (v := .bool true) rfl (by kernel_rfl) (by kernel_rfl) (by kernel_rfl) (fun _ _ _ h => h) (Or.inl ⟨by rfl, fun wz hz => ?_⟩) HS.out ?_
    · clear hz; go_simp; first | done | with_reducible rfl | rfl
    (try simp only [Act.put, List.setIfInBounds_toArray, List.set_cons_zero, List.set_cons_succ])
    refine wpAnyH_ready (rs := [14]) (by kernel_rfl) (by simp) ?_
    refine AllReadyH.cons (o := ⟨some 68, _, _, _, _, _⟩) rfl (fun K hK => ?_) AllReadyH.nil
    rw [if_pos (by rfl)]
    go_simp
    refine (HA.out _).mono ?_
    rintro e w9 ⟨rfl, hb⟩
    have HSn := Lib.hid (HS.out.trans (hb.mono HS.out.size))
    refine hK.out _ _ HSn.out (fun _ => ?_)
    clear hK K HS
    have HS := HSn
    clear HSn
    refine wpAnyH_take (i := 15) (oi := ⟨some 69, _, _, _, _, _⟩) (v := .bool true) rfl (by kernel_rfl) (by kernel_rfl) (by kernel_rfl) (fun _ _ _ h => h) (Or.inl ⟨by rfl, fun wz hz => ?_⟩) HS.out ?_
    · clear hz; go_simp; first | done | with_reducible rfl | rfl
    (try simp only [Act.put, List.setIfInBounds_toArray, List.set_cons_zero, List.set_cons_succ])
    refine wpAnyH_ready (rs := [16]) (by kernel_rfl) (by simp) ?_
    refine AllReadyH.cons (o := ⟨some 2, _, _, _, _, _⟩) rfl (fun K hK => ?_) AllReadyH.nil
    go_simp
    refine hK.out _ _ HS.out (fun _ => ?_)
    clear hK K
    (try simp only [Act.put, List.setIfInBounds_toArray, List.set_cons_zero, List.set_cons_succ])
    refine wpAnyH_done (by kernel_rfl) ?_ _
    go_wp2_with fail
    go_ret
    exact ⟨rfl, HB.out.trans (HS.out.mono HB.out.size)⟩
end

end Go.Proofs.Ytcbjjafjomdklaa
