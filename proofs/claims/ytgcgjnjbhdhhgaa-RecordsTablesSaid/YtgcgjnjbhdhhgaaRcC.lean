/- The reference's EncodeAttestation. -/
import Derived.Test.YtgcgjnjbhdhhgaaRcB
import Derived.Test.YtgcgjnjbhdhhgaaCdG
import Derived.Test.YtgcgjnjbhdhhgaaHeld4
set_option linter.unusedVariables false
set_option linter.unusedSimpArgs false
namespace Go.Proofs.Ytgcgjnjbhdhhgaa
open Go.RowKit

set_option maxRecDepth 100000 in
set_option maxHeartbeats 4000000 in
theorem reatt_any (s : Int) (r : List Int) (c : CpD) (lv : Value) (l : List Int) (w : World) (hs : 0 ≤ s ∧ s ≤ 18446744073709551615) (hr : IsBytes 32 r) (hc : c.ok) (hI : IntsV w lv l) (hl : l.length ≤ 1000000000) :
    Calls Try.prog 18 #[.agg (flatP [[.int .u64 s], bytesL r, c.cells, [lv]])] w (EncR w (vlE l 1024) (uenc s.toNat ++ (r ++ (c.enc ++ lenc l)))) := by
  obtain ⟨lva, lvl, lvc, rfl⟩ : ∃ a l c, lv = .slice a l c := by obtain ⟨⟨a, l, c, e, _⟩, _⟩ := hI; exact ⟨a, l, c, e⟩
  have h32 := bytesL_len hr
  have h33 := CpD.len hc
  have l1 := uenc_len10 (n := s.toNat) (by omega)
  have l2 := CpD.encl hc
  have l3 := hr.1
  obtain ⟨ps, hps⟩ : ∃ ps, ps = [[Value.int .u64 s], bytesL r, c.cells, [Value.slice lva lvl lvc]] := ⟨_, rfl⟩
  rw [← hps]
  have o0 : Hid (offP ps 0 = 0) := rfl
  have o1 : Hid (offP ps 1 = 1) := by show _ = _; rw [hps]; rfl
  have o2 : Hid (offP ps 2 = 33) := by show _ = _; rw [hps]; simp [offP, h32]
  have o3 : Hid (offP ps 3 = 66) := by show _ = _; rw [hps]; simp [offP, h32, h33]
  have q0 : Hid (ps[0]? = some [Value.int .u64 s]) := by show _ = _; rw [hps]; rfl
  have q1 : Hid (ps[1]? = some (bytesL r)) := by show _ = _; rw [hps]; rfl
  have q2 : Hid (ps[2]? = some c.cells) := by show _ = _; rw [hps]; rfl
  have q3 : Hid (ps[3]? = some [Value.slice lva lvl lvc]) := by show _ = _; rw [hps]; rfl
  have hX0 : (flatP ps).size = 67 := by rw [flatP_size, hps]; simp [h32, h33]
  clear hps
  obtain ⟨X, HX⟩ : ∃ X, Hid (flatP ps = X) := ⟨_, rfl⟩
  rw [HX.out] at hX0 ⊢
  have B0 : Hid (Blk (w.alloc (.cells X 45)) w.heap.size (flatP ps)) := Blk.to (Blk.new rfl) HX.out.symm
  have hba := (Below.refl w.heap.size w).alloc (Nat.le_refl _) (.cells X 45)
  have HDV := Lib.hid (rvlist_any (.slice lva lvl lvc) l 1024 _ (hI.below hba) (by omega) (by omega))
  have D1 := Lib.hid (fun u B h hB => ruint_any (.slice none 0 0) [] s u B h hB hs.1 hs.2 (by simp))
  have D2 : Hid (∀ v u B, Own u B v ([] ++ uenc s.toNat) → B ≤ u.heap.size → Calls Try.prog 49 #[v, .agg (bytesL r).toArray] u (AppO u B v ([] ++ uenc s.toNat ++ r))) := fun v u B h hB => rroot_any v _ r u B h hB hr (by simp only [List.length_append, List.length_nil]; omega)
  have D3 : Hid (∀ v u B, Own u B v ([] ++ uenc s.toNat ++ r) → B ≤ u.heap.size → Calls Try.prog 52 #[v, .agg c.cells.toArray] u (AppO u B v ([] ++ uenc s.toNat ++ r ++ (uenc c.n.toNat ++ c.r)))) := fun v u B h hB => rcheck_any v _ c.n c.r u B h hB hc.1 hc.2.1 hc.2.2 (by simp only [List.length_append, List.length_nil]; omega)
  have D4 := Lib.hid (fun (hv : vlE l 1024 = 0) v u B (h : Own u B v ([] ++ uenc s.toNat ++ r ++ (uenc c.n.toNat ++ c.r))) (hB : B ≤ u.heap.size) (hw : w.heap.size < B) (hbb : ∀ u', Below B u u' → Below w.heap.size w u') => rlst_any v (.slice lva lvl lvc) _ l u B h hB (fun u' hu' => hI.below (hbb u' hu')) (fun x a c e h0 => by
    obtain ⟨⟨_, _, _, e', _, _, hr⟩, _⟩ := hI
    cases e
    cases e'
    rcases hr with hr | ⟨bb, oo, e2, hlt, _⟩
    · omega
    · cases e2; simp only; omega) hv hl (by simp only [List.length_append, List.length_nil]; unfold CpD.enc at l2; rw [List.length_append] at l2; omega))
  have HE : Hid ([] ++ uenc s.toNat ++ r ++ (uenc c.n.toNat ++ c.r) ++ lenc l = uenc s.toNat ++ (r ++ (c.enc ++ lenc l))) := by show _ = _; simp [CpD.enc]
  have HLE : Hid (∀ h : vlE l 1024 = 0, ([] ++ uenc s.toNat ++ r ++ (uenc c.n.toNat ++ c.r) ++ lenc l).length ≤ 140737488355328) := fun h => by
    have := lenc_len h (Nat.le_refl _) hl
    simp only [List.length_append, List.length_nil]; unfold CpD.enc at l2; rw [List.length_append] at l2; unfold lenc; omega
  have HBY : Hid (∀ x ∈ [] ++ uenc s.toNat ++ r ++ (uenc c.n.toNat ++ c.r) ++ lenc l, 0 ≤ x ∧ x ≤ 255) := by
    intro x hx
    simp only [List.mem_append, List.nil_append, lenc, lencK] at hx
    rcases hx with ((hx | hx) | hx | hx) | hx | hx
    · exact uenc_byte _ x hx
    · exact isb_rng hr x hx
    · exact uenc_byte _ x hx
    · exact isb_rng hc.2.2 x hx
    · exact uenc_byte _ x hx
    · exact seqK_byte _ _ x hx
  have HBA := Lib.hid hba; clear hba hI hl l1 l2 l3 hr hc hs
  have HI32 : Hid ((Try.prog.info? 29).map (·.size) = some (bytesL r).length) := by show _ = _; rw [h32]; kernel_rfl
  have HI33 : Hid ((Try.prog.info? 31).map (·.size) = some c.cells.length) := by show _ = _; rw [h33]; kernel_rfl
  clear h32 h33
  obtain ⟨E, hE⟩ : ∃ E, vlE l 1024 = E := ⟨_, rfl⟩
  rw [hE] at HDV D4 HLE ⊢
  clear hE HX
  by_cases hE0 : E = 0
  case neg =>
    have hne : (E != 0) = true := by simpa using hE0
    go_enter Try.func18, Try.ntmps18
    go_wp2_with (first
      | ((with_reducible refine at_load (.tmp 5) ?_); refine wpList_load_1 22 (.tmp 5) rfl w.heap.size 66 (.slice lva lvl lvc) (B0.out.cellAt q3.out o3.out) rfl _ Try.underlying22 rfl rfl ?_)
      | (go_at_call 12; refine HDV.out.mono ?_; rintro e w1 ⟨rfl, hb1⟩))
    go_ret2
    exact ⟨_, rfl, by rw [if_neg hE0]; exact byt_nil _, HBA.out.trans (hb1.mono HBA.out.size)⟩
  subst hE0
  have HD4 := Lib.hid (D4.out rfl); clear D4
  have HLE1 := Lib.hid (HLE.out rfl); clear HLE
  go_enter Try.func18, Try.ntmps18
  go_wp2_with (first
    | ((with_reducible refine at_load (.tmp 5) ?_); refine wpList_load_1 22 (.tmp 5) rfl w.heap.size 66 (.slice lva lvl lvc) (B0.out.cellAt q3.out o3.out) rfl _ Try.underlying22 rfl rfl ?_)
    | (go_at_call 12; refine HDV.out.mono ?_; rintro e w1 ⟨rfl, hb1⟩; have K1 := Lib.hid (B0.out.call hb1); have HB1 := Lib.hid (HBA.out.trans (hb1.mono HBA.out.size)); clear hb1))
  refine wp_region_held_drew (S := fun u' => Below w1.drew.heap.size w1.drew u') (by kernel_rfl) (Below.refl _ _) (fun _ => ?_)
  (try simp only [Act.put, List.setIfInBounds_toArray, List.set_cons_zero, List.set_cons_succ])
  obtain ⟨x, hx⟩ : ∃ x, w1.drew = x := ⟨_, rfl⟩
  have KX : Blk x w.heap.size (flatP ps) := by rw [← hx]; exact K1.out
  have HBX : Below w.heap.size w x := by rw [← hx]; exact Below.drewN (n := 1) HB1.out
  rw [hx]
  clear hx
  have hbx : w.heap.size < x.heap.size := KX.lt
  have r1 := KX.part q1.out
  have r2 := KX.part q2.out
  rw [o1.out] at r1
  rw [o2.out] at r2
  have c0 := KX.cellAt q0.out o0.out
  have c3 := KX.cellAt q3.out o3.out
  refine wpAnyH_take (i := 0) (oi := ⟨some 11, _, _, _, _, _⟩) (v := .pointer (some ⟨w.heap.size, 0, none⟩)) rfl (by kernel_rfl) (by kernel_rfl) (by kernel_rfl) (fun _ _ _ h => h) (Or.inl ⟨by rfl, fun wz hz => ?_⟩) (Below.refl _ _) ?_
  · clear hz; go_simp; first | done | with_reducible rfl | rfl
  (try simp only [Act.put, List.setIfInBounds_toArray, List.set_cons_zero, List.set_cons_succ])
  refine held_load1 1 rfl (by kernel_rfl) (by kernel_rfl) (by kernel_rfl) (fun _ _ _ _ h => h) rfl 27 (.tmp 11) rfl w.heap.size 0 rfl (.int .u64 s) _ (fun u' hu => (hu.cell (p := ⟨w.heap.size, 0, none⟩) hbx).trans c0) Try.underlying27 rfl (Below.refl _ _) ?_
  (try simp only [Act.put, List.setIfInBounds_toArray, List.set_cons_zero, List.set_cons_succ])
  refine wpAnyH_take (i := 3) (oi := ⟨some 14, _, _, _, _, _⟩) (v := .pointer (some ⟨w.heap.size, 1, none⟩)) rfl (by kernel_rfl) (by kernel_rfl) (by kernel_rfl) (fun _ _ _ h => h) (Or.inl ⟨by rfl, fun wz hz => ?_⟩) (Below.refl _ _) ?_
  · clear hz; go_simp; first | done | with_reducible rfl | rfl
  (try simp only [Act.put, List.setIfInBounds_toArray, List.set_cons_zero, List.set_cons_succ])
  refine held_load 4 rfl (by kernel_rfl) (by kernel_rfl) (by kernel_rfl) (fun _ _ _ _ h => h) rfl 29 (.tmp 14) rfl w.heap.size 1 rfl (bytesL r) _ (fun u' hu => Below.rng hu hbx r1) Try.underlying29 rfl (HI32.out) (Below.refl _ _) ?_
  (try simp only [Act.put, List.setIfInBounds_toArray, List.set_cons_zero, List.set_cons_succ])
  refine wpAnyH_take (i := 6) (oi := ⟨some 17, _, _, _, _, _⟩) (v := .pointer (some ⟨w.heap.size, 33, none⟩)) rfl (by kernel_rfl) (by kernel_rfl) (by kernel_rfl) (fun _ _ _ h => h) (Or.inl ⟨by rfl, fun wz hz => ?_⟩) (Below.refl _ _) ?_
  · clear hz; go_simp; first | done | with_reducible rfl | rfl
  (try simp only [Act.put, List.setIfInBounds_toArray, List.set_cons_zero, List.set_cons_succ])
  refine held_load 7 rfl (by kernel_rfl) (by kernel_rfl) (by kernel_rfl) (fun _ _ _ _ h => h) rfl 31 (.tmp 17) rfl w.heap.size 33 rfl c.cells _ (fun u' hu => Below.rng hu hbx r2) Try.underlying31 rfl (HI33.out) (Below.refl _ _) ?_
  (try simp only [Act.put, List.setIfInBounds_toArray, List.set_cons_zero, List.set_cons_succ])
  refine wpAnyH_take (i := 9) (oi := ⟨some 20, _, _, _, _, _⟩) (v := .pointer (some ⟨w.heap.size, 66, none⟩)) rfl (by kernel_rfl) (by kernel_rfl) (by kernel_rfl) (fun _ _ _ h => h) (Or.inl ⟨by rfl, fun wz hz => ?_⟩) (Below.refl _ _) ?_
  · clear hz; go_simp; first | done | with_reducible rfl | rfl
  (try simp only [Act.put, List.setIfInBounds_toArray, List.set_cons_zero, List.set_cons_succ])
  refine held_load1 10 rfl (by kernel_rfl) (by kernel_rfl) (by kernel_rfl) (fun _ _ _ _ h => h) rfl 22 (.tmp 20) rfl w.heap.size 66 rfl (.slice lva lvl lvc) _ (fun u' hu => (hu.cell (p := ⟨w.heap.size, 66, none⟩) hbx).trans c3) Try.underlying22 rfl (Below.refl _ _) ?_
  (try simp only [Act.put, List.setIfInBounds_toArray, List.set_cons_zero, List.set_cons_succ])
  refine wpAnyH_ready (rs := [2]) (by kernel_rfl) (by simp) ?_
  refine AllReadyH.cons rfl (fun K hK => ?_) AllReadyH.nil
  go_simp
  refine (D1.out _ _ (Own.nil x x.heap.size) (Nat.le_refl _)).mono ?_
  rintro e wa ⟨va, rfl, ha, hba, _⟩

  refine hK.out _ _ (hba) (fun _ => ?_)
  clear hK K
  (try simp only [Act.put, List.setIfInBounds_toArray, List.set_cons_zero, List.set_cons_succ])
  refine wpAnyH_ready (rs := [5]) (by kernel_rfl) (by simp) ?_
  refine AllReadyH.cons rfl (fun K hK => ?_) AllReadyH.nil
  go_simp
  refine (D2.out _ _ _ ha hba.size).mono ?_
  rintro e wb ⟨vb, rfl, hb, hbb0, _⟩
  have hbb := hba.trans hbb0
  refine hK.out _ _ (hbb) (fun _ => ?_)
  clear hK K
  (try simp only [Act.put, List.setIfInBounds_toArray, List.set_cons_zero, List.set_cons_succ])
  refine wpAnyH_ready (rs := [8]) (by kernel_rfl) (by simp) ?_
  refine AllReadyH.cons rfl (fun K hK => ?_) AllReadyH.nil
  go_simp
  refine (D3.out _ _ _ hb hbb.size).mono ?_
  rintro e wc ⟨vc, rfl, hc, hbc0, _⟩
  have hbc := hbb.trans hbc0
  refine hK.out _ _ (hbc) (fun _ => ?_)
  clear hK K
  (try simp only [Act.put, List.setIfInBounds_toArray, List.set_cons_zero, List.set_cons_succ])
  refine wpAnyH_ready (rs := [11]) (by kernel_rfl) (by simp) ?_
  refine AllReadyH.cons rfl (fun K hK => ?_) AllReadyH.nil
  go_simp
  refine (HD4.out _ _ _ hc hbc.size hbx (fun u hu => HBX.trans ((hbc.trans hu).mono (by omega)))).mono ?_
  rintro e wd ⟨vd, rfl, hd, hbd0, _⟩
  have hbd := hbc.trans hbd0
  refine hK.out _ _ (hbd) (fun _ => ?_)
  clear hK K
  (try simp only [Act.put, List.setIfInBounds_toArray, List.set_cons_zero, List.set_cons_succ])
  refine wpAnyH_ready (rs := [12]) (by kernel_rfl) (by simp) ?_
  refine AllReadyH.cons rfl (fun K hK => ?_) AllReadyH.nil
  go_simp
  refine hK.out _ _ (hbd) (fun _ => ?_)
  clear hK K
  (try simp only [Act.put, List.setIfInBounds_toArray, List.set_cons_zero, List.set_cons_succ])
  refine wpAnyH_ready (rs := [13]) (by kernel_rfl) (by simp) ?_
  refine AllReadyH.cons rfl (fun K hK => ?_) AllReadyH.nil
  go_simp
  refine hK.out _ _ (hbd) (fun _ => ?_)
  clear hK K
  (try simp only [Act.put, List.setIfInBounds_toArray, List.set_cons_zero, List.set_cons_succ])
  refine wpAnyH_done (by kernel_rfl) ?_ _
  go_wp2_with fail
  go_ret2
  refine ⟨vd, rfl, ?_, HBX.trans (hbd.mono (by omega))⟩
  rw [if_pos rfl, ← HE.out]
  exact hd.byt (Nat.le_trans HLE1.out (by unfold maxLen; omega)) HBY.out

end Go.Proofs.Ytgcgjnjbhdhhgaa
