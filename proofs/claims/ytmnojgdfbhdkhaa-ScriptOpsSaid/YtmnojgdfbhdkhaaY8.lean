/- Several texts as one: EnF. -/
import Derived.Test.YtmnojgdfbhdkhaaY3
import Derived.Test.YtmnojgdfbhdkhaaY2
namespace Go.Proofs.Ytmnojgdfbhdkhaa

/-! EnF -/
section
set_option linter.unusedVariables false
set_option linter.unusedSimpArgs false
open Go.RowKit

def EncF (w : World) (E : Int) (ys : List Int) (e : Ending) (w' : World) : Prop := ∃ v', e = .returned (.tuple #[v', .int .i64 E]) ∧ (Byt w' v' (if E = 0 then ys else []) ∧ New w.heap.size v') ∧ Below w.heap.size w w'
def AppF (w : World) (ys : List Int) (e : Ending) (w' : World) : Prop := ∃ v', e = .returned v' ∧ (Byt w' v' ys ∧ New w.heap.size v') ∧ Below w.heap.size w w'
theorem EncF.r {w w' : World} {E : Int} {ys : List Int} {e : Ending} (h : EncF w E ys e w') : EncR w E ys e w' := by
  obtain ⟨v, h1, h2, h3⟩ := h; exact ⟨v, h1, h2.1, h3⟩
theorem Own.new {w : World} {B N : Nat} {v : Value} {xs : List Int} (h : Own w B v xs) (hN : N ≤ B) : New N v := by
  rintro z l c rfl h0
  have := (h.lt z.block rfl).1
  omega

set_option maxRecDepth 100000 in
set_option maxHeartbeats 4000000 in
theorem reatt_new (s : Int) (r : List Int) (c : CpD) (lv : Value) (l : List Int) (w : World) (hs : 0 ≤ s ∧ s ≤ 18446744073709551615) (hr : IsBytes 32 r) (hc : c.ok) (hI : IntsV w lv l) (hl : l.length ≤ 1000000000) :
    Calls Try.prog 28 #[.agg (flatP [[.int .u64 s], bytesL r, c.cells, [lv]])] w (EncF w (vlE l 1024) (uenc s.toNat ++ (r ++ (c.enc ++ lenc l)))) := by
  obtain ⟨lva, lvl, lvc, rfl⟩ : ∃ a l c, lv = .slice a l c := by obtain ⟨⟨a, l, c, e, _⟩, _⟩ := hI; exact ⟨a, l, c, e⟩
  have h32 := bytesL_len hr
  have h33 := CpD.len hc
  have l1 := uenc_len10 (n := s.toNat) (by omega)
  have l2 := CpD.encl hc
  have l3 := hr.1
  obtain ⟨ps, hps⟩ : ∃ ps, ps = [[Value.int .u64 s], bytesL r, c.cells, [Value.slice lva lvl lvc]] := ⟨_, rfl⟩
  rw [← hps]
  have o0 : Hid (offP ps 0 = 0) := rfl
  have o1 : Hid (offP ps 1 = 1) := by show _ = _; rw [hps]; rfl
  have o2 : Hid (offP ps 2 = 33) := by show _ = _; rw [hps]; simp [offP, h32]
  have o3 : Hid (offP ps 3 = 66) := by show _ = _; rw [hps]; simp [offP, h32, h33]
  have q0 : Hid (ps[0]? = some [Value.int .u64 s]) := by show _ = _; rw [hps]; rfl
  have q1 : Hid (ps[1]? = some (bytesL r)) := by show _ = _; rw [hps]; rfl
  have q2 : Hid (ps[2]? = some c.cells) := by show _ = _; rw [hps]; rfl
  have q3 : Hid (ps[3]? = some [Value.slice lva lvl lvc]) := by show _ = _; rw [hps]; rfl
  have hX0 : (flatP ps).size = 67 := by rw [flatP_size, hps]; simp [h32, h33]
  clear hps
  obtain ⟨X, HX⟩ : ∃ X, Hid (flatP ps = X) := ⟨_, rfl⟩
  rw [HX.out] at hX0 ⊢
  have B0 : Hid (Blk (w.alloc (.cells X 35)) w.heap.size (flatP ps)) := Blk.to (Blk.new rfl) HX.out.symm
  have hba := (Below.refl w.heap.size w).alloc (Nat.le_refl _) (.cells X 35)
  have HDV := Lib.hid (rvlist_any (.slice lva lvl lvc) l 1024 _ (hI.below hba) (by omega) (by omega))
  have D1 := Lib.hid (fun u B h hB => ruint_any (.slice none 0 0) [] s u B h hB hs.1 hs.2 (by simp))
  have D2 : Hid (∀ v u B, Own u B v ([] ++ uenc s.toNat) → B ≤ u.heap.size → Calls Try.prog 47 #[v, .agg (bytesL r).toArray] u (AppO u B v ([] ++ uenc s.toNat ++ r))) := fun v u B h hB => rroot_any v _ r u B h hB hr (by simp only [List.length_append, List.length_nil]; omega)
  have D3 : Hid (∀ v u B, Own u B v ([] ++ uenc s.toNat ++ r) → B ≤ u.heap.size → Calls Try.prog 49 #[v, .agg c.cells.toArray] u (AppO u B v ([] ++ uenc s.toNat ++ r ++ (uenc c.n.toNat ++ c.r)))) := fun v u B h hB => rcheck_any v _ c.n c.r u B h hB hc.1 hc.2.1 hc.2.2 (by simp only [List.length_append, List.length_nil]; omega)
  have D4 := Lib.hid (fun (hv : vlE l 1024 = 0) v u B (h : Own u B v ([] ++ uenc s.toNat ++ r ++ (uenc c.n.toNat ++ c.r))) (hB : B ≤ u.heap.size) (hw : w.heap.size < B) (hbb : ∀ u', Below B u u' → Below w.heap.size w u') => rlst_any v (.slice lva lvl lvc) _ l u B h hB (fun u' hu' => hI.below (hbb u' hu')) (fun x a c e h0 => by
    obtain ⟨⟨_, _, _, e', _, _, hr⟩, _⟩ := hI
    cases e
    cases e'
    rcases hr with hr | ⟨bb, oo, e2, hlt, _⟩
    · omega
    · cases e2; simp only; omega) hv hl (by simp only [List.length_append, List.length_nil]; unfold CpD.enc at l2; rw [List.length_append] at l2; omega))
  have HE : Hid ([] ++ uenc s.toNat ++ r ++ (uenc c.n.toNat ++ c.r) ++ lenc l = uenc s.toNat ++ (r ++ (c.enc ++ lenc l))) := by show _ = _; simp [CpD.enc]
  have HLE : Hid (∀ h : vlE l 1024 = 0, ([] ++ uenc s.toNat ++ r ++ (uenc c.n.toNat ++ c.r) ++ lenc l).length ≤ 140737488355328) := fun h => by
    have := lenc_len h (Nat.le_refl _) hl
    simp only [List.length_append, List.length_nil]; unfold CpD.enc at l2; rw [List.length_append] at l2; unfold lenc; omega
  have HBY : Hid (∀ x ∈ [] ++ uenc s.toNat ++ r ++ (uenc c.n.toNat ++ c.r) ++ lenc l, 0 ≤ x ∧ x ≤ 255) := by
    intro x hx
    simp only [List.mem_append, List.nil_append, lenc, lencK] at hx
    rcases hx with ((hx | hx) | hx | hx) | hx | hx
    · exact uenc_byte _ x hx
    · exact isb_rng hr x hx
    · exact uenc_byte _ x hx
    · exact isb_rng hc.2.2 x hx
    · exact uenc_byte _ x hx
    · exact seqK_byte _ _ x hx
  have HBA := Lib.hid hba; clear hba hI hl l1 l2 l3 hr hc hs
  have HI32 : Hid ((Try.prog.info? 24).map (·.size) = some (bytesL r).length) := by show _ = _; rw [h32]; kernel_rfl
  have HI33 : Hid ((Try.prog.info? 26).map (·.size) = some c.cells.length) := by show _ = _; rw [h33]; kernel_rfl
  clear h32 h33
  obtain ⟨E, hE⟩ : ∃ E, vlE l 1024 = E := ⟨_, rfl⟩
  rw [hE] at HDV D4 HLE ⊢
  clear hE HX
  by_cases hE0 : E = 0
  case neg =>
    have hne : (E != 0) = true := by simpa using hE0
    go_enter Try.func28, Try.ntmps28
    go_wp2_with (first
      | ((with_reducible refine at_load (.tmp 5) ?_); refine wpList_load_1 33 (.tmp 5) rfl w.heap.size 66 (.slice lva lvl lvc) (B0.out.cellAt q3.out o3.out) rfl _ Try.underlying33 rfl rfl ?_)
      | (go_at_call 51; refine HDV.out.mono ?_; rintro e w1 ⟨rfl, hb1⟩))
    go_ret2
    exact ⟨_, rfl, ⟨by rw [if_neg hE0]; exact byt_nil _, New.nil _⟩, HBA.out.trans (hb1.mono HBA.out.size)⟩
  subst hE0
  have HD4 := Lib.hid (D4.out rfl); clear D4
  have HLE1 := Lib.hid (HLE.out rfl); clear HLE
  go_enter Try.func28, Try.ntmps28
  go_wp2_with (first
    | ((with_reducible refine at_load (.tmp 5) ?_); refine wpList_load_1 33 (.tmp 5) rfl w.heap.size 66 (.slice lva lvl lvc) (B0.out.cellAt q3.out o3.out) rfl _ Try.underlying33 rfl rfl ?_)
    | (go_at_call 51; refine HDV.out.mono ?_; rintro e w1 ⟨rfl, hb1⟩; have K1 := Lib.hid (B0.out.call hb1); have HB1 := Lib.hid (HBA.out.trans (hb1.mono HBA.out.size)); clear hb1))
  refine wp_region_held_drew (S := fun u' => Below w1.drew.heap.size w1.drew u') (by kernel_rfl) (Below.refl _ _) (fun _ => ?_)
  (try simp only [Act.put, List.setIfInBounds_toArray, List.set_cons_zero, List.set_cons_succ])
  obtain ⟨x, hx⟩ : ∃ x, w1.drew = x := ⟨_, rfl⟩
  have KX : Blk x w.heap.size (flatP ps) := by rw [← hx]; exact K1.out
  have HBX : Below w.heap.size w x := by rw [← hx]; exact Below.drewN (n := 1) HB1.out
  rw [hx]
  clear hx
  have hbx : w.heap.size < x.heap.size := KX.lt
  have r1 := KX.part q1.out
  have r2 := KX.part q2.out
  rw [o1.out] at r1
  rw [o2.out] at r2
  have c0 := KX.cellAt q0.out o0.out
  have c3 := KX.cellAt q3.out o3.out
  refine wpAnyH_take (i := 0) (oi := ⟨some 11, _, _, _, _, _⟩) (v := .pointer (some ⟨w.heap.size, 0, none⟩)) rfl (by kernel_rfl) (by kernel_rfl) (by kernel_rfl) (fun _ _ _ h => h) (Or.inl ⟨by rfl, fun wz hz => ?_⟩) (Below.refl _ _) ?_
  · clear hz; go_simp; first | done | with_reducible rfl | rfl
  (try simp only [Act.put, List.setIfInBounds_toArray, List.set_cons_zero, List.set_cons_succ])
  refine held_load1 1 rfl (by kernel_rfl) (by kernel_rfl) (by kernel_rfl) (fun _ _ _ _ h => h) rfl 22 (.tmp 11) rfl w.heap.size 0 rfl (.int .u64 s) _ (fun u' hu => (hu.cell (p := ⟨w.heap.size, 0, none⟩) hbx).trans c0) Try.underlying22 rfl (Below.refl _ _) ?_
  (try simp only [Act.put, List.setIfInBounds_toArray, List.set_cons_zero, List.set_cons_succ])
  refine wpAnyH_take (i := 3) (oi := ⟨some 14, _, _, _, _, _⟩) (v := .pointer (some ⟨w.heap.size, 1, none⟩)) rfl (by kernel_rfl) (by kernel_rfl) (by kernel_rfl) (fun _ _ _ h => h) (Or.inl ⟨by rfl, fun wz hz => ?_⟩) (Below.refl _ _) ?_
  · clear hz; go_simp; first | done | with_reducible rfl | rfl
  (try simp only [Act.put, List.setIfInBounds_toArray, List.set_cons_zero, List.set_cons_succ])
  refine held_load 4 rfl (by kernel_rfl) (by kernel_rfl) (by kernel_rfl) (fun _ _ _ _ h => h) rfl 24 (.tmp 14) rfl w.heap.size 1 rfl (bytesL r) _ (fun u' hu => Below.rng hu hbx r1) Try.underlying24 rfl (HI32.out) (Below.refl _ _) ?_
  (try simp only [Act.put, List.setIfInBounds_toArray, List.set_cons_zero, List.set_cons_succ])
  refine wpAnyH_take (i := 6) (oi := ⟨some 17, _, _, _, _, _⟩) (v := .pointer (some ⟨w.heap.size, 33, none⟩)) rfl (by kernel_rfl) (by kernel_rfl) (by kernel_rfl) (fun _ _ _ h => h) (Or.inl ⟨by rfl, fun wz hz => ?_⟩) (Below.refl _ _) ?_
  · clear hz; go_simp; first | done | with_reducible rfl | rfl
  (try simp only [Act.put, List.setIfInBounds_toArray, List.set_cons_zero, List.set_cons_succ])
  refine held_load 7 rfl (by kernel_rfl) (by kernel_rfl) (by kernel_rfl) (fun _ _ _ _ h => h) rfl 26 (.tmp 17) rfl w.heap.size 33 rfl c.cells _ (fun u' hu => Below.rng hu hbx r2) Try.underlying26 rfl (HI33.out) (Below.refl _ _) ?_
  (try simp only [Act.put, List.setIfInBounds_toArray, List.set_cons_zero, List.set_cons_succ])
  refine wpAnyH_take (i := 9) (oi := ⟨some 20, _, _, _, _, _⟩) (v := .pointer (some ⟨w.heap.size, 66, none⟩)) rfl (by kernel_rfl) (by kernel_rfl) (by kernel_rfl) (fun _ _ _ h => h) (Or.inl ⟨by rfl, fun wz hz => ?_⟩) (Below.refl _ _) ?_
  · clear hz; go_simp; first | done | with_reducible rfl | rfl
  (try simp only [Act.put, List.setIfInBounds_toArray, List.set_cons_zero, List.set_cons_succ])
  refine held_load1 10 rfl (by kernel_rfl) (by kernel_rfl) (by kernel_rfl) (fun _ _ _ _ h => h) rfl 33 (.tmp 20) rfl w.heap.size 66 rfl (.slice lva lvl lvc) _ (fun u' hu => (hu.cell (p := ⟨w.heap.size, 66, none⟩) hbx).trans c3) Try.underlying33 rfl (Below.refl _ _) ?_
  (try simp only [Act.put, List.setIfInBounds_toArray, List.set_cons_zero, List.set_cons_succ])
  refine wpAnyH_ready (rs := [2]) (by kernel_rfl) (by simp) ?_
  refine AllReadyH.cons rfl (fun K hK => ?_) AllReadyH.nil
  go_simp
  refine (D1.out _ _ (Own.nil x x.heap.size) (Nat.le_refl _)).mono ?_
  rintro e wa ⟨va, rfl, ha, hba, _⟩

  refine hK.out _ _ (hba) (fun _ => ?_)
  clear hK K
  (try simp only [Act.put, List.setIfInBounds_toArray, List.set_cons_zero, List.set_cons_succ])
  refine wpAnyH_ready (rs := [5]) (by kernel_rfl) (by simp) ?_
  refine AllReadyH.cons rfl (fun K hK => ?_) AllReadyH.nil
  go_simp
  refine (D2.out _ _ _ ha hba.size).mono ?_
  rintro e wb ⟨vb, rfl, hb, hbb0, _⟩
  have hbb := hba.trans hbb0
  refine hK.out _ _ (hbb) (fun _ => ?_)
  clear hK K
  (try simp only [Act.put, List.setIfInBounds_toArray, List.set_cons_zero, List.set_cons_succ])
  refine wpAnyH_ready (rs := [8]) (by kernel_rfl) (by simp) ?_
  refine AllReadyH.cons rfl (fun K hK => ?_) AllReadyH.nil
  go_simp
  refine (D3.out _ _ _ hb hbb.size).mono ?_
  rintro e wc ⟨vc, rfl, hc, hbc0, _⟩
  have hbc := hbb.trans hbc0
  refine hK.out _ _ (hbc) (fun _ => ?_)
  clear hK K
  (try simp only [Act.put, List.setIfInBounds_toArray, List.set_cons_zero, List.set_cons_succ])
  refine wpAnyH_ready (rs := [11]) (by kernel_rfl) (by simp) ?_
  refine AllReadyH.cons rfl (fun K hK => ?_) AllReadyH.nil
  go_simp
  refine (HD4.out _ _ _ hc hbc.size hbx (fun u hu => HBX.trans ((hbc.trans hu).mono (by omega)))).mono ?_
  rintro e wd ⟨vd, rfl, hd, hbd0, _⟩
  have hbd := hbc.trans hbd0
  refine hK.out _ _ (hbd) (fun _ => ?_)
  clear hK K
  (try simp only [Act.put, List.setIfInBounds_toArray, List.set_cons_zero, List.set_cons_succ])
  refine wpAnyH_ready (rs := [12]) (by kernel_rfl) (by simp) ?_
  refine AllReadyH.cons rfl (fun K hK => ?_) AllReadyH.nil
  go_simp
  refine hK.out _ _ (hbd) (fun _ => ?_)
  clear hK K
  (try simp only [Act.put, List.setIfInBounds_toArray, List.set_cons_zero, List.set_cons_succ])
  refine wpAnyH_ready (rs := [13]) (by kernel_rfl) (by simp) ?_
  refine AllReadyH.cons rfl (fun K hK => ?_) AllReadyH.nil
  go_simp
  refine hK.out _ _ (hbd) (fun _ => ?_)
  clear hK K
  (try simp only [Act.put, List.setIfInBounds_toArray, List.set_cons_zero, List.set_cons_succ])
  refine wpAnyH_done (by kernel_rfl) ?_ _
  go_wp2_with fail
  go_ret2
  refine ⟨vd, rfl, ⟨?_, hd.new (by have := HBX.size; omega)⟩, HBX.trans (hbd.mono (by omega))⟩
  rw [if_pos rfl, ← HE.out]
  exact hd.byt (Nat.le_trans HLE1.out (by unfold maxLen; omega)) HBY.out

set_option maxRecDepth 100000 in
set_option maxHeartbeats 8000000 in
theorem resla_new (x y : ClD) (l m : List Int) (w : World) (hx : x.good l w) (hy : y.good m w) :
    Calls Try.prog 29 #[.agg (flatP [x.cells, y.cells])] w (EncF w (vlsE [l, m]) (x.enc l ++ y.enc m)) := by
  obtain ⟨xa, xl, xc, hxv⟩ := ints_shape' hx.2.1.1
  obtain ⟨ya, yl, yc, hyv⟩ := ints_shape' hy.2.1.1
  have HBX := Lib.hid (fun u => sla_box (u := u) (w := w) hx.1 hy.1)
  rw [hxv, hyv] at HBX
  have HGX := Lib.hid (fun u (hu : Below w.heap.size w u) => (⟨hx.1, hx.2.1.below hu, hx.2.2⟩ : x.good l u))
  have HGY := Lib.hid (fun u (hu : Below w.heap.size w u) => (⟨hy.1, hy.2.1.below hu, hy.2.2⟩ : y.good m u))
  have HIXv := Lib.hid (fun u (hu : Below w.heap.size w u) => hx.2.1.below hu)
  have HIYv := Lib.hid (fun u (hu : Below w.heap.size w u) => hy.2.1.below hu)
  rw [hxv] at HIXv
  rw [hyv] at HIYv
  have HLT : Hid ((∀ a n c, x.v = .slice (some a) n c → 0 < n → a.block < w.heap.size) ∧ (∀ a n c, y.v = .slice (some a) n c → 0 < n → a.block < w.heap.size)) := ⟨ints_lt hx.2.1, ints_lt hy.2.1⟩
  have HLX := Lib.hid (fun hv => ClD.encl hx.1 (l := l) hv (by have := hx.2.2; omega))
  have HLY := Lib.hid (fun hv => ClD.encl hy.1 (l := m) hv (by have := hy.2.2; omega))
  have hll := hx.2.2
  have hlm := hy.2.2
  have hcx : x.cells.length = 35 := ClD.len hx.1
  have hcy : y.cells.length = 35 := ClD.len hy.1
  have HI1 : Hid ((Try.prog.info? 37).map (·.size) = some x.cells.length) := by show _ = _; rw [hcx]; kernel_rfl
  have HI2 : Hid ((Try.prog.info? 37).map (·.size) = some y.cells.length) := by show _ = _; rw [hcy]; kernel_rfl
  have hX0 : (flatP [x.cells, y.cells]).size = 70 := by rw [flatP_size]; simp [hcx, hcy]
  have K0X : Blk (w.alloc (.cells (flatP [x.cells, y.cells]) 39)) w.heap.size (flatP [x.cells, y.cells]) := Blk.new rfl
  obtain ⟨X, hX⟩ : ∃ X, flatP [x.cells, y.cells] = X := ⟨_, rfl⟩
  have HBXX := Lib.hid (fun u (h : Blk u w.heap.size X) => HBX.out u (by rw [hX]; exact h))
  rw [hX] at hX0 K0X ⊢
  clear hX HBX hcx hcy hx hy
  have HB0 := Lib.hid ((Below.refl w.heap.size w).alloc (Nat.le_refl _) (.cells X 39))
  have HK0 := Lib.hid K0X; clear K0X
  clear hxv hyv
  have HDV1 := Lib.hid (rvlist_any (.slice xa xl xc) l 1024 _ (HIXv.out _ HB0.out) (by omega) (by omega))
  have HDV2 := Lib.hid (fun u (hu : Below w.heap.size w u) => rvlist_any (.slice ya yl yc) m 1024 u (HIYv.out _ hu) (by omega) (by omega))
  rw [vlsE_two]
  have HVI : Hid ((vlE l 1024 = 0 → vlE l 1024 = 0) ∧ (vlE m 1024 = 0 → vlE m 1024 = 0)) := ⟨id, id⟩
  by_cases hE1 : vlE l 1024 = 0
  case neg =>
    rw [if_pos hE1]
    obtain ⟨E, hE⟩ : ∃ E, vlE l 1024 = E := ⟨_, rfl⟩
    rw [hE] at HDV1 hE1 ⊢
    clear hE HVI
    have hne : (E != 0) = true := by simpa using hE1
    go_enter Try.func29, Try.ntmps29
    go_wp2_with (first
      | ((with_reducible refine at_load (.tmp 7) ?_); refine wpList_load_1 33 (.tmp 7) rfl w.heap.size 34 (.slice xa xl xc) (HBXX.out _ HK0.out).1 rfl _ Try.underlying33 rfl rfl ?_)
      | ((with_reducible refine at_load (.tmp 14) ?_); refine wpList_load_1 33 (.tmp 14) rfl w.heap.size 69 (.slice ya yl yc) (HBXX.out _ HK1.out).2.1 rfl _ Try.underlying33 rfl rfl ?_)
      | (go_at_call 51; refine (HDV2.out _ HB1.out).mono ?_; rintro e w2 ⟨rfl, hb2⟩; have HK2 := Lib.hid (HK1.out.call hb2); have HB2 := Lib.hid (HB1.out.trans (hb2.mono HB1.out.size)); clear hb2)
      | (go_at_call 51; refine HDV1.out.mono ?_; rintro e w1 ⟨rfl, hb1⟩; have HK1 := Lib.hid (HK0.out.call hb1); have HB1 := Lib.hid (HB0.out.trans (hb1.mono HB0.out.size)); clear hb1))
    go_ret2
    exact ⟨_, rfl, ⟨by rw [if_neg hE1]; exact byt_nil _, New.nil _⟩, HB1.out⟩
  rw [if_neg (by simpa using hE1)]
  by_cases hE2 : vlE m 1024 = 0
  case neg =>
    rw [hE1] at HDV1
    obtain ⟨E, hE⟩ : ∃ E, vlE m 1024 = E := ⟨_, rfl⟩
    rw [hE] at HDV2 hE2 ⊢
    clear hE HVI
    have hne : (E != 0) = true := by simpa using hE2
    go_enter Try.func29, Try.ntmps29
    go_wp2_with (first
      | ((with_reducible refine at_load (.tmp 7) ?_); refine wpList_load_1 33 (.tmp 7) rfl w.heap.size 34 (.slice xa xl xc) (HBXX.out _ HK0.out).1 rfl _ Try.underlying33 rfl rfl ?_)
      | ((with_reducible refine at_load (.tmp 14) ?_); refine wpList_load_1 33 (.tmp 14) rfl w.heap.size 69 (.slice ya yl yc) (HBXX.out _ HK1.out).2.1 rfl _ Try.underlying33 rfl rfl ?_)
      | (go_at_call 51; refine (HDV2.out _ HB1.out).mono ?_; rintro e w2 ⟨rfl, hb2⟩; have HK2 := Lib.hid (HK1.out.call hb2); have HB2 := Lib.hid (HB1.out.trans (hb2.mono HB1.out.size)); clear hb2)
      | (go_at_call 51; refine HDV1.out.mono ?_; rintro e w1 ⟨rfl, hb1⟩; have HK1 := Lib.hid (HK0.out.call hb1); have HB1 := Lib.hid (HB0.out.trans (hb1.mono HB0.out.size)); clear hb1))
    go_ret2
    exact ⟨_, rfl, ⟨by rw [if_neg hE2]; exact byt_nil _, New.nil _⟩, HB2.out⟩
  have hl1 := (HLX.out hE1).1
  have hl2 := (HLY.out hE2).1
  have HV1 := Lib.hid hE1
  have HV2 := Lib.hid hE2
  rw [hE1] at HDV1
  rw [hE2] at HDV2 ⊢
  clear hE1 hE2 HVI
  go_enter Try.func29, Try.ntmps29
  go_wp2_with (first
    | ((with_reducible refine at_load (.tmp 7) ?_); refine wpList_load_1 33 (.tmp 7) rfl w.heap.size 34 (.slice xa xl xc) (HBXX.out _ HK0.out).1 rfl _ Try.underlying33 rfl rfl ?_)
    | ((with_reducible refine at_load (.tmp 14) ?_); refine wpList_load_1 33 (.tmp 14) rfl w.heap.size 69 (.slice ya yl yc) (HBXX.out _ HK1.out).2.1 rfl _ Try.underlying33 rfl rfl ?_)
    | (go_at_call 51; refine (HDV2.out _ HB1.out).mono ?_; rintro e w2 ⟨rfl, hb2⟩; have HK2 := Lib.hid (HK1.out.call hb2); have HB2 := Lib.hid (HB1.out.trans (hb2.mono HB1.out.size)); clear hb2)
    | (go_at_call 51; refine HDV1.out.mono ?_; rintro e w1 ⟨rfl, hb1⟩; have HK1 := Lib.hid (HK0.out.call hb1); have HB1 := Lib.hid (HB0.out.trans (hb1.mono HB0.out.size)); clear hb1))
  refine wp_region_held_drew (S := fun u' => Below w2.drew.heap.size w2.drew u') (by kernel_rfl) (Below.refl _ _) (fun _ => ?_)
  (try simp only [Act.put, List.setIfInBounds_toArray, List.set_cons_zero, List.set_cons_succ])
  obtain ⟨q, hq⟩ : ∃ q, w2.drew = q := ⟨_, rfl⟩
  have hKq : Blk q w.heap.size X := by rw [← hq]; exact HK2.out
  have hBq : Below w.heap.size w q := by rw [← hq]; exact Below.drewN (n := 1) HB2.out
  rw [hq]
  clear hq
  have HLD := Lib.hid (fun u (hu : Below q.heap.size q u) => HBXX.out u (hKq.call hu))
  refine wpAnyH_take (i := 0) (oi := ⟨some 20, _, _, _, _, _⟩) (v := .pointer (some ⟨w.heap.size, 0, none⟩)) rfl (by kernel_rfl) (by kernel_rfl) (by kernel_rfl) (fun _ _ _ h => h) (Or.inl ⟨by rfl, fun wz hz => ?_⟩) (Below.refl _ _) ?_
  · clear hz; go_simp; first | done | with_reducible rfl | rfl
  (try simp only [Act.put, List.setIfInBounds_toArray, List.set_cons_zero, List.set_cons_succ])
  refine held_load 1 rfl (by kernel_rfl) (by kernel_rfl) (by kernel_rfl) (fun _ _ _ _ h => h) rfl 37 (.tmp 20) rfl w.heap.size 0 rfl x.cells _ (fun u' hu => (HLD.out u' hu).2.2.1) Try.underlying37 rfl (HI1.out) (Below.refl _ _) ?_
  (try simp only [Act.put, List.setIfInBounds_toArray, List.set_cons_zero, List.set_cons_succ])
  refine wpAnyH_take (i := 3) (oi := ⟨some 23, _, _, _, _, _⟩) (v := .pointer (some ⟨w.heap.size, 35, none⟩)) rfl (by kernel_rfl) (by kernel_rfl) (by kernel_rfl) (fun _ _ _ h => h) (Or.inl ⟨by rfl, fun wz hz => ?_⟩) (Below.refl _ _) ?_
  · clear hz; go_simp; first | done | with_reducible rfl | rfl
  (try simp only [Act.put, List.setIfInBounds_toArray, List.set_cons_zero, List.set_cons_succ])
  refine held_load 4 rfl (by kernel_rfl) (by kernel_rfl) (by kernel_rfl) (fun _ _ _ _ h => h) rfl 37 (.tmp 23) rfl w.heap.size 35 rfl y.cells _ (fun u' hu => (HLD.out u' hu).2.2.2) Try.underlying37 rfl (HI2.out) (Below.refl _ _) ?_
  (try simp only [Act.put, List.setIfInBounds_toArray, List.set_cons_zero, List.set_cons_succ])
  refine wpAnyH_ready (rs := [2]) (by kernel_rfl) (by simp) ?_
  refine AllReadyH.cons rfl (fun K hK => ?_) AllReadyH.nil
  go_simp
  refine (rcla_any _ [] l x q q.heap.size (Own.nil q q.heap.size) (Nat.le_refl _) (HGX.out _ hBq) (fun u hu => (HGX.out _ (bel0 hBq hu)).2.1) (fun a n c e h0 => Nat.lt_of_lt_of_le (HLT.out.1 a n c e h0) hBq.size) HV1.out (by simp)).mono ?_
  rintro e ua ⟨va, rfl, oa, ba, _⟩
  have hla := HLX.out HV1.out
  refine hK.out _ _ (ba) (fun _ => ?_)
  clear hK K
  (try simp only [Act.put, List.setIfInBounds_toArray, List.set_cons_zero, List.set_cons_succ])
  refine wpAnyH_ready (rs := [5]) (by kernel_rfl) (by simp) ?_
  refine AllReadyH.cons rfl (fun K hK => ?_) AllReadyH.nil
  go_simp
  refine (rcla_any _ ([] ++ x.enc l) m y ua q.heap.size oa ba.size (HGY.out _ (bel0 hBq ba)) (fun u hu => (HGY.out _ (bel0 hBq (ba.trans hu))).2.1) (fun a n c e h0 => Nat.lt_of_lt_of_le (HLT.out.2 a n c e h0) hBq.size) HV2.out (by rw [List.nil_append]; omega)).mono ?_
  rintro e ub ⟨vb, rfl, ob, bb0, _⟩
  have bb := ba.trans bb0
  refine hK.out _ _ (bb) (fun _ => ?_)
  clear hK K
  (try simp only [Act.put, List.setIfInBounds_toArray, List.set_cons_zero, List.set_cons_succ])
  refine wpAnyH_ready (rs := [6]) (by kernel_rfl) (by simp) ?_
  refine AllReadyH.cons rfl (fun K hK => ?_) AllReadyH.nil
  go_simp
  refine hK.out _ _ (bb) (fun _ => ?_)
  clear hK K
  (try simp only [Act.put, List.setIfInBounds_toArray, List.set_cons_zero, List.set_cons_succ])
  refine wpAnyH_ready (rs := [7]) (by kernel_rfl) (by simp) ?_
  refine AllReadyH.cons rfl (fun K hK => ?_) AllReadyH.nil
  go_simp
  refine hK.out _ _ (bb) (fun _ => ?_)
  clear hK K
  (try simp only [Act.put, List.setIfInBounds_toArray, List.set_cons_zero, List.set_cons_succ])
  refine wpAnyH_done (by kernel_rfl) ?_ _
  go_wp2_with fail
  go_ret2
  refine ⟨vb, rfl, ⟨?_, ob.new (by have := hBq.size; omega)⟩, hBq.trans (bb.mono hBq.size)⟩
  rw [if_pos rfl]
  rw [List.nil_append] at ob
  have hlb := HLY.out HV2.out
  exact ob.byt (by rw [List.length_append]; unfold maxLen; omega) (fun z hz => by rcases List.mem_append.1 hz with hz | hz; exact hla.2 z hz; exact hlb.2 z hz)

set_option maxRecDepth 100000 in
set_option maxHeartbeats 4000000 in
theorem retab_new (c : CpD) (lv : Value) (l : List Int) (w : World) (hc : c.ok) (hI : NumsV w lv l) (hl : l.length ≤ 1000000000) :
    Calls Try.prog 30 #[.agg (flatP [c.cells, [lv]])] w (EncF w (if 1024 < l.length then 3 else 0) (c.enc ++ tenc l)) := by
  obtain ⟨lva, lvl, lvc, rfl⟩ : ∃ a l c, lv = .slice a l c := by obtain ⟨⟨a, l, c, e, _⟩, _⟩ := hI; exact ⟨a, l, c, e⟩
  obtain ⟨_, _, _, e', hll, _, _⟩ := hI.1
  cases e'
  have h33 := CpD.len hc
  have l2 := CpD.encl hc
  obtain ⟨ps, hps⟩ : ∃ ps, ps = [c.cells, [Value.slice lva lvl lvc]] := ⟨_, rfl⟩
  rw [← hps]
  have o0 : Hid (offP ps 0 = 0) := rfl
  have o1 : Hid (offP ps 1 = 33) := by show _ = _; rw [hps]; simp [offP, h33]
  have q0 : Hid (ps[0]? = some c.cells) := by show _ = _; rw [hps]; rfl
  have q1 : Hid (ps[1]? = some [Value.slice lva lvl lvc]) := by show _ = _; rw [hps]; rfl
  have hX0 : (flatP ps).size = 34 := by rw [flatP_size, hps]; simp [h33]
  have HPS := Lib.hid hps; clear hps
  obtain ⟨X, HX⟩ : ∃ X, Hid (flatP ps = X) := ⟨_, rfl⟩
  rw [HX.out] at hX0 ⊢
  have B0 : Hid (Blk (w.alloc (.cells X 42)) w.heap.size (flatP ps)) := Blk.to (Blk.new rfl) HX.out.symm
  have hba := (Below.refl w.heap.size w).alloc (Nat.le_refl _) (.cells X 42)
  have HIU := Lib.hid (fun u (hu : Below w.heap.size w u) => hI.below hu)
  have HR := Lib.hid hI.2
  have HBX := Lib.hid (fun u => tb_box (u := u) (b := w.heap.size) (c := c) (v := .slice lva lvl lvc))
  have h32 := bytesL_len hc.2.2
  have HI32 : Hid ((Try.prog.info? 24).map (·.size) = some (bytesL c.r).length) := by show _ = _; rw [h32]; kernel_rfl
  clear h32
  have l1 := uenc_len10 (n := c.n.toNat) (by have := hc.1; have := hc.2.1; omega)
  have l3 := hc.2.2.1
  have HC := Lib.hid hc
  have HBY : Hid (∀ x ∈ c.enc ++ tenc l, 0 ≤ x ∧ x ≤ 255) := by
    intro x hx
    simp only [List.mem_append, CpD.enc, tenc, tencK] at hx
    rcases hx with (hx | hx) | hx | hx
    · exact uenc_byte _ x hx
    · exact isb_rng hc.2.2 x hx
    · exact uenc_byte _ x hx
    · exact seqK_byte _ _ x hx
  have HLE : Hid ((c.enc ++ tenc l).length ≤ 140737488355328) := by
    have := tenc_len hI.2 (Nat.le_refl _) hl
    show _ ≤ _
    rw [List.length_append]; unfold tenc; omega
  have HTL := Lib.hid (fun k (hk : k ≤ l.length) => tenc_len hI.2 hk hl)
  have HI33 : Hid ((Try.prog.info? 26).map (·.size) = some c.cells.length) := by show _ = _; rw [h33]; kernel_rfl
  have HBA := Lib.hid hba; clear hba hI hc h33
  have HLL := Lib.hid hll
  have hl2 : lvl ≤ 1000000000 := by omega
  rw [hll]
  clear hll hl
  have HBXX := Lib.hid (fun u (h : Blk u w.heap.size X) => HBX.out u (h.to (by rw [← HX.out, HPS.out])) l3)
  have HK0 : Hid (Blk (w.alloc (.cells X 42)) w.heap.size X) := Blk.new rfl
  clear HBX B0
  by_cases hbig : 1024 < lvl
  · rw [if_pos hbig]
    go_enter Try.func30, Try.ntmps30
    go_wp2_with ((with_reducible refine at_load (.tmp 6) ?_); refine wpList_load_1 40 (.tmp 6) rfl w.heap.size 33 (.slice lva lvl lvc) (HBXX.out _ HK0.out).2.2 rfl _ Try.underlying40 rfl rfl ?_)
    go_ret2
    exact ⟨_, rfl, ⟨by rw [if_neg (by omega)]; exact byt_nil _, New.nil _⟩, HBA.out⟩
  rw [if_neg hbig]
  have hwk : IntKind.u64.wrap (lvl : Int) = lvl := u64_wrap (by omega) (by omega)
  go_enter Try.func30, Try.ntmps30
  go_wp2_with ((with_reducible refine at_load (.tmp 6) ?_); refine wpList_load_1 40 (.tmp 6) rfl w.heap.size 33 (.slice lva lvl lvc) (HBXX.out _ HK0.out).2.2 rfl _ Try.underlying40 rfl rfl ?_)
  refine wp_region_held_drew (S := fun u' => Blk u' w.heap.size X) (by kernel_rfl) (HK0.out) (fun _ => ?_)
  (try simp only [Act.put, List.setIfInBounds_toArray, List.set_cons_zero, List.set_cons_succ])
  obtain ⟨q, hq⟩ : ∃ q, (w.alloc (.cells X 42)).drew = q := ⟨_, rfl⟩
  have hKq : Blk q w.heap.size X := by rw [← hq]; exact HK0.out
  have hBq : Below w.heap.size w q := by rw [← hq]; exact Below.drewN (n := 1) HBA.out
  have hSz : w.heap.size + 1 ≤ q.heap.size := hKq.lt
  rw [hq]
  clear hq
  refine wpAnyH_take (i := 0) (oi := ⟨some 10, _, _, _, _, _⟩) (v := .pointer (some ⟨w.heap.size, 0, none⟩)) rfl (by kernel_rfl) (by kernel_rfl) (by kernel_rfl) (fun _ _ _ h => h) (Or.inl ⟨by rfl, fun wz hz => ?_⟩) hKq ?_
  · clear hz; go_simp; first | done | with_reducible rfl | rfl
  (try simp only [Act.put, List.setIfInBounds_toArray, List.set_cons_zero, List.set_cons_succ])
  refine wpAnyH_take (i := 1) (oi := ⟨some 11, _, _, _, _, _⟩) (v := .pointer (some ⟨w.heap.size, 0, none⟩)) rfl (by kernel_rfl) (by kernel_rfl) (by kernel_rfl) (fun _ _ _ h => h) (Or.inl ⟨by rfl, fun wz hz => ?_⟩) hKq ?_
  · clear hz; go_simp; first | done | with_reducible rfl | rfl
  (try simp only [Act.put, List.setIfInBounds_toArray, List.set_cons_zero, List.set_cons_succ])
  refine held_load1 2 rfl (by kernel_rfl) (by kernel_rfl) (by kernel_rfl) (fun _ _ _ _ h => h) rfl 22 (.tmp 11) rfl w.heap.size 0 rfl (.int .u64 c.n) _ (fun u' hu => (HBXX.out u' hu).1) Try.underlying22 rfl hKq ?_
  (try simp only [Act.put, List.setIfInBounds_toArray, List.set_cons_zero, List.set_cons_succ])
  refine wpAnyH_take (i := 4) (oi := ⟨some 14, _, _, _, _, _⟩) (v := .pointer (some ⟨w.heap.size, 0, none⟩)) rfl (by kernel_rfl) (by kernel_rfl) (by kernel_rfl) (fun _ _ _ h => h) (Or.inl ⟨by rfl, fun wz hz => ?_⟩) hKq ?_
  · clear hz; go_simp; first | done | with_reducible rfl | rfl
  (try simp only [Act.put, List.setIfInBounds_toArray, List.set_cons_zero, List.set_cons_succ])
  refine wpAnyH_take (i := 5) (oi := ⟨some 15, _, _, _, _, _⟩) (v := .pointer (some ⟨w.heap.size, 1, none⟩)) rfl (by kernel_rfl) (by kernel_rfl) (by kernel_rfl) (fun _ _ _ h => h) (Or.inl ⟨by rfl, fun wz hz => ?_⟩) hKq ?_
  · clear hz; go_simp; first | done | with_reducible rfl | rfl
  (try simp only [Act.put, List.setIfInBounds_toArray, List.set_cons_zero, List.set_cons_succ])
  refine held_load 6 rfl (by kernel_rfl) (by kernel_rfl) (by kernel_rfl) (fun _ _ _ _ h => h) rfl 24 (.tmp 15) rfl w.heap.size 1 rfl (bytesL c.r) _ (fun u' hu => (HBXX.out u' hu).2.1) Try.underlying24 rfl (HI32.out) hKq ?_
  (try simp only [Act.put, List.setIfInBounds_toArray, List.set_cons_zero, List.set_cons_succ])
  refine wpAnyH_take (i := 8) (oi := ⟨some 18, _, _, _, _, _⟩) (v := .pointer (some ⟨w.heap.size, 33, none⟩)) rfl (by kernel_rfl) (by kernel_rfl) (by kernel_rfl) (fun _ _ _ h => h) (Or.inl ⟨by rfl, fun wz hz => ?_⟩) hKq ?_
  · clear hz; go_simp; first | done | with_reducible rfl | rfl
  (try simp only [Act.put, List.setIfInBounds_toArray, List.set_cons_zero, List.set_cons_succ])
  refine held_load1 9 rfl (by kernel_rfl) (by kernel_rfl) (by kernel_rfl) (fun _ _ _ _ h => h) rfl 40 (.tmp 18) rfl w.heap.size 33 rfl (.slice lva lvl lvc) _ (fun u' hu => (HBXX.out u' hu).2.2) Try.underlying40 rfl hKq ?_
  (try simp only [Act.put, List.setIfInBounds_toArray, List.set_cons_zero, List.set_cons_succ])
  refine wpAnyH_take (i := 10) (oi := ⟨some 20, _, _, _, _, _⟩) (v := .int .i64 lvl) rfl (by kernel_rfl) (by kernel_rfl) (by kernel_rfl) (fun _ _ _ h => h) (Or.inl ⟨by rfl, fun wz hz => ?_⟩) hKq ?_
  · clear hz; go_simp; first | done | with_reducible rfl | rfl
  (try simp only [Act.put, List.setIfInBounds_toArray, List.set_cons_zero, List.set_cons_succ])
  refine wpAnyH_take (i := 11) (oi := ⟨some 21, _, _, _, _, _⟩) (v := .int .u64 lvl) rfl (by kernel_rfl) (by kernel_rfl) (by kernel_rfl) (fun _ _ _ h => h) (Or.inl ⟨by rfl, fun wz hz => ?_⟩) hKq ?_
  · clear hz; go_simp; first | done | with_reducible rfl | rfl
  (try simp only [Act.put, List.setIfInBounds_toArray, List.set_cons_zero, List.set_cons_succ])
  refine wpAnyH_ready (rs := [3]) (by kernel_rfl) (by simp) ?_
  refine AllReadyH.cons rfl (fun K hK => ?_) AllReadyH.nil
  go_simp
  refine (ruint_any _ [] c.n q (w.heap.size + 1) (Own.nil q _) hSz HC.out.1 HC.out.2.1 (by simp)).mono ?_
  rintro e w1 ⟨v1, rfl, o1, b1, _⟩
  have k1 := hKq.below b1 (by omega)
  refine hK.out _ _ (k1) (fun _ => ?_)
  clear hK K
  (try simp only [Act.put, List.setIfInBounds_toArray, List.set_cons_zero, List.set_cons_succ])
  refine wpAnyH_ready (rs := [7]) (by kernel_rfl) (by simp) ?_
  refine AllReadyH.cons rfl (fun K hK => ?_) AllReadyH.nil
  go_simp
  refine (rroot_any _ ([] ++ uenc c.n.toNat) c.r w1 (w.heap.size + 1) o1 (Nat.le_trans hSz b1.size) HC.out.2.2 (by simp only [List.length_append, List.length_nil]; omega)).mono ?_
  rintro e w2 ⟨v2, rfl, o2, b2, _⟩
  have b12 := b1.trans b2; have k2 := hKq.below b12 (by omega)
  refine hK.out _ _ (k2) (fun _ => ?_)
  clear hK K
  (try simp only [Act.put, List.setIfInBounds_toArray, List.set_cons_zero, List.set_cons_succ])
  refine wpAnyH_ready (rs := [12]) (by kernel_rfl) (by simp) ?_
  refine AllReadyH.cons rfl (fun K hK => ?_) AllReadyH.nil
  go_simp
  refine (ruint_any _ ([] ++ uenc c.n.toNat ++ c.r) (lvl : Int) w2 (w.heap.size + 1) o2 (Nat.le_trans hSz b12.size) (by omega) (by omega) (by simp only [List.length_append, List.length_nil]; omega)).mono ?_
  rintro e w4 ⟨v4, rfl, o4, b4, _⟩
  have b14 := b12.trans b4; have k4 := hKq.below b14 (by omega)
  refine hK.out _ _ (k4) (fun _ => ?_)
  clear hK K
  (try simp only [Act.put, List.setIfInBounds_toArray, List.set_cons_zero, List.set_cons_succ])
  refine wpAnyH_ready (rs := [13]) (by kernel_rfl) (by simp) ?_
  refine AllReadyH.cons rfl (fun K hK => ?_) AllReadyH.nil
  go_simp
  refine hK.out _ _ (k4) (fun _ => ?_)
  clear hK K
  (try simp only [Act.put, List.setIfInBounds_toArray, List.set_cons_zero, List.set_cons_succ])
  refine wpAnyH_done (by kernel_rfl) ?_ _
  rw [Int.toNat_natCast] at o4
  have HO4 : Hid (Own w4 (w.heap.size + 1) v4 (c.enc ++ uenc lvl)) := o4
  have HB4 := Lib.hid (hBq.trans (b14.mono (by omega)))
  have hs4 := Nat.le_trans hSz b14.size
  have K4 := Lib.hid k4
  clear o1 b1 k1 o2 b2 b12 k2 o4 b4 b14 k4 hBq hKq hSz
  go_wp2_with fail
  go_loopw [4, 5] (fun b i wr => TI w4 (w.heap.size + 1) c.enc l b i wr) (fun _ i _ => lvl - (intOf i).toNat)
  case atStart => exact ⟨0, Nat.zero_le _, rfl, by rw [show tencK l 0 = uenc lvl by rw [tencK, HLL.out]; simp [seqK]]; exact HO4.out, Below.refl _ _⟩
  case round =>
    obtain ⟨k, hk, rfl, ho, hbl⟩ := hrel
    rw [HLL.out] at hk
    have HO := Lib.hid ho; clear ho
    have hsr := Nat.le_trans hs4 hbl.size
    have HBL := Lib.hid hbl; clear hbl
    have KR := Lib.hid (K4.out.below HBL.out (by omega))
    by_cases hlt : k < lvl
    · obtain ⟨⟨_, _, _, e', _, _, hr⟩, _⟩ := HIU.out wr (HB4.out.trans (HBL.out.mono (by omega)))
      cases e'
      rcases hr with hr | ⟨b, off, rfl, hbb, hcl⟩
      · omega
      have hcell := hcl k hlt
      clear hcl
      have hkl : k < l.length := by rw [HLL.out]; exact hlt
      have hx := HR.out _ (getD_mem hkl)
      have hln := HTL.out k (by omega)
      have D := fun b u h hB => ruint_any b (c.enc ++ tencK l k) (l.getD k 0) u (w.heap.size + 1) h hB hx.1 hx.2 (by rw [List.length_append]; omega)
      rw [List.append_assoc, ← tencK_next] at D
      have HKL := Lib.hid hkl; clear hkl
      clear hln
      obtain ⟨x, HX⟩ : ∃ x, Hid (x = l.getD k 0) := ⟨_, rfl⟩
      rw [← HX.out] at D hx hcell
      have HD := Lib.hid D; clear D
      go_wp2_with (first | ((with_reducible refine at_load (.tmp 24) ?_); refine wpList_load_1 40 (.tmp 24) rfl w.heap.size 33 (.slice _ _ lvc) (HBXX.out _ KR.out).2.2 rfl _ Try.underlying40 rfl rfl ?_) | ((with_reducible refine at_load (.tmp 31) ?_); refine wpList_load_1 40 (.tmp 31) rfl w.heap.size 33 (.slice _ _ lvc) (HBXX.out _ KR.out).2.2 rfl _ Try.underlying40 rfl rfl ?_) | (go_at_call 19; refine (HD.out _ _ HO.out hsr).mono ?_; rintro e w6 ⟨v6, rfl, ho6, hb6, hg6⟩; have HO6 := Lib.hid ho6; clear ho6; have HB6 := Lib.hid hb6; clear hb6 hg6))
      go_roundw
      case rel => exact ⟨k + 1, by rw [HLL.out]; omega, by go_num, HO6.out, HBL.out.trans HB6.out⟩
      case measure => simp [intOf]; omega
    · obtain rfl : k = lvl := by omega
      go_wp2_with ((with_reducible refine at_load (.tmp 24) ?_); refine wpList_load_1 40 (.tmp 24) rfl w.heap.size 33 (.slice _ _ lvc) (HBXX.out _ KR.out).2.2 rfl _ Try.underlying40 rfl rfl ?_)
      go_ret2
      refine ⟨_, rfl, ⟨?_, HO.out.new (by have := HB4.out.size; omega)⟩, HB4.out.trans (HBL.out.mono (by omega))⟩
      rw [if_pos rfl]
      have := HO.out
      rw [show tencK l k = tenc l by unfold tenc; rw [HLL.out]] at this
      exact this.byt (Nat.le_trans HLE.out (by unfold maxLen; omega)) HBY.out

set_option maxRecDepth 100000 in
set_option maxHeartbeats 4000000 in
theorem revd_new (x : VdD) (w : World) (hx : x.ok) :
    Calls Try.prog 31 #[.agg (flatP x.parts)] w (EncF w (if x.kind < 1 ∨ 4 < x.kind then 3 else 0) x.enc) := by
  obtain ⟨s, k, r⟩ := x
  have hs : 0 ≤ s ∧ s ≤ 18446744073709551615 := hx.1
  have hkr : -9223372036854775808 ≤ k ∧ k ≤ 9223372036854775807 := hx.2.1
  have hr : IsBytes 32 r := hx.2.2
  clear hx
  show Calls Try.prog 31 #[.agg (flatP [[.int .u64 s], [.int .i64 k], bytesL r])] w (EncF w (if k < 1 ∨ 4 < k then 3 else 0) (uenc s.toNat ++ (uenc k.toNat ++ r)))
  have HBX := Lib.hid (fun u => vd_box (u := u) (b := w.heap.size) (s := s) (k := k) (r := r))
  have h32 := bytesL_len hr
  have HI32 : Hid ((Try.prog.info? 24).map (·.size) = some (bytesL r).length) := by show _ = _; rw [h32]; kernel_rfl
  have hX0 : (flatP [[Value.int .u64 s], [.int .i64 k], bytesL r]).size = 34 := by rw [flatP_size]; simp [h32]
  obtain ⟨X, hX⟩ : ∃ X, flatP [[Value.int .u64 s], [.int .i64 k], bytesL r] = X := ⟨_, rfl⟩
  have HBXX := Lib.hid (fun u (h : Blk u w.heap.size X) => HBX.out u (by rw [hX]; exact h))
  rw [hX] at hX0 ⊢
  clear hX HBX h32
  have HBA := Lib.hid ((Below.refl w.heap.size w).alloc (Nat.le_refl _) (.cells X 46))
  have HK0 : Hid (Blk (w.alloc (.cells X 46)) w.heap.size X) := Blk.new rfl
  have l1 := uenc_len10 (n := s.toNat) (by omega)
  have l2 := uenc_len10 (n := k.toNat) (by omega)
  have HBY : Hid (∀ z ∈ [] ++ uenc s.toNat ++ uenc k.toNat ++ r, 0 ≤ z ∧ z ≤ 255) := by
    intro z hz
    simp only [List.mem_append, List.nil_append] at hz
    rcases hz with (hz | hz) | hz
    · exact uenc_byte _ z hz
    · exact uenc_byte _ z hz
    · exact isb_rng hr z hz
  have HLE : Hid (([] ++ uenc s.toNat ++ uenc k.toNat ++ r).length ≤ 140737488355328) := by show _ ≤ _; simp only [List.length_append, List.length_nil, hr.1]; omega
  have HEE : Hid (uenc s.toNat ++ (uenc k.toNat ++ r) = [] ++ uenc s.toNat ++ uenc k.toNat ++ r) := by show _ = _; simp
  rw [HEE.out]
  by_cases hc4 : k < 1
  · rw [if_pos (.inl hc4)]
    go_enter Try.func31, Try.ntmps31
    go_wp2_with (first
      | ((with_reducible refine at_load (.tmp 4) ?_); refine wpList_load_1 3 (.tmp 4) rfl w.heap.size 1 (.int .i64 k) (HBXX.out _ HK0.out).2.1 rfl _ Try.underlying3 rfl rfl ?_)
      | ((with_reducible refine at_load (.tmp 8) ?_); refine wpList_load_1 3 (.tmp 8) rfl w.heap.size 1 (.int .i64 k) (HBXX.out _ HK0.out).2.1 rfl _ Try.underlying3 rfl rfl ?_))
    go_ret2
    exact ⟨_, rfl, ⟨by rw [if_neg (by omega)]; exact byt_nil _, New.nil _⟩, HBA.out⟩
  by_cases hc8 : 4 < k
  · rw [if_pos (.inr hc8)]
    go_enter Try.func31, Try.ntmps31
    go_wp2_with (first
      | ((with_reducible refine at_load (.tmp 4) ?_); refine wpList_load_1 3 (.tmp 4) rfl w.heap.size 1 (.int .i64 k) (HBXX.out _ HK0.out).2.1 rfl _ Try.underlying3 rfl rfl ?_)
      | ((with_reducible refine at_load (.tmp 8) ?_); refine wpList_load_1 3 (.tmp 8) rfl w.heap.size 1 (.int .i64 k) (HBXX.out _ HK0.out).2.1 rfl _ Try.underlying3 rfl rfl ?_))
    go_ret2
    exact ⟨_, rfl, ⟨by rw [if_neg (by omega)]; exact byt_nil _, New.nil _⟩, HBA.out⟩
  rw [if_neg (by omega)]
  have hk1 : 1 ≤ k := by omega
  have hwk : IntKind.u64.wrap k = k := u64_wrap (by omega) (by omega)
  have hk4 : k ≤ 4 := by omega
  go_enter Try.func31, Try.ntmps31
  go_wp2_with (first
    | ((with_reducible refine at_load (.tmp 4) ?_); refine wpList_load_1 3 (.tmp 4) rfl w.heap.size 1 (.int .i64 k) (HBXX.out _ HK0.out).2.1 rfl _ Try.underlying3 rfl rfl ?_)
    | ((with_reducible refine at_load (.tmp 8) ?_); refine wpList_load_1 3 (.tmp 8) rfl w.heap.size 1 (.int .i64 k) (HBXX.out _ HK0.out).2.1 rfl _ Try.underlying3 rfl rfl ?_))
  refine wp_region_held_drew (S := fun u' => Below (w.alloc (.cells X 46)).drew.heap.size (w.alloc (.cells X 46)).drew u') (by kernel_rfl) (Below.refl _ _) (fun _ => ?_)
  (try simp only [Act.put, List.setIfInBounds_toArray, List.set_cons_zero, List.set_cons_succ])
  obtain ⟨q, hq⟩ : ∃ q, (w.alloc (.cells X 46)).drew = q := ⟨_, rfl⟩
  have hKq : Blk q w.heap.size X := by rw [← hq]; exact HK0.out
  have hBq : Below w.heap.size w q := by rw [← hq]; exact Below.drewN (n := 1) HBA.out
  rw [hq]
  clear hq
  have HLD := Lib.hid (fun u (hu : Below q.heap.size q u) => HBXX.out u (hKq.call hu))
  refine wpAnyH_take (i := 0) (oi := ⟨some 12, _, _, _, _, _⟩) (v := .pointer (some ⟨w.heap.size, 0, none⟩)) rfl (by kernel_rfl) (by kernel_rfl) (by kernel_rfl) (fun _ _ _ h => h) (Or.inl ⟨by rfl, fun wz hz => ?_⟩) (Below.refl _ _) ?_
  · clear hz; go_simp; first | done | with_reducible rfl | rfl
  (try simp only [Act.put, List.setIfInBounds_toArray, List.set_cons_zero, List.set_cons_succ])
  refine wpAnyH_take (i := 1) (oi := ⟨some 13, _, _, _, _, _⟩) (v := .pointer (some ⟨w.heap.size, 0, none⟩)) rfl (by kernel_rfl) (by kernel_rfl) (by kernel_rfl) (fun _ _ _ h => h) (Or.inl ⟨by rfl, fun wz hz => ?_⟩) (Below.refl _ _) ?_
  · clear hz; go_simp; first | done | with_reducible rfl | rfl
  (try simp only [Act.put, List.setIfInBounds_toArray, List.set_cons_zero, List.set_cons_succ])
  refine held_load1 2 rfl (by kernel_rfl) (by kernel_rfl) (by kernel_rfl) (fun _ _ _ _ h => h) rfl 22 (.tmp 13) rfl w.heap.size 0 rfl (.int .u64 s) _ (fun u' hu => (HLD.out u' hu).1) Try.underlying22 rfl (Below.refl _ _) ?_
  (try simp only [Act.put, List.setIfInBounds_toArray, List.set_cons_zero, List.set_cons_succ])
  refine wpAnyH_take (i := 4) (oi := ⟨some 16, _, _, _, _, _⟩) (v := .pointer (some ⟨w.heap.size, 1, none⟩)) rfl (by kernel_rfl) (by kernel_rfl) (by kernel_rfl) (fun _ _ _ h => h) (Or.inl ⟨by rfl, fun wz hz => ?_⟩) (Below.refl _ _) ?_
  · clear hz; go_simp; first | done | with_reducible rfl | rfl
  (try simp only [Act.put, List.setIfInBounds_toArray, List.set_cons_zero, List.set_cons_succ])
  refine held_load1 5 rfl (by kernel_rfl) (by kernel_rfl) (by kernel_rfl) (fun _ _ _ _ h => h) rfl 3 (.tmp 16) rfl w.heap.size 1 rfl (.int .i64 k) _ (fun u' hu => (HLD.out u' hu).2.1) Try.underlying3 rfl (Below.refl _ _) ?_
  (try simp only [Act.put, List.setIfInBounds_toArray, List.set_cons_zero, List.set_cons_succ])
  refine wpAnyH_take (i := 6) (oi := ⟨some 18, _, _, _, _, _⟩) (v := .int .u64 k) rfl (by kernel_rfl) (by kernel_rfl) (by kernel_rfl) (fun _ _ _ h => h) (Or.inl ⟨by rfl, fun wz hz => ?_⟩) (Below.refl _ _) ?_
  · clear hz; go_simp; first | done | with_reducible rfl | rfl
  (try simp only [Act.put, List.setIfInBounds_toArray, List.set_cons_zero, List.set_cons_succ])
  refine wpAnyH_take (i := 8) (oi := ⟨some 20, _, _, _, _, _⟩) (v := .pointer (some ⟨w.heap.size, 2, none⟩)) rfl (by kernel_rfl) (by kernel_rfl) (by kernel_rfl) (fun _ _ _ h => h) (Or.inl ⟨by rfl, fun wz hz => ?_⟩) (Below.refl _ _) ?_
  · clear hz; go_simp; first | done | with_reducible rfl | rfl
  (try simp only [Act.put, List.setIfInBounds_toArray, List.set_cons_zero, List.set_cons_succ])
  refine held_load 9 rfl (by kernel_rfl) (by kernel_rfl) (by kernel_rfl) (fun _ _ _ _ h => h) rfl 24 (.tmp 20) rfl w.heap.size 2 rfl (bytesL r) _ (fun u' hu => (HLD.out u' hu).2.2) Try.underlying24 rfl (HI32.out) (Below.refl _ _) ?_
  (try simp only [Act.put, List.setIfInBounds_toArray, List.set_cons_zero, List.set_cons_succ])
  refine wpAnyH_ready (rs := [3]) (by kernel_rfl) (by simp) ?_
  refine AllReadyH.cons rfl (fun K hK => ?_) AllReadyH.nil
  go_simp
  refine (ruint_any _ [] s q q.heap.size (Own.nil q q.heap.size) (Nat.le_refl _) hs.1 hs.2 (by simp)).mono ?_
  rintro e w1 ⟨v1, rfl, o1, b1, _⟩
  skip
  refine hK.out _ _ (b1) (fun _ => ?_)
  clear hK K
  (try simp only [Act.put, List.setIfInBounds_toArray, List.set_cons_zero, List.set_cons_succ])
  refine wpAnyH_ready (rs := [7]) (by kernel_rfl) (by simp) ?_
  refine AllReadyH.cons rfl (fun K hK => ?_) AllReadyH.nil
  go_simp
  refine (ruint_any _ ([] ++ uenc s.toNat) k w1 q.heap.size o1 b1.size (by omega) (by omega) (by rw [List.length_append, List.length_nil]; omega)).mono ?_
  rintro e w2 ⟨v2, rfl, o2, b2, _⟩
  have b12 := b1.trans b2
  refine hK.out _ _ (b12) (fun _ => ?_)
  clear hK K
  (try simp only [Act.put, List.setIfInBounds_toArray, List.set_cons_zero, List.set_cons_succ])
  refine wpAnyH_ready (rs := [10]) (by kernel_rfl) (by simp) ?_
  refine AllReadyH.cons rfl (fun K hK => ?_) AllReadyH.nil
  go_simp
  refine (rroot_any _ ([] ++ uenc s.toNat ++ uenc k.toNat) r w2 q.heap.size o2 b12.size hr (by simp only [List.length_append, List.length_nil]; omega)).mono ?_
  rintro e w3 ⟨v3, rfl, o3, b3, _⟩
  have b13 := b12.trans b3
  refine hK.out _ _ (b13) (fun _ => ?_)
  clear hK K
  (try simp only [Act.put, List.setIfInBounds_toArray, List.set_cons_zero, List.set_cons_succ])
  refine wpAnyH_ready (rs := [11]) (by kernel_rfl) (by simp) ?_
  refine AllReadyH.cons rfl (fun K hK => ?_) AllReadyH.nil
  go_simp
  refine hK.out _ _ (b13) (fun _ => ?_)
  clear hK K
  (try simp only [Act.put, List.setIfInBounds_toArray, List.set_cons_zero, List.set_cons_succ])
  refine wpAnyH_ready (rs := [12]) (by kernel_rfl) (by simp) ?_
  refine AllReadyH.cons rfl (fun K hK => ?_) AllReadyH.nil
  go_simp
  refine hK.out _ _ (b13) (fun _ => ?_)
  clear hK K
  (try simp only [Act.put, List.setIfInBounds_toArray, List.set_cons_zero, List.set_cons_succ])
  refine wpAnyH_done (by kernel_rfl) ?_ _
  go_wp2_with fail
  go_ret2
  exact ⟨v3, rfl, ⟨by rw [if_pos rfl]; exact o3.byt (Nat.le_trans HLE.out (by unfold maxLen; omega)) HBY.out, o3.new (by have := hBq.size; omega)⟩, hBq.trans (b13.mono hBq.size)⟩

set_option maxRecDepth 100000 in
set_option maxHeartbeats 16000000 in
theorem rblk_new (x : BkD) (w : World) (h : x.ok) : Calls Try.prog 27 #[.slice none 0 0, .agg (flatP x.parts)] w (AppF w x.enc) := by
  have hlens := BkD.lens h
  obtain ⟨hby, hbl⟩ := byt_encs h
  obtain ⟨h1, h2, hs, h3, h4, h5, hd, hpd, h6, h7⟩ := h
  have l0 := uenc_len10 (n := x.slot.toNat) (by omega)
  have l1 := CpD.encl h1
  have l2 := CpD.encl h2
  have l6 := CpD.encl h6
  have l7 := CpD.encl h7
  unfold CpD.enc at l1 l2 l6 l7
  have l3 := h3.1
  have l4 := h4.1
  have l5 := h5.1
  have i1 := (bytesN_is x.d).1
  have i2 := (bytesN_is x.pd).1
  obtain ⟨A1, hA1⟩ : ∃ A, ([] : List Int) ++ uenc x.slot.toNat = A := ⟨_, rfl⟩
  have L1 : A1.length ≤ 50 := by rw [← hA1]; simp only [List.length_append, List.length_nil, List.length_cons] at *; omega
  have D1 : Hid (∀ v u B, Own u B v ([] : List Int) → B ≤ u.heap.size → Calls Try.prog 19 #[v, .int .u64 x.slot] u (AppO u B v A1)) := fun v u B h hB => by rw [← hA1]; exact ruint_any v _ x.slot u B h hB hs.1 hs.2 (by simp)
  obtain ⟨A2, hA2⟩ : ∃ A, A1 ++ x.root = A := ⟨_, rfl⟩
  have L2 : A2.length ≤ 100 := by rw [← hA2]; simp only [List.length_append, List.length_nil, List.length_cons] at *; omega
  have D2 : Hid (∀ v u B, Own u B v A1 → B ≤ u.heap.size → Calls Try.prog 47 #[v, .agg (bytesL x.root).toArray] u (AppO u B v A2)) := fun v u B h hB => by rw [← hA2]; exact rroot_any v _ x.root u B h hB h3 (by omega)
  obtain ⟨A3, hA3⟩ : ∃ A, A2 ++ x.parent = A := ⟨_, rfl⟩
  have L3 : A3.length ≤ 150 := by rw [← hA3]; simp only [List.length_append, List.length_nil, List.length_cons] at *; omega
  have D3 : Hid (∀ v u B, Own u B v A2 → B ≤ u.heap.size → Calls Try.prog 47 #[v, .agg (bytesL x.parent).toArray] u (AppO u B v A3)) := fun v u B h hB => by rw [← hA3]; exact rroot_any v _ x.parent u B h hB h4 (by omega)
  obtain ⟨A4, hA4⟩ : ∃ A, A3 ++ x.payload = A := ⟨_, rfl⟩
  have L4 : A4.length ≤ 200 := by rw [← hA4]; simp only [List.length_append, List.length_nil, List.length_cons] at *; omega
  have D4 : Hid (∀ v u B, Own u B v A3 → B ≤ u.heap.size → Calls Try.prog 47 #[v, .agg (bytesL x.payload).toArray] u (AppO u B v A4)) := fun v u B h hB => by rw [← hA4]; exact rroot_any v _ x.payload u B h hB h5 (by omega)
  obtain ⟨A5, hA5⟩ : ∃ A, A4 ++ bytesN x.d = A := ⟨_, rfl⟩
  have L5 : A5.length ≤ 250 := by rw [← hA5]; simp only [List.length_append, List.length_nil, List.length_cons] at *; omega
  have D5 : Hid (∀ v u B, Own u B v A4 → B ≤ u.heap.size → Calls Try.prog 48 #[v, .agg (wideL x.d).toArray] u (AppO u B v A5)) := fun v u B h hB => by rw [← hA5]; exact rwide_any v _ x.d u B h hB hd (by omega)
  obtain ⟨A6, hA6⟩ : ∃ A, A5 ++ bytesN x.pd = A := ⟨_, rfl⟩
  have L6 : A6.length ≤ 300 := by rw [← hA6]; simp only [List.length_append, List.length_nil, List.length_cons] at *; omega
  have D6 : Hid (∀ v u B, Own u B v A5 → B ≤ u.heap.size → Calls Try.prog 48 #[v, .agg (wideL x.pd).toArray] u (AppO u B v A6)) := fun v u B h hB => by rw [← hA6]; exact rwide_any v _ x.pd u B h hB hpd (by omega)
  obtain ⟨A7, hA7⟩ : ∃ A, A6 ++ (uenc x.j.n.toNat ++ x.j.r) = A := ⟨_, rfl⟩
  have L7 : A7.length ≤ 350 := by rw [← hA7]; simp only [List.length_append, List.length_nil, List.length_cons] at *; omega
  have D7 : Hid (∀ v u B, Own u B v A6 → B ≤ u.heap.size → Calls Try.prog 49 #[v, .agg x.j.cells.toArray] u (AppO u B v A7)) := fun v u B h hB => by rw [← hA7]; exact rcheck_any v _ x.j.n x.j.r u B h hB h6.1 h6.2.1 h6.2.2 (by omega)
  obtain ⟨A8, hA8⟩ : ∃ A, A7 ++ (uenc x.f.n.toNat ++ x.f.r) = A := ⟨_, rfl⟩
  have L8 : A8.length ≤ 400 := by rw [← hA8]; simp only [List.length_append, List.length_nil, List.length_cons] at *; omega
  have D8 : Hid (∀ v u B, Own u B v A7 → B ≤ u.heap.size → Calls Try.prog 49 #[v, .agg x.f.cells.toArray] u (AppO u B v A8)) := fun v u B h hB => by rw [← hA8]; exact rcheck_any v _ x.f.n x.f.r u B h hB h7.1 h7.2.1 h7.2.2 (by omega)
  obtain ⟨A9, hA9⟩ : ∃ A, A8 ++ (uenc x.pj.n.toNat ++ x.pj.r) = A := ⟨_, rfl⟩
  have L9 : A9.length ≤ 450 := by rw [← hA9]; simp only [List.length_append, List.length_nil, List.length_cons] at *; omega
  have D9 : Hid (∀ v u B, Own u B v A8 → B ≤ u.heap.size → Calls Try.prog 49 #[v, .agg x.pj.cells.toArray] u (AppO u B v A9)) := fun v u B h hB => by rw [← hA9]; exact rcheck_any v _ x.pj.n x.pj.r u B h hB h1.1 h1.2.1 h1.2.2 (by omega)
  obtain ⟨A10, hA10⟩ : ∃ A, A9 ++ (uenc x.pf.n.toNat ++ x.pf.r) = A := ⟨_, rfl⟩
  have L10 : A10.length ≤ 500 := by rw [← hA10]; simp only [List.length_append, List.length_nil, List.length_cons] at *; omega
  have D10 : Hid (∀ v u B, Own u B v A9 → B ≤ u.heap.size → Calls Try.prog 49 #[v, .agg x.pf.cells.toArray] u (AppO u B v A10)) := fun v u B h hB => by rw [← hA10]; exact rcheck_any v _ x.pf.n x.pf.r u B h hB h2.1 h2.2.1 h2.2.2 (by omega)
  obtain ⟨A11, hA11⟩ : ∃ A, A10 ++ [if x.t then 1 else 0] = A := ⟨_, rfl⟩
  have L11 : A11.length ≤ 550 := by rw [← hA11]; simp only [List.length_append, List.length_nil, List.length_cons] at *; omega
  have D11 : Hid (∀ v u B, Own u B v A10 → B ≤ u.heap.size → Calls Try.prog 50 #[v, .bool x.t] u (AppO u B v A11)) := fun v u B h hB => by rw [← hA11]; exact rbool_any v _ x.t u B h hB (by omega)
  have HE : Hid (A11 = x.enc) := by
    show _ = _
    rw [← hA11, ← hA10, ← hA9, ← hA8, ← hA7, ← hA6, ← hA5, ← hA4, ← hA3, ← hA2, ← hA1]
    simp [BkD.enc, CpD.enc]
  clear hA1 L1 hA2 L2 hA3 L3 hA4 L4 hA5 L5 hA6 L6 hA7 L7 hA8 L8 hA9 L9 hA10 L10 hA11 L11 l0 l1 l2 l3 l4 l5 l6 l7 i1 i2
  have q0 : Hid (x.parts[0]? = some (x.pj.cells)) := rfl
  have o0 : Hid (offP x.parts 0 = 0) := by show _ = _; rw [offP_lens hlens]; rfl
  have hi0 : Hid ((Try.prog.info? 26).map (·.size) = some (x.pj.cells).length) := by show _ = _; rw [CpD.len h1]; kernel_rfl
  have q1 : Hid (x.parts[1]? = some (x.pf.cells)) := rfl
  have o1 : Hid (offP x.parts 1 = 33) := by show _ = _; rw [offP_lens hlens]; rfl
  have hi1 : Hid ((Try.prog.info? 26).map (·.size) = some (x.pf.cells).length) := by show _ = _; rw [CpD.len h2]; kernel_rfl
  have q2 : Hid (x.parts[2]? = some ([Value.int .u64 x.slot])) := rfl
  have o2 : Hid (offP x.parts 2 = 66) := by show _ = _; rw [offP_lens hlens]; rfl
  have q3 : Hid (x.parts[3]? = some (bytesL x.root)) := rfl
  have o3 : Hid (offP x.parts 3 = 67) := by show _ = _; rw [offP_lens hlens]; rfl
  have hi3 : Hid ((Try.prog.info? 24).map (·.size) = some (bytesL x.root).length) := by show _ = _; rw [bytesL_len h3]; kernel_rfl
  have q4 : Hid (x.parts[4]? = some (bytesL x.parent)) := rfl
  have o4 : Hid (offP x.parts 4 = 99) := by show _ = _; rw [offP_lens hlens]; rfl
  have hi4 : Hid ((Try.prog.info? 24).map (·.size) = some (bytesL x.parent).length) := by show _ = _; rw [bytesL_len h4]; kernel_rfl
  have q5 : Hid (x.parts[5]? = some (bytesL x.payload)) := rfl
  have o5 : Hid (offP x.parts 5 = 131) := by show _ = _; rw [offP_lens hlens]; rfl
  have hi5 : Hid ((Try.prog.info? 24).map (·.size) = some (bytesL x.payload).length) := by show _ = _; rw [bytesL_len h5]; kernel_rfl
  have q6 : Hid (x.parts[6]? = some (wideL x.d)) := rfl
  have o6 : Hid (offP x.parts 6 = 163) := by show _ = _; rw [offP_lens hlens]; rfl
  have hi6 : Hid ((Try.prog.info? 30).map (·.size) = some (wideL x.d).length) := by show _ = _; kernel_rfl
  have q7 : Hid (x.parts[7]? = some (wideL x.pd)) := rfl
  have o7 : Hid (offP x.parts 7 = 167) := by show _ = _; rw [offP_lens hlens]; rfl
  have hi7 : Hid ((Try.prog.info? 30).map (·.size) = some (wideL x.pd).length) := by show _ = _; kernel_rfl
  have q8 : Hid (x.parts[8]? = some (x.j.cells)) := rfl
  have o8 : Hid (offP x.parts 8 = 171) := by show _ = _; rw [offP_lens hlens]; rfl
  have hi8 : Hid ((Try.prog.info? 26).map (·.size) = some (x.j.cells).length) := by show _ = _; rw [CpD.len h6]; kernel_rfl
  have q9 : Hid (x.parts[9]? = some (x.f.cells)) := rfl
  have o9 : Hid (offP x.parts 9 = 204) := by show _ = _; rw [offP_lens hlens]; rfl
  have hi9 : Hid ((Try.prog.info? 26).map (·.size) = some (x.f.cells).length) := by show _ = _; rw [CpD.len h7]; kernel_rfl
  have q10 : Hid (x.parts[10]? = some ([Value.bool x.t])) := rfl
  have o10 : Hid (offP x.parts 10 = 237) := by show _ = _; rw [offP_lens hlens]; rfl
  have HBY := Lib.hid hby; clear hby
  have HBLn := Lib.hid hbl; clear hbl
  have hX0 : (flatP x.parts).size = 238 := by rw [flatP_size, List.length_flatten, hlens]; rfl
  obtain ⟨ps, hps⟩ : ∃ ps, x.parts = ps := ⟨_, rfl⟩
  rw [hps] at hX0 q0 o0 q1 o1 q2 o2 q3 o3 q4 o4 q5 o5 q6 o6 q7 o7 q8 o8 q9 o9 q10 o10 ⊢
  clear hps hlens h1 h2 h3 h4 h5 h6 h7 hd hpd hs
  have P0 : Hid (∀ u, Blk u w.heap.size (flatP ps) → u.rangeAt w.heap.size 0 (x.pj.cells)) := fun u hu => by have := hu.part q0.out; rwa [o0.out] at this
  have P1 : Hid (∀ u, Blk u w.heap.size (flatP ps) → u.rangeAt w.heap.size 33 (x.pf.cells)) := fun u hu => by have := hu.part q1.out; rwa [o1.out] at this
  have P2 : Hid (∀ u, Blk u w.heap.size (flatP ps) → u.cell? ⟨w.heap.size, 66, none⟩ = some (.int .u64 x.slot)) := fun u hu => hu.cellAt q2.out o2.out
  have P3 : Hid (∀ u, Blk u w.heap.size (flatP ps) → u.rangeAt w.heap.size 67 (bytesL x.root)) := fun u hu => by have := hu.part q3.out; rwa [o3.out] at this
  have P4 : Hid (∀ u, Blk u w.heap.size (flatP ps) → u.rangeAt w.heap.size 99 (bytesL x.parent)) := fun u hu => by have := hu.part q4.out; rwa [o4.out] at this
  have P5 : Hid (∀ u, Blk u w.heap.size (flatP ps) → u.rangeAt w.heap.size 131 (bytesL x.payload)) := fun u hu => by have := hu.part q5.out; rwa [o5.out] at this
  have P6 : Hid (∀ u, Blk u w.heap.size (flatP ps) → u.rangeAt w.heap.size 163 (wideL x.d)) := fun u hu => by have := hu.part q6.out; rwa [o6.out] at this
  have P7 : Hid (∀ u, Blk u w.heap.size (flatP ps) → u.rangeAt w.heap.size 167 (wideL x.pd)) := fun u hu => by have := hu.part q7.out; rwa [o7.out] at this
  have P8 : Hid (∀ u, Blk u w.heap.size (flatP ps) → u.rangeAt w.heap.size 171 (x.j.cells)) := fun u hu => by have := hu.part q8.out; rwa [o8.out] at this
  have P9 : Hid (∀ u, Blk u w.heap.size (flatP ps) → u.rangeAt w.heap.size 204 (x.f.cells)) := fun u hu => by have := hu.part q9.out; rwa [o9.out] at this
  have P10 : Hid (∀ u, Blk u w.heap.size (flatP ps) → u.cell? ⟨w.heap.size, 237, none⟩ = some (.bool x.t)) := fun u hu => hu.cellAt q10.out o10.out
  obtain ⟨X, HX⟩ : ∃ X, Hid (flatP ps = X) := ⟨_, rfl⟩
  rw [HX.out] at hX0 ⊢
  have K0 : Blk (w.alloc (.cells X 32)) w.heap.size (flatP ps) := Blk.to (Blk.new rfl) HX.out.symm
  have HB0 := (Below.refl w.heap.size w).alloc (Nat.le_refl _) (.cells X 32)
  have hsz0 : w.heap.size + 1 ≤ (w.alloc (.cells X 32)).heap.size := by simp
  have HK0 := Lib.hid K0; clear K0
  have HHB0 := Lib.hid HB0; clear HB0
  go_enter Try.func27, Try.ntmps27
  go_wp2_with fail
  refine wp_region_held_drew (S := fun u' => Blk u' w.heap.size (flatP ps)) (by kernel_rfl) (HK0.out) (fun _ => ?_)
  (try simp only [Act.put, List.setIfInBounds_toArray, List.set_cons_zero, List.set_cons_succ])
  obtain ⟨y0, hy0⟩ : ∃ y, (w.alloc (.cells X 32)).drew = y := ⟨_, rfl⟩
  have Ky0 : Blk y0 w.heap.size (flatP ps) := by rw [← hy0]; exact HK0.out
  have By0 : Below w.heap.size w y0 := by rw [← hy0]; exact Below.drewN (n := 1) HHB0.out
  have Zy0 : w.heap.size + 1 ≤ y0.heap.size := by rw [← hy0]; exact hsz0
  have Oy0 : Own y0 (w.heap.size + 1) (.slice none 0 0) [] := Own.nil _ _
  rw [hy0]
  clear hy0
  refine wpAnyH_take (i := 0) (oi := ⟨some 5, _, _, _, _, _⟩) (v := .slice none 0 0) rfl (by kernel_rfl) (by kernel_rfl) (by kernel_rfl) (fun _ _ _ h => h) (Or.inl ⟨by rfl, fun wz hz => ?_⟩) Ky0 ?_
  · clear hz; go_simp; first | done | with_reducible rfl | rfl
  (try simp only [Act.put, List.setIfInBounds_toArray, List.set_cons_zero, List.set_cons_succ])
  refine wpAnyH_take (i := 1) (oi := ⟨some 6, _, _, _, _, _⟩) (v := .pointer (some ⟨w.heap.size, 66, none⟩)) rfl (by kernel_rfl) (by kernel_rfl) (by kernel_rfl) (fun _ _ _ h => h) (Or.inl ⟨by rfl, fun wz hz => ?_⟩) Ky0 ?_
  · clear hz; go_simp; first | done | with_reducible rfl | rfl
  (try simp only [Act.put, List.setIfInBounds_toArray, List.set_cons_zero, List.set_cons_succ])
  refine held_load1 2 rfl (by kernel_rfl) (by kernel_rfl) (by kernel_rfl) (fun _ _ _ _ h => h) rfl 22 (.tmp 6) rfl w.heap.size 66 rfl (.int .u64 x.slot) _ (fun u' hu => P2.out u' hu) Try.underlying22 rfl Ky0 ?_
  (try simp only [Act.put, List.setIfInBounds_toArray, List.set_cons_zero, List.set_cons_succ])
  refine wpAnyH_take (i := 4) (oi := ⟨some 9, _, _, _, _, _⟩) (v := .pointer (some ⟨w.heap.size, 67, none⟩)) rfl (by kernel_rfl) (by kernel_rfl) (by kernel_rfl) (fun _ _ _ h => h) (Or.inl ⟨by rfl, fun wz hz => ?_⟩) Ky0 ?_
  · clear hz; go_simp; first | done | with_reducible rfl | rfl
  (try simp only [Act.put, List.setIfInBounds_toArray, List.set_cons_zero, List.set_cons_succ])
  refine held_load 5 rfl (by kernel_rfl) (by kernel_rfl) (by kernel_rfl) (fun _ _ _ _ h => h) rfl 24 (.tmp 9) rfl w.heap.size 67 rfl (bytesL x.root) _ (fun u' hu => P3.out u' hu) Try.underlying24 rfl (hi3.out) Ky0 ?_
  (try simp only [Act.put, List.setIfInBounds_toArray, List.set_cons_zero, List.set_cons_succ])
  refine wpAnyH_take (i := 7) (oi := ⟨some 12, _, _, _, _, _⟩) (v := .pointer (some ⟨w.heap.size, 99, none⟩)) rfl (by kernel_rfl) (by kernel_rfl) (by kernel_rfl) (fun _ _ _ h => h) (Or.inl ⟨by rfl, fun wz hz => ?_⟩) Ky0 ?_
  · clear hz; go_simp; first | done | with_reducible rfl | rfl
  (try simp only [Act.put, List.setIfInBounds_toArray, List.set_cons_zero, List.set_cons_succ])
  refine held_load 8 rfl (by kernel_rfl) (by kernel_rfl) (by kernel_rfl) (fun _ _ _ _ h => h) rfl 24 (.tmp 12) rfl w.heap.size 99 rfl (bytesL x.parent) _ (fun u' hu => P4.out u' hu) Try.underlying24 rfl (hi4.out) Ky0 ?_
  (try simp only [Act.put, List.setIfInBounds_toArray, List.set_cons_zero, List.set_cons_succ])
  refine wpAnyH_take (i := 10) (oi := ⟨some 15, _, _, _, _, _⟩) (v := .pointer (some ⟨w.heap.size, 131, none⟩)) rfl (by kernel_rfl) (by kernel_rfl) (by kernel_rfl) (fun _ _ _ h => h) (Or.inl ⟨by rfl, fun wz hz => ?_⟩) Ky0 ?_
  · clear hz; go_simp; first | done | with_reducible rfl | rfl
  (try simp only [Act.put, List.setIfInBounds_toArray, List.set_cons_zero, List.set_cons_succ])
  refine held_load 11 rfl (by kernel_rfl) (by kernel_rfl) (by kernel_rfl) (fun _ _ _ _ h => h) rfl 24 (.tmp 15) rfl w.heap.size 131 rfl (bytesL x.payload) _ (fun u' hu => P5.out u' hu) Try.underlying24 rfl (hi5.out) Ky0 ?_
  (try simp only [Act.put, List.setIfInBounds_toArray, List.set_cons_zero, List.set_cons_succ])
  refine wpAnyH_ready (rs := [3]) (by kernel_rfl) (by simp) ?_
  refine AllReadyH.cons rfl (fun K hK => ?_) AllReadyH.nil
  go_simp
  refine (D1.out _ _ _ Oy0 Zy0).mono ?_
  rintro e u1 ⟨v1, rfl, O1, t1, _⟩
  have K1 := Ky0.below t1 (by omega)
  have B1 := By0.trans (t1.mono (by omega))
  have Z1 := Nat.le_trans Zy0 t1.size
  refine hK.out _ _ (K1) (fun _ => ?_)
  clear hK K
  (try simp only [Act.put, List.setIfInBounds_toArray, List.set_cons_zero, List.set_cons_succ])
  refine wpAnyH_ready (rs := [6]) (by kernel_rfl) (by simp) ?_
  refine AllReadyH.cons rfl (fun K hK => ?_) AllReadyH.nil
  go_simp
  refine (D2.out _ _ _ O1 Z1).mono ?_
  rintro e u2 ⟨v2, rfl, O2, t2, _⟩
  have K2 := K1.below t2 (by omega)
  have B2 := B1.trans (t2.mono (by omega))
  have Z2 := Nat.le_trans Z1 t2.size
  refine hK.out _ _ (K2) (fun _ => ?_)
  clear hK K
  (try simp only [Act.put, List.setIfInBounds_toArray, List.set_cons_zero, List.set_cons_succ])
  refine wpAnyH_ready (rs := [9]) (by kernel_rfl) (by simp) ?_
  refine AllReadyH.cons rfl (fun K hK => ?_) AllReadyH.nil
  go_simp
  refine (D3.out _ _ _ O2 Z2).mono ?_
  rintro e u3 ⟨v3, rfl, O3, t3, _⟩
  have K3 := K2.below t3 (by omega)
  have B3 := B2.trans (t3.mono (by omega))
  have Z3 := Nat.le_trans Z2 t3.size
  refine hK.out _ _ (K3) (fun _ => ?_)
  clear hK K
  (try simp only [Act.put, List.setIfInBounds_toArray, List.set_cons_zero, List.set_cons_succ])
  refine wpAnyH_ready (rs := [12]) (by kernel_rfl) (by simp) ?_
  refine AllReadyH.cons rfl (fun K hK => ?_) AllReadyH.nil
  go_simp
  refine (D4.out _ _ _ O3 Z3).mono ?_
  rintro e u4 ⟨v4, rfl, O4, t4, _⟩
  have K4 := K3.below t4 (by omega)
  have B4 := B3.trans (t4.mono (by omega))
  have Z4 := Nat.le_trans Z3 t4.size
  refine hK.out _ _ (K4) (fun _ => ?_)
  clear hK K
  (try simp only [Act.put, List.setIfInBounds_toArray, List.set_cons_zero, List.set_cons_succ])
  refine wpAnyH_ready (rs := [13]) (by kernel_rfl) (by simp) ?_
  refine AllReadyH.cons rfl (fun K hK => ?_) AllReadyH.nil
  go_simp
  refine hK.out _ _ (K4) (fun _ => ?_)
  clear hK K
  (try simp only [Act.put, List.setIfInBounds_toArray, List.set_cons_zero, List.set_cons_succ])
  refine wpAnyH_done (by kernel_rfl) ?_ _
  clear Ky0 By0 Oy0
  have HK4 := Lib.hid K4; have HHB4 := Lib.hid B4; have HO4 := Lib.hid O4
  clear K1 B1 O1 t1 K2 B2 O2 t2 K3 B3 O3 t3 K4 B4 O4 t4
  go_wp2_with fail
  refine wp_region_held_drew (S := fun u' => Blk u' w.heap.size (flatP ps)) (by kernel_rfl) (HK4.out) (fun _ => ?_)
  (try simp only [Act.put, List.setIfInBounds_toArray, List.set_cons_zero, List.set_cons_succ])
  obtain ⟨y1, hy1⟩ : ∃ y, (u4).drew = y := ⟨_, rfl⟩
  have Ky1 : Blk y1 w.heap.size (flatP ps) := by rw [← hy1]; exact HK4.out
  have By1 : Below w.heap.size w y1 := by rw [← hy1]; exact Below.drewN (n := 1) HHB4.out
  have Zy1 : w.heap.size + 1 ≤ y1.heap.size := by rw [← hy1]; exact Z4
  have Oy1 : Own y1 (w.heap.size + 1) (v4) A4 := by rw [← hy1]; exact HO4.out
  rw [hy1]
  clear hy1
  refine wpAnyH_take (i := 0) (oi := ⟨some 18, _, _, _, _, _⟩) (v := v4) rfl (by kernel_rfl) (by kernel_rfl) (by kernel_rfl) (fun _ _ _ h => h) (Or.inl ⟨by rfl, fun wz hz => ?_⟩) Ky1 ?_
  · clear hz; go_simp; first | done | with_reducible rfl | rfl
  (try simp only [Act.put, List.setIfInBounds_toArray, List.set_cons_zero, List.set_cons_succ])
  refine wpAnyH_take (i := 1) (oi := ⟨some 19, _, _, _, _, _⟩) (v := .pointer (some ⟨w.heap.size, 163, none⟩)) rfl (by kernel_rfl) (by kernel_rfl) (by kernel_rfl) (fun _ _ _ h => h) (Or.inl ⟨by rfl, fun wz hz => ?_⟩) Ky1 ?_
  · clear hz; go_simp; first | done | with_reducible rfl | rfl
  (try simp only [Act.put, List.setIfInBounds_toArray, List.set_cons_zero, List.set_cons_succ])
  refine held_load 2 rfl (by kernel_rfl) (by kernel_rfl) (by kernel_rfl) (fun _ _ _ _ h => h) rfl 30 (.tmp 19) rfl w.heap.size 163 rfl (wideL x.d) _ (fun u' hu => P6.out u' hu) Try.underlying30 rfl (hi6.out) Ky1 ?_
  (try simp only [Act.put, List.setIfInBounds_toArray, List.set_cons_zero, List.set_cons_succ])
  refine wpAnyH_take (i := 4) (oi := ⟨some 22, _, _, _, _, _⟩) (v := .pointer (some ⟨w.heap.size, 167, none⟩)) rfl (by kernel_rfl) (by kernel_rfl) (by kernel_rfl) (fun _ _ _ h => h) (Or.inl ⟨by rfl, fun wz hz => ?_⟩) Ky1 ?_
  · clear hz; go_simp; first | done | with_reducible rfl | rfl
  (try simp only [Act.put, List.setIfInBounds_toArray, List.set_cons_zero, List.set_cons_succ])
  refine held_load 5 rfl (by kernel_rfl) (by kernel_rfl) (by kernel_rfl) (fun _ _ _ _ h => h) rfl 30 (.tmp 22) rfl w.heap.size 167 rfl (wideL x.pd) _ (fun u' hu => P7.out u' hu) Try.underlying30 rfl (hi7.out) Ky1 ?_
  (try simp only [Act.put, List.setIfInBounds_toArray, List.set_cons_zero, List.set_cons_succ])
  refine wpAnyH_ready (rs := [3]) (by kernel_rfl) (by simp) ?_
  refine AllReadyH.cons rfl (fun K hK => ?_) AllReadyH.nil
  go_simp
  refine (D5.out _ _ _ Oy1 Zy1).mono ?_
  rintro e u5 ⟨v5, rfl, O5, t5, _⟩
  have K5 := Ky1.below t5 (by omega)
  have B5 := By1.trans (t5.mono (by omega))
  have Z5 := Nat.le_trans Zy1 t5.size
  refine hK.out _ _ (K5) (fun _ => ?_)
  clear hK K
  (try simp only [Act.put, List.setIfInBounds_toArray, List.set_cons_zero, List.set_cons_succ])
  refine wpAnyH_ready (rs := [6]) (by kernel_rfl) (by simp) ?_
  refine AllReadyH.cons rfl (fun K hK => ?_) AllReadyH.nil
  go_simp
  refine (D6.out _ _ _ O5 Z5).mono ?_
  rintro e u6 ⟨v6, rfl, O6, t6, _⟩
  have K6 := K5.below t6 (by omega)
  have B6 := B5.trans (t6.mono (by omega))
  have Z6 := Nat.le_trans Z5 t6.size
  refine hK.out _ _ (K6) (fun _ => ?_)
  clear hK K
  (try simp only [Act.put, List.setIfInBounds_toArray, List.set_cons_zero, List.set_cons_succ])
  refine wpAnyH_ready (rs := [7]) (by kernel_rfl) (by simp) ?_
  refine AllReadyH.cons rfl (fun K hK => ?_) AllReadyH.nil
  go_simp
  refine hK.out _ _ (K6) (fun _ => ?_)
  clear hK K
  (try simp only [Act.put, List.setIfInBounds_toArray, List.set_cons_zero, List.set_cons_succ])
  refine wpAnyH_done (by kernel_rfl) ?_ _
  clear Ky1 By1 Oy1
  have HK6 := Lib.hid K6; have HHB6 := Lib.hid B6; have HO6 := Lib.hid O6
  clear K5 B5 O5 t5 K6 B6 O6 t6
  go_wp2_with fail
  refine wp_region_held_drew (S := fun u' => Blk u' w.heap.size (flatP ps)) (by kernel_rfl) (HK6.out) (fun _ => ?_)
  (try simp only [Act.put, List.setIfInBounds_toArray, List.set_cons_zero, List.set_cons_succ])
  obtain ⟨y2, hy2⟩ : ∃ y, (u6).drew = y := ⟨_, rfl⟩
  have Ky2 : Blk y2 w.heap.size (flatP ps) := by rw [← hy2]; exact HK6.out
  have By2 : Below w.heap.size w y2 := by rw [← hy2]; exact Below.drewN (n := 1) HHB6.out
  have Zy2 : w.heap.size + 1 ≤ y2.heap.size := by rw [← hy2]; exact Z6
  have Oy2 : Own y2 (w.heap.size + 1) (v6) A6 := by rw [← hy2]; exact HO6.out
  rw [hy2]
  clear hy2
  refine wpAnyH_take (i := 0) (oi := ⟨some 25, _, _, _, _, _⟩) (v := v6) rfl (by kernel_rfl) (by kernel_rfl) (by kernel_rfl) (fun _ _ _ h => h) (Or.inl ⟨by rfl, fun wz hz => ?_⟩) Ky2 ?_
  · clear hz; go_simp; first | done | with_reducible rfl | rfl
  (try simp only [Act.put, List.setIfInBounds_toArray, List.set_cons_zero, List.set_cons_succ])
  refine wpAnyH_take (i := 1) (oi := ⟨some 26, _, _, _, _, _⟩) (v := .pointer (some ⟨w.heap.size, 171, none⟩)) rfl (by kernel_rfl) (by kernel_rfl) (by kernel_rfl) (fun _ _ _ h => h) (Or.inl ⟨by rfl, fun wz hz => ?_⟩) Ky2 ?_
  · clear hz; go_simp; first | done | with_reducible rfl | rfl
  (try simp only [Act.put, List.setIfInBounds_toArray, List.set_cons_zero, List.set_cons_succ])
  refine held_load 2 rfl (by kernel_rfl) (by kernel_rfl) (by kernel_rfl) (fun _ _ _ _ h => h) rfl 26 (.tmp 26) rfl w.heap.size 171 rfl (x.j.cells) _ (fun u' hu => P8.out u' hu) Try.underlying26 rfl (hi8.out) Ky2 ?_
  (try simp only [Act.put, List.setIfInBounds_toArray, List.set_cons_zero, List.set_cons_succ])
  refine wpAnyH_take (i := 4) (oi := ⟨some 29, _, _, _, _, _⟩) (v := .pointer (some ⟨w.heap.size, 204, none⟩)) rfl (by kernel_rfl) (by kernel_rfl) (by kernel_rfl) (fun _ _ _ h => h) (Or.inl ⟨by rfl, fun wz hz => ?_⟩) Ky2 ?_
  · clear hz; go_simp; first | done | with_reducible rfl | rfl
  (try simp only [Act.put, List.setIfInBounds_toArray, List.set_cons_zero, List.set_cons_succ])
  refine held_load 5 rfl (by kernel_rfl) (by kernel_rfl) (by kernel_rfl) (fun _ _ _ _ h => h) rfl 26 (.tmp 29) rfl w.heap.size 204 rfl (x.f.cells) _ (fun u' hu => P9.out u' hu) Try.underlying26 rfl (hi9.out) Ky2 ?_
  (try simp only [Act.put, List.setIfInBounds_toArray, List.set_cons_zero, List.set_cons_succ])
  refine wpAnyH_ready (rs := [3]) (by kernel_rfl) (by simp) ?_
  refine AllReadyH.cons rfl (fun K hK => ?_) AllReadyH.nil
  go_simp
  refine (D7.out _ _ _ Oy2 Zy2).mono ?_
  rintro e u7 ⟨v7, rfl, O7, t7, _⟩
  have K7 := Ky2.below t7 (by omega)
  have B7 := By2.trans (t7.mono (by omega))
  have Z7 := Nat.le_trans Zy2 t7.size
  refine hK.out _ _ (K7) (fun _ => ?_)
  clear hK K
  (try simp only [Act.put, List.setIfInBounds_toArray, List.set_cons_zero, List.set_cons_succ])
  refine wpAnyH_ready (rs := [6]) (by kernel_rfl) (by simp) ?_
  refine AllReadyH.cons rfl (fun K hK => ?_) AllReadyH.nil
  go_simp
  refine (D8.out _ _ _ O7 Z7).mono ?_
  rintro e u8 ⟨v8, rfl, O8, t8, _⟩
  have K8 := K7.below t8 (by omega)
  have B8 := B7.trans (t8.mono (by omega))
  have Z8 := Nat.le_trans Z7 t8.size
  refine hK.out _ _ (K8) (fun _ => ?_)
  clear hK K
  (try simp only [Act.put, List.setIfInBounds_toArray, List.set_cons_zero, List.set_cons_succ])
  refine wpAnyH_ready (rs := [7]) (by kernel_rfl) (by simp) ?_
  refine AllReadyH.cons rfl (fun K hK => ?_) AllReadyH.nil
  go_simp
  refine hK.out _ _ (K8) (fun _ => ?_)
  clear hK K
  (try simp only [Act.put, List.setIfInBounds_toArray, List.set_cons_zero, List.set_cons_succ])
  refine wpAnyH_done (by kernel_rfl) ?_ _
  clear Ky2 By2 Oy2
  have HK8 := Lib.hid K8; have HHB8 := Lib.hid B8; have HO8 := Lib.hid O8
  clear K7 B7 O7 t7 K8 B8 O8 t8
  go_wp2_with fail
  refine wp_region_held_drew (S := fun u' => Blk u' w.heap.size (flatP ps)) (by kernel_rfl) (HK8.out) (fun _ => ?_)
  (try simp only [Act.put, List.setIfInBounds_toArray, List.set_cons_zero, List.set_cons_succ])
  obtain ⟨y3, hy3⟩ : ∃ y, (u8).drew = y := ⟨_, rfl⟩
  have Ky3 : Blk y3 w.heap.size (flatP ps) := by rw [← hy3]; exact HK8.out
  have By3 : Below w.heap.size w y3 := by rw [← hy3]; exact Below.drewN (n := 1) HHB8.out
  have Zy3 : w.heap.size + 1 ≤ y3.heap.size := by rw [← hy3]; exact Z8
  have Oy3 : Own y3 (w.heap.size + 1) (v8) A8 := by rw [← hy3]; exact HO8.out
  rw [hy3]
  clear hy3
  refine wpAnyH_take (i := 0) (oi := ⟨some 32, _, _, _, _, _⟩) (v := v8) rfl (by kernel_rfl) (by kernel_rfl) (by kernel_rfl) (fun _ _ _ h => h) (Or.inl ⟨by rfl, fun wz hz => ?_⟩) Ky3 ?_
  · clear hz; go_simp; first | done | with_reducible rfl | rfl
  (try simp only [Act.put, List.setIfInBounds_toArray, List.set_cons_zero, List.set_cons_succ])
  refine wpAnyH_take (i := 1) (oi := ⟨some 33, _, _, _, _, _⟩) (v := .pointer (some ⟨w.heap.size, 0, none⟩)) rfl (by kernel_rfl) (by kernel_rfl) (by kernel_rfl) (fun _ _ _ h => h) (Or.inl ⟨by rfl, fun wz hz => ?_⟩) Ky3 ?_
  · clear hz; go_simp; first | done | with_reducible rfl | rfl
  (try simp only [Act.put, List.setIfInBounds_toArray, List.set_cons_zero, List.set_cons_succ])
  refine wpAnyH_take (i := 2) (oi := ⟨some 34, _, _, _, _, _⟩) (v := .pointer (some ⟨w.heap.size, 0, none⟩)) rfl (by kernel_rfl) (by kernel_rfl) (by kernel_rfl) (fun _ _ _ h => h) (Or.inl ⟨by rfl, fun wz hz => ?_⟩) Ky3 ?_
  · clear hz; go_simp; first | done | with_reducible rfl | rfl
  (try simp only [Act.put, List.setIfInBounds_toArray, List.set_cons_zero, List.set_cons_succ])
  refine held_load 3 rfl (by kernel_rfl) (by kernel_rfl) (by kernel_rfl) (fun _ _ _ _ h => h) rfl 26 (.tmp 34) rfl w.heap.size 0 rfl (x.pj.cells) _ (fun u' hu => P0.out u' hu) Try.underlying26 rfl (hi0.out) Ky3 ?_
  (try simp only [Act.put, List.setIfInBounds_toArray, List.set_cons_zero, List.set_cons_succ])
  refine wpAnyH_take (i := 5) (oi := ⟨some 37, _, _, _, _, _⟩) (v := .pointer (some ⟨w.heap.size, 0, none⟩)) rfl (by kernel_rfl) (by kernel_rfl) (by kernel_rfl) (fun _ _ _ h => h) (Or.inl ⟨by rfl, fun wz hz => ?_⟩) Ky3 ?_
  · clear hz; go_simp; first | done | with_reducible rfl | rfl
  (try simp only [Act.put, List.setIfInBounds_toArray, List.set_cons_zero, List.set_cons_succ])
  refine wpAnyH_take (i := 6) (oi := ⟨some 38, _, _, _, _, _⟩) (v := .pointer (some ⟨w.heap.size, 33, none⟩)) rfl (by kernel_rfl) (by kernel_rfl) (by kernel_rfl) (fun _ _ _ h => h) (Or.inl ⟨by rfl, fun wz hz => ?_⟩) Ky3 ?_
  · clear hz; go_simp; first | done | with_reducible rfl | rfl
  (try simp only [Act.put, List.setIfInBounds_toArray, List.set_cons_zero, List.set_cons_succ])
  refine held_load 7 rfl (by kernel_rfl) (by kernel_rfl) (by kernel_rfl) (fun _ _ _ _ h => h) rfl 26 (.tmp 38) rfl w.heap.size 33 rfl (x.pf.cells) _ (fun u' hu => P1.out u' hu) Try.underlying26 rfl (hi1.out) Ky3 ?_
  (try simp only [Act.put, List.setIfInBounds_toArray, List.set_cons_zero, List.set_cons_succ])
  refine wpAnyH_take (i := 9) (oi := ⟨some 41, _, _, _, _, _⟩) (v := .pointer (some ⟨w.heap.size, 237, none⟩)) rfl (by kernel_rfl) (by kernel_rfl) (by kernel_rfl) (fun _ _ _ h => h) (Or.inl ⟨by rfl, fun wz hz => ?_⟩) Ky3 ?_
  · clear hz; go_simp; first | done | with_reducible rfl | rfl
  (try simp only [Act.put, List.setIfInBounds_toArray, List.set_cons_zero, List.set_cons_succ])
  refine held_load1 10 rfl (by kernel_rfl) (by kernel_rfl) (by kernel_rfl) (fun _ _ _ _ h => h) rfl 4 (.tmp 41) rfl w.heap.size 237 rfl (.bool x.t) _ (fun u' hu => P10.out u' hu) Try.underlying4 rfl Ky3 ?_
  (try simp only [Act.put, List.setIfInBounds_toArray, List.set_cons_zero, List.set_cons_succ])
  refine wpAnyH_ready (rs := [4]) (by kernel_rfl) (by simp) ?_
  refine AllReadyH.cons rfl (fun K hK => ?_) AllReadyH.nil
  go_simp
  refine (D9.out _ _ _ Oy3 Zy3).mono ?_
  rintro e u9 ⟨v9, rfl, O9, t9, _⟩
  have K9 := Ky3.below t9 (by omega)
  have B9 := By3.trans (t9.mono (by omega))
  have Z9 := Nat.le_trans Zy3 t9.size
  refine hK.out _ _ (K9) (fun _ => ?_)
  clear hK K
  (try simp only [Act.put, List.setIfInBounds_toArray, List.set_cons_zero, List.set_cons_succ])
  refine wpAnyH_ready (rs := [8]) (by kernel_rfl) (by simp) ?_
  refine AllReadyH.cons rfl (fun K hK => ?_) AllReadyH.nil
  go_simp
  refine (D10.out _ _ _ O9 Z9).mono ?_
  rintro e u10 ⟨v10, rfl, O10, t10, _⟩
  have K10 := K9.below t10 (by omega)
  have B10 := B9.trans (t10.mono (by omega))
  have Z10 := Nat.le_trans Z9 t10.size
  refine hK.out _ _ (K10) (fun _ => ?_)
  clear hK K
  (try simp only [Act.put, List.setIfInBounds_toArray, List.set_cons_zero, List.set_cons_succ])
  refine wpAnyH_ready (rs := [11]) (by kernel_rfl) (by simp) ?_
  refine AllReadyH.cons rfl (fun K hK => ?_) AllReadyH.nil
  go_simp
  refine (D11.out _ _ _ O10 Z10).mono ?_
  rintro e u11 ⟨v11, rfl, O11, t11, _⟩
  have K11 := K10.below t11 (by omega)
  have B11 := B10.trans (t11.mono (by omega))
  have Z11 := Nat.le_trans Z10 t11.size
  refine hK.out _ _ (K11) (fun _ => ?_)
  clear hK K
  (try simp only [Act.put, List.setIfInBounds_toArray, List.set_cons_zero, List.set_cons_succ])
  refine wpAnyH_ready (rs := [12]) (by kernel_rfl) (by simp) ?_
  refine AllReadyH.cons rfl (fun K hK => ?_) AllReadyH.nil
  go_simp
  refine hK.out _ _ (K11) (fun _ => ?_)
  clear hK K
  (try simp only [Act.put, List.setIfInBounds_toArray, List.set_cons_zero, List.set_cons_succ])
  refine wpAnyH_done (by kernel_rfl) ?_ _
  clear Ky3 By3 Oy3
  have HK11 := Lib.hid K11; have HHB11 := Lib.hid B11; have HO11 := Lib.hid O11
  clear K9 B9 O9 t9 K10 B10 O10 t10 K11 B11 O11 t11
  go_wp2_with fail
  go_ret
  exact ⟨v11, rfl, ⟨by rw [← HE.out]; exact HO11.out.byt (Nat.le_trans (by rw [HE.out]; exact HBLn.out) (by unfold maxLen; omega)) (by rw [HE.out]; exact HBY.out), HO11.out.new (by first | exact Nat.le_refl _ | (have := HHB11.out.size; omega))⟩, HHB11.out⟩
end

end Go.Proofs.Ytmnojgdfbhdkhaa
