/- RecordsSlashings: the reference's claim and EncodeSlashing, SameClaim, SameSlashing, the law's walk. (ONE text: a claim has at most 60 files.) -/
import Derived.Test.YtgcgjnjbhdhhgaaRcO
import Derived.Test.YtgcgjnjbhdhhgaaRcK
import Derived.Test.YtgcgjnjbhdhhgaaRcW
set_option linter.unusedVariables false
set_option linter.unusedSimpArgs false
namespace Go.Proofs.Ytgcgjnjbhdhhgaa
open Go.RowKit

theorem cl_box {x : ClD} {u : World} {b : Nat} (hx : x.ok) (h : Blk u b x.cells.toArray) :
    u.cell? ⟨b, 0, none⟩ = some (.int .u64 x.source) ∧ u.cell? ⟨b, 1, none⟩ = some (.int .u64 x.target) ∧ u.rangeAt b 2 (bytesL x.root) ∧ u.cell? ⟨b, 34, none⟩ = some x.v := by
  have h' : Blk u b (flatP x.parts) := h
  have b32 := bytesL_len hx.2.2
  exact ⟨h'.cellAt (k := 0) rfl rfl, h'.cellAt (k := 1) rfl rfl, h'.part (k := 2) rfl, h'.cellAt (k := 3) rfl (by simp [offP, ClD.parts, b32])⟩

theorem ints_lt {w : World} {v : Value} {l : List Int} (h : IntsV w v l) : ∀ a n c, v = .slice (some a) n c → 0 < n → a.block < w.heap.size := by
  intro x a c e h0
  obtain ⟨⟨_, _, _, e', _, _, hr⟩, _⟩ := h
  cases e
  cases e'
  rcases hr with hr | ⟨bb, oo, e2, hlt, _⟩
  · omega
  · cases e2; exact hlt

set_option maxRecDepth 100000 in
set_option maxHeartbeats 8000000 in
theorem rcla_any (v : Value) (bs l : List Int) (x : ClD) (w : World) (B : Nat) (h : Own w B v bs) (hB : B ≤ w.heap.size) (hx : x.good l w) (hI : ∀ u, Below B w u → IntsV u x.v l) (hlB : ∀ a n c, x.v = .slice (some a) n c → 0 < n → a.block < B) (hv : vlE l 1024 = 0) (hb : bs.length ≤ 1000000000) :
    Calls Try.prog 61 #[v, .agg x.cells.toArray] w (AppO w B v (bs ++ x.enc l)) := by
  obtain ⟨va, vl, vc, rfl⟩ := h.shape
  have hvne : some w.heap.size ≠ (Value.slice va vl vc).ownBlock := fun e => by have := (h.lt _ e.symm).2; omega
  obtain ⟨xa, xl, xc, hxv⟩ := ints_shape' hx.2.1.1
  have HBX := Lib.hid (fun u => cl_box (u := u) (b := w.heap.size) hx.1)
  rw [hxv] at HBX hI hlB
  have HII := Lib.hid hI; clear hI
  have HLB := Lib.hid hlB; clear hlB
  have HV := Lib.hid hv; clear hv
  have HO := Lib.hid h; clear h
  have l1 := uenc_len10 (n := x.source.toNat) (by have := hx.1.1; omega)
  have l2 := uenc_len10 (n := x.target.toNat) (by have := hx.1.2.1; omega)
  have l3 : x.root.length = 32 := hx.1.2.2.1
  have hll := hx.2.2
  have h32 := bytesL_len hx.1.2.2
  have HI32 : Hid ((Try.prog.info? 29).map (·.size) = some (bytesL x.root).length) := by show _ = _; rw [h32]; kernel_rfl
  have hX0 : x.cells.toArray.size = 35 := by rw [List.size_toArray]; exact ClD.len hx.1
  have HX := Lib.hid hx.1
  obtain ⟨X, hX⟩ : ∃ X, x.cells.toArray = X := ⟨_, rfl⟩
  have HBXX := Lib.hid (fun u (h : Blk u w.heap.size X) => HBX.out u (by rw [hX]; exact h))
  rw [hX] at hX0 ⊢
  clear hX HBX h32 hx
  have K0 : Blk (w.alloc (.cells X 54)).drew w.heap.size X := (Blk.new rfl).drewN (n := 1)
  have HB0 := Lib.hid ((Below.refl w.heap.size w).alloc (Nat.le_refl _) (.cells X 54))
  have HK0 := Lib.hid K0; clear K0
  go_enter Try.func61, Try.ntmps61
  go_wp2_with fail
  refine wp_region_held_drew (S := fun u' => Blk u' w.heap.size X) (by kernel_rfl) (HK0.out) (fun _ => ?_)
  (try simp only [Act.put, List.setIfInBounds_toArray, List.set_cons_zero, List.set_cons_succ])
  obtain ⟨q, hq⟩ : ∃ q, (w.alloc (.cells X 54)).drew = q := ⟨_, rfl⟩
  have hKq : Blk q w.heap.size X := by rw [← hq]; exact HK0.out
  have hBq : Below w.heap.size w q := by rw [← hq]; exact Below.drewN (n := 1) HB0.out
  have hOq : Own q B (.slice va vl vc) bs := HO.out.call hBq
  have hSz : B ≤ q.heap.size := Nat.le_trans hB hBq.size
  rw [hq]
  clear hq
  refine wpAnyH_take (i := 0) (oi := ⟨some 5, _, _, _, _, _⟩) (v := .slice va vl vc) rfl (by kernel_rfl) (by kernel_rfl) (by kernel_rfl) (fun _ _ _ h => h) (Or.inl ⟨by rfl, fun wz hz => ?_⟩) hKq ?_
  · clear hz; go_simp; first | done | with_reducible rfl | rfl
  (try simp only [Act.put, List.setIfInBounds_toArray, List.set_cons_zero, List.set_cons_succ])
  refine wpAnyH_take (i := 1) (oi := ⟨some 6, _, _, _, _, _⟩) (v := .pointer (some ⟨w.heap.size, 0, none⟩)) rfl (by kernel_rfl) (by kernel_rfl) (by kernel_rfl) (fun _ _ _ h => h) (Or.inl ⟨by rfl, fun wz hz => ?_⟩) hKq ?_
  · clear hz; go_simp; first | done | with_reducible rfl | rfl
  (try simp only [Act.put, List.setIfInBounds_toArray, List.set_cons_zero, List.set_cons_succ])
  refine held_load1 2 rfl (by kernel_rfl) (by kernel_rfl) (by kernel_rfl) (fun _ _ _ _ h => h) rfl 27 (.tmp 6) rfl w.heap.size 0 rfl (.int .u64 x.source) _ (fun u' hu => (HBXX.out u' hu).1) Try.underlying27 rfl hKq ?_
  (try simp only [Act.put, List.setIfInBounds_toArray, List.set_cons_zero, List.set_cons_succ])
  refine wpAnyH_take (i := 4) (oi := ⟨some 9, _, _, _, _, _⟩) (v := .pointer (some ⟨w.heap.size, 1, none⟩)) rfl (by kernel_rfl) (by kernel_rfl) (by kernel_rfl) (fun _ _ _ h => h) (Or.inl ⟨by rfl, fun wz hz => ?_⟩) hKq ?_
  · clear hz; go_simp; first | done | with_reducible rfl | rfl
  (try simp only [Act.put, List.setIfInBounds_toArray, List.set_cons_zero, List.set_cons_succ])
  refine held_load1 5 rfl (by kernel_rfl) (by kernel_rfl) (by kernel_rfl) (fun _ _ _ _ h => h) rfl 27 (.tmp 9) rfl w.heap.size 1 rfl (.int .u64 x.target) _ (fun u' hu => (HBXX.out u' hu).2.1) Try.underlying27 rfl hKq ?_
  (try simp only [Act.put, List.setIfInBounds_toArray, List.set_cons_zero, List.set_cons_succ])
  refine wpAnyH_take (i := 7) (oi := ⟨some 12, _, _, _, _, _⟩) (v := .pointer (some ⟨w.heap.size, 2, none⟩)) rfl (by kernel_rfl) (by kernel_rfl) (by kernel_rfl) (fun _ _ _ h => h) (Or.inl ⟨by rfl, fun wz hz => ?_⟩) hKq ?_
  · clear hz; go_simp; first | done | with_reducible rfl | rfl
  (try simp only [Act.put, List.setIfInBounds_toArray, List.set_cons_zero, List.set_cons_succ])
  refine held_load 8 rfl (by kernel_rfl) (by kernel_rfl) (by kernel_rfl) (fun _ _ _ _ h => h) rfl 29 (.tmp 12) rfl w.heap.size 2 rfl (bytesL x.root) _ (fun u' hu => (HBXX.out u' hu).2.2.1) Try.underlying29 rfl (HI32.out) hKq ?_
  (try simp only [Act.put, List.setIfInBounds_toArray, List.set_cons_zero, List.set_cons_succ])
  refine wpAnyH_take (i := 10) (oi := ⟨some 15, _, _, _, _, _⟩) (v := .pointer (some ⟨w.heap.size, 34, none⟩)) rfl (by kernel_rfl) (by kernel_rfl) (by kernel_rfl) (fun _ _ _ h => h) (Or.inl ⟨by rfl, fun wz hz => ?_⟩) hKq ?_
  · clear hz; go_simp; first | done | with_reducible rfl | rfl
  (try simp only [Act.put, List.setIfInBounds_toArray, List.set_cons_zero, List.set_cons_succ])
  refine held_load1 11 rfl (by kernel_rfl) (by kernel_rfl) (by kernel_rfl) (fun _ _ _ _ h => h) rfl 22 (.tmp 15) rfl w.heap.size 34 rfl (.slice xa xl xc) _ (fun u' hu => (HBXX.out u' hu).2.2.2) Try.underlying22 rfl hKq ?_
  (try simp only [Act.put, List.setIfInBounds_toArray, List.set_cons_zero, List.set_cons_succ])
  refine wpAnyH_ready (rs := [3]) (by kernel_rfl) (by simp) ?_
  refine AllReadyH.cons rfl (fun K hK => ?_) AllReadyH.nil
  go_simp
  refine (ruint_any _ bs x.source q B hOq hSz HX.out.1.1 HX.out.1.2 (by omega)).mono ?_
  rintro e w1 ⟨v1, rfl, o1, b1, g1⟩
  have k1 := g1.blk hKq hvne
  refine hK.out _ _ (k1) (fun _ => ?_)
  clear hK K
  (try simp only [Act.put, List.setIfInBounds_toArray, List.set_cons_zero, List.set_cons_succ])
  refine wpAnyH_ready (rs := [6]) (by kernel_rfl) (by simp) ?_
  refine AllReadyH.cons rfl (fun K hK => ?_) AllReadyH.nil
  go_simp
  refine (ruint_any _ (bs ++ uenc x.source.toNat) x.target w1 B o1 (Nat.le_trans hSz b1.size) HX.out.2.1.1 HX.out.2.1.2 (by rw [List.length_append]; omega)).mono ?_
  rintro e w2 ⟨v2, rfl, o2, b2, g2⟩
  have k2 := (g1.trans g2).blk hKq hvne; have b12 := b1.trans b2
  refine hK.out _ _ (k2) (fun _ => ?_)
  clear hK K
  (try simp only [Act.put, List.setIfInBounds_toArray, List.set_cons_zero, List.set_cons_succ])
  refine wpAnyH_ready (rs := [9]) (by kernel_rfl) (by simp) ?_
  refine AllReadyH.cons rfl (fun K hK => ?_) AllReadyH.nil
  go_simp
  refine (rroot_any _ (bs ++ uenc x.source.toNat ++ uenc x.target.toNat) x.root w2 B o2 (Nat.le_trans hSz b12.size) HX.out.2.2 (by simp only [List.length_append]; omega)).mono ?_
  rintro e w3 ⟨v3, rfl, o3, b3, g3⟩
  have k3 := ((g1.trans g2).trans g3).blk hKq hvne; have b13 := b12.trans b3
  refine hK.out _ _ (k3) (fun _ => ?_)
  clear hK K
  (try simp only [Act.put, List.setIfInBounds_toArray, List.set_cons_zero, List.set_cons_succ])
  refine wpAnyH_ready (rs := [12]) (by kernel_rfl) (by simp) ?_
  refine AllReadyH.cons rfl (fun K hK => ?_) AllReadyH.nil
  go_simp
  refine (rlst_any _ (.slice xa xl xc) (bs ++ uenc x.source.toNat ++ uenc x.target.toNat ++ x.root) l w3 B o3 (Nat.le_trans hSz b13.size) (fun u hu => HII.out u (((hBq.mono hB).trans b13).trans hu)) HLB.out HV.out (by omega) (by simp only [List.length_append]; omega)).mono ?_
  rintro e w4 ⟨v4, rfl, o4, b4, g4⟩
  have k4 := (((g1.trans g2).trans g3).trans g4).blk hKq hvne; have b14 := b13.trans b4
  refine hK.out _ _ (k4) (fun _ => ?_)
  clear hK K
  (try simp only [Act.put, List.setIfInBounds_toArray, List.set_cons_zero, List.set_cons_succ])
  refine wpAnyH_ready (rs := [13]) (by kernel_rfl) (by simp) ?_
  refine AllReadyH.cons rfl (fun K hK => ?_) AllReadyH.nil
  go_simp
  refine hK.out _ _ (k4) (fun _ => ?_)
  clear hK K
  (try simp only [Act.put, List.setIfInBounds_toArray, List.set_cons_zero, List.set_cons_succ])
  refine wpAnyH_done (by kernel_rfl) ?_ _
  go_wp2_with fail
  go_ret
  refine ⟨v4, rfl, ?_, (hBq.mono hB).trans b14, (Grew.below _ hBq).trans (((g1.trans g2).trans g3).trans g4)⟩
  have e : bs ++ x.enc l = bs ++ uenc x.source.toNat ++ uenc x.target.toNat ++ x.root ++ lenc l := by simp [ClD.enc]
  rw [e]; exact o4

set_option maxRecDepth 100000 in
set_option maxHeartbeats 8000000 in
theorem resla_any (x y : ClD) (l m : List Int) (w : World) (hx : x.good l w) (hy : y.good m w) :
    Calls Try.prog 22 #[.agg (flatP [x.cells, y.cells])] w (EncR w (vlsE [l, m]) (x.enc l ++ y.enc m)) := by
  obtain ⟨xa, xl, xc, hxv⟩ := ints_shape' hx.2.1.1
  obtain ⟨ya, yl, yc, hyv⟩ := ints_shape' hy.2.1.1
  have HBX := Lib.hid (fun u => sla_box (u := u) (w := w) hx.1 hy.1)
  rw [hxv, hyv] at HBX
  have HGX := Lib.hid (fun u (hu : Below w.heap.size w u) => (⟨hx.1, hx.2.1.below hu, hx.2.2⟩ : x.good l u))
  have HGY := Lib.hid (fun u (hu : Below w.heap.size w u) => (⟨hy.1, hy.2.1.below hu, hy.2.2⟩ : y.good m u))
  have HIXv := Lib.hid (fun u (hu : Below w.heap.size w u) => hx.2.1.below hu)
  have HIYv := Lib.hid (fun u (hu : Below w.heap.size w u) => hy.2.1.below hu)
  rw [hxv] at HIXv
  rw [hyv] at HIYv
  have HLT : Hid ((∀ a n c, x.v = .slice (some a) n c → 0 < n → a.block < w.heap.size) ∧ (∀ a n c, y.v = .slice (some a) n c → 0 < n → a.block < w.heap.size)) := ⟨ints_lt hx.2.1, ints_lt hy.2.1⟩
  have HLX := Lib.hid (fun hv => ClD.encl hx.1 (l := l) hv (by have := hx.2.2; omega))
  have HLY := Lib.hid (fun hv => ClD.encl hy.1 (l := m) hv (by have := hy.2.2; omega))
  have hll := hx.2.2
  have hlm := hy.2.2
  have hcx : x.cells.length = 35 := ClD.len hx.1
  have hcy : y.cells.length = 35 := ClD.len hy.1
  have HI1 : Hid ((Try.prog.info? 54).map (·.size) = some x.cells.length) := by show _ = _; rw [hcx]; kernel_rfl
  have HI2 : Hid ((Try.prog.info? 54).map (·.size) = some y.cells.length) := by show _ = _; rw [hcy]; kernel_rfl
  have hX0 : (flatP [x.cells, y.cells]).size = 70 := by rw [flatP_size]; simp [hcx, hcy]
  have K0X : Blk (w.alloc (.cells (flatP [x.cells, y.cells]) 56)) w.heap.size (flatP [x.cells, y.cells]) := Blk.new rfl
  obtain ⟨X, hX⟩ : ∃ X, flatP [x.cells, y.cells] = X := ⟨_, rfl⟩
  have HBXX := Lib.hid (fun u (h : Blk u w.heap.size X) => HBX.out u (by rw [hX]; exact h))
  rw [hX] at hX0 K0X ⊢
  clear hX HBX hcx hcy hx hy
  have HB0 := Lib.hid ((Below.refl w.heap.size w).alloc (Nat.le_refl _) (.cells X 56))
  have HK0 := Lib.hid K0X; clear K0X
  clear hxv hyv
  have HDV1 := Lib.hid (rvlist_any (.slice xa xl xc) l 1024 _ (HIXv.out _ HB0.out) (by omega) (by omega))
  have HDV2 := Lib.hid (fun u (hu : Below w.heap.size w u) => rvlist_any (.slice ya yl yc) m 1024 u (HIYv.out _ hu) (by omega) (by omega))
  rw [vlsE_two]
  have HVI : Hid ((vlE l 1024 = 0 → vlE l 1024 = 0) ∧ (vlE m 1024 = 0 → vlE m 1024 = 0)) := ⟨id, id⟩
  by_cases hE1 : vlE l 1024 = 0
  case neg =>
    rw [if_pos hE1]
    obtain ⟨E, hE⟩ : ∃ E, vlE l 1024 = E := ⟨_, rfl⟩
    rw [hE] at HDV1 hE1 ⊢
    clear hE HVI
    have hne : (E != 0) = true := by simpa using hE1
    go_enter Try.func22, Try.ntmps22
    go_wp2_with (first
      | ((with_reducible refine at_load (.tmp 7) ?_); refine wpList_load_1 22 (.tmp 7) rfl w.heap.size 34 (.slice xa xl xc) (HBXX.out _ HK0.out).1 rfl _ Try.underlying22 rfl rfl ?_)
      | ((with_reducible refine at_load (.tmp 14) ?_); refine wpList_load_1 22 (.tmp 14) rfl w.heap.size 69 (.slice ya yl yc) (HBXX.out _ HK1.out).2.1 rfl _ Try.underlying22 rfl rfl ?_)
      | (go_at_call 12; refine (HDV2.out _ HB1.out).mono ?_; rintro e w2 ⟨rfl, hb2⟩; have HK2 := Lib.hid (HK1.out.call hb2); have HB2 := Lib.hid (HB1.out.trans (hb2.mono HB1.out.size)); clear hb2)
      | (go_at_call 12; refine HDV1.out.mono ?_; rintro e w1 ⟨rfl, hb1⟩; have HK1 := Lib.hid (HK0.out.call hb1); have HB1 := Lib.hid (HB0.out.trans (hb1.mono HB0.out.size)); clear hb1))
    go_ret2
    exact ⟨_, rfl, by rw [if_neg hE1]; exact byt_nil _, HB1.out⟩
  rw [if_neg (by simpa using hE1)]
  by_cases hE2 : vlE m 1024 = 0
  case neg =>
    rw [hE1] at HDV1
    obtain ⟨E, hE⟩ : ∃ E, vlE m 1024 = E := ⟨_, rfl⟩
    rw [hE] at HDV2 hE2 ⊢
    clear hE HVI
    have hne : (E != 0) = true := by simpa using hE2
    go_enter Try.func22, Try.ntmps22
    go_wp2_with (first
      | ((with_reducible refine at_load (.tmp 7) ?_); refine wpList_load_1 22 (.tmp 7) rfl w.heap.size 34 (.slice xa xl xc) (HBXX.out _ HK0.out).1 rfl _ Try.underlying22 rfl rfl ?_)
      | ((with_reducible refine at_load (.tmp 14) ?_); refine wpList_load_1 22 (.tmp 14) rfl w.heap.size 69 (.slice ya yl yc) (HBXX.out _ HK1.out).2.1 rfl _ Try.underlying22 rfl rfl ?_)
      | (go_at_call 12; refine (HDV2.out _ HB1.out).mono ?_; rintro e w2 ⟨rfl, hb2⟩; have HK2 := Lib.hid (HK1.out.call hb2); have HB2 := Lib.hid (HB1.out.trans (hb2.mono HB1.out.size)); clear hb2)
      | (go_at_call 12; refine HDV1.out.mono ?_; rintro e w1 ⟨rfl, hb1⟩; have HK1 := Lib.hid (HK0.out.call hb1); have HB1 := Lib.hid (HB0.out.trans (hb1.mono HB0.out.size)); clear hb1))
    go_ret2
    exact ⟨_, rfl, by rw [if_neg hE2]; exact byt_nil _, HB2.out⟩
  have hl1 := (HLX.out hE1).1
  have hl2 := (HLY.out hE2).1
  have HV1 := Lib.hid hE1
  have HV2 := Lib.hid hE2
  rw [hE1] at HDV1
  rw [hE2] at HDV2 ⊢
  clear hE1 hE2 HVI
  go_enter Try.func22, Try.ntmps22
  go_wp2_with (first
    | ((with_reducible refine at_load (.tmp 7) ?_); refine wpList_load_1 22 (.tmp 7) rfl w.heap.size 34 (.slice xa xl xc) (HBXX.out _ HK0.out).1 rfl _ Try.underlying22 rfl rfl ?_)
    | ((with_reducible refine at_load (.tmp 14) ?_); refine wpList_load_1 22 (.tmp 14) rfl w.heap.size 69 (.slice ya yl yc) (HBXX.out _ HK1.out).2.1 rfl _ Try.underlying22 rfl rfl ?_)
    | (go_at_call 12; refine (HDV2.out _ HB1.out).mono ?_; rintro e w2 ⟨rfl, hb2⟩; have HK2 := Lib.hid (HK1.out.call hb2); have HB2 := Lib.hid (HB1.out.trans (hb2.mono HB1.out.size)); clear hb2)
    | (go_at_call 12; refine HDV1.out.mono ?_; rintro e w1 ⟨rfl, hb1⟩; have HK1 := Lib.hid (HK0.out.call hb1); have HB1 := Lib.hid (HB0.out.trans (hb1.mono HB0.out.size)); clear hb1))
  refine wp_region_held_drew (S := fun u' => Below w2.drew.heap.size w2.drew u') (by kernel_rfl) (Below.refl _ _) (fun _ => ?_)
  (try simp only [Act.put, List.setIfInBounds_toArray, List.set_cons_zero, List.set_cons_succ])
  obtain ⟨q, hq⟩ : ∃ q, w2.drew = q := ⟨_, rfl⟩
  have hKq : Blk q w.heap.size X := by rw [← hq]; exact HK2.out
  have hBq : Below w.heap.size w q := by rw [← hq]; exact Below.drewN (n := 1) HB2.out
  rw [hq]
  clear hq
  have HLD := Lib.hid (fun u (hu : Below q.heap.size q u) => HBXX.out u (hKq.call hu))
  refine wpAnyH_take (i := 0) (oi := ⟨some 20, _, _, _, _, _⟩) (v := .pointer (some ⟨w.heap.size, 0, none⟩)) rfl (by kernel_rfl) (by kernel_rfl) (by kernel_rfl) (fun _ _ _ h => h) (Or.inl ⟨by rfl, fun wz hz => ?_⟩) (Below.refl _ _) ?_
  · clear hz; go_simp; first | done | with_reducible rfl | rfl
  (try simp only [Act.put, List.setIfInBounds_toArray, List.set_cons_zero, List.set_cons_succ])
  refine held_load 1 rfl (by kernel_rfl) (by kernel_rfl) (by kernel_rfl) (fun _ _ _ _ h => h) rfl 54 (.tmp 20) rfl w.heap.size 0 rfl x.cells _ (fun u' hu => (HLD.out u' hu).2.2.1) Try.underlying54 rfl (HI1.out) (Below.refl _ _) ?_
  (try simp only [Act.put, List.setIfInBounds_toArray, List.set_cons_zero, List.set_cons_succ])
  refine wpAnyH_take (i := 3) (oi := ⟨some 23, _, _, _, _, _⟩) (v := .pointer (some ⟨w.heap.size, 35, none⟩)) rfl (by kernel_rfl) (by kernel_rfl) (by kernel_rfl) (fun _ _ _ h => h) (Or.inl ⟨by rfl, fun wz hz => ?_⟩) (Below.refl _ _) ?_
  · clear hz; go_simp; first | done | with_reducible rfl | rfl
  (try simp only [Act.put, List.setIfInBounds_toArray, List.set_cons_zero, List.set_cons_succ])
  refine held_load 4 rfl (by kernel_rfl) (by kernel_rfl) (by kernel_rfl) (fun _ _ _ _ h => h) rfl 54 (.tmp 23) rfl w.heap.size 35 rfl y.cells _ (fun u' hu => (HLD.out u' hu).2.2.2) Try.underlying54 rfl (HI2.out) (Below.refl _ _) ?_
  (try simp only [Act.put, List.setIfInBounds_toArray, List.set_cons_zero, List.set_cons_succ])
  refine wpAnyH_ready (rs := [2]) (by kernel_rfl) (by simp) ?_
  refine AllReadyH.cons rfl (fun K hK => ?_) AllReadyH.nil
  go_simp
  refine (rcla_any _ [] l x q q.heap.size (Own.nil q q.heap.size) (Nat.le_refl _) (HGX.out _ hBq) (fun u hu => (HGX.out _ (bel0 hBq hu)).2.1) (fun a n c e h0 => Nat.lt_of_lt_of_le (HLT.out.1 a n c e h0) hBq.size) HV1.out (by simp)).mono ?_
  rintro e ua ⟨va, rfl, oa, ba, _⟩
  have hla := HLX.out HV1.out
  refine hK.out _ _ (ba) (fun _ => ?_)
  clear hK K
  (try simp only [Act.put, List.setIfInBounds_toArray, List.set_cons_zero, List.set_cons_succ])
  refine wpAnyH_ready (rs := [5]) (by kernel_rfl) (by simp) ?_
  refine AllReadyH.cons rfl (fun K hK => ?_) AllReadyH.nil
  go_simp
  refine (rcla_any _ ([] ++ x.enc l) m y ua q.heap.size oa ba.size (HGY.out _ (bel0 hBq ba)) (fun u hu => (HGY.out _ (bel0 hBq (ba.trans hu))).2.1) (fun a n c e h0 => Nat.lt_of_lt_of_le (HLT.out.2 a n c e h0) hBq.size) HV2.out (by rw [List.nil_append]; omega)).mono ?_
  rintro e ub ⟨vb, rfl, ob, bb0, _⟩
  have bb := ba.trans bb0
  refine hK.out _ _ (bb) (fun _ => ?_)
  clear hK K
  (try simp only [Act.put, List.setIfInBounds_toArray, List.set_cons_zero, List.set_cons_succ])
  refine wpAnyH_ready (rs := [6]) (by kernel_rfl) (by simp) ?_
  refine AllReadyH.cons rfl (fun K hK => ?_) AllReadyH.nil
  go_simp
  refine hK.out _ _ (bb) (fun _ => ?_)
  clear hK K
  (try simp only [Act.put, List.setIfInBounds_toArray, List.set_cons_zero, List.set_cons_succ])
  refine wpAnyH_ready (rs := [7]) (by kernel_rfl) (by simp) ?_
  refine AllReadyH.cons rfl (fun K hK => ?_) AllReadyH.nil
  go_simp
  refine hK.out _ _ (bb) (fun _ => ?_)
  clear hK K
  (try simp only [Act.put, List.setIfInBounds_toArray, List.set_cons_zero, List.set_cons_succ])
  refine wpAnyH_done (by kernel_rfl) ?_ _
  go_wp2_with fail
  go_ret2
  refine ⟨vb, rfl, ?_, hBq.trans (bb.mono hBq.size)⟩
  rw [if_pos rfl]
  rw [List.nil_append] at ob
  have hlb := HLY.out HV2.out
  exact ob.byt (by rw [List.length_append]; unfold maxLen; omega) (fun z hz => by rcases List.mem_append.1 hz with hz | hz; exact hla.2 z hz; exact hlb.2 z hz)

set_option maxRecDepth 100000 in
set_option maxHeartbeats 4000000 in
theorem scl_any (s t : Int) (r : List Int) (v1 v2 : Value) (l : List Int) (w : World) (hx : (⟨s, t, r, v1⟩ : ClD).ok) (h1 : IntsV w v1 l) (h2 : IntsV w v2 l) :
    Calls Try.prog 64 #[.agg (⟨s, t, r, v1⟩ : ClD).cells.toArray, .agg (⟨s, t, r, v2⟩ : ClD).cells.toArray] w fun e w' => e = .returned (.bool true) ∧ Below w.heap.size w w' := by
  show Calls Try.prog 64 #[.agg (flatP [[.int .u64 s], [.int .u64 t], bytesL r, [v1]]), .agg (flatP [[.int .u64 s], [.int .u64 t], bytesL r, [v2]])] w fun e w' => e = .returned (.bool true) ∧ Below w.heap.size w w'
  have hr : IsBytes 32 r := hx.2.2
  clear hx
  obtain ⟨a1, n1, k1, rfl⟩ := ints_shape' h1.1
  obtain ⟨a2, n2, k2, rfl⟩ := ints_shape' h2.1
  have h32 := bytesL_len hr
  have oo : ∀ v : Value, offP [[Value.int .u64 s], [.int .u64 t], bytesL r, [v]] 0 = 0 ∧ offP [[Value.int .u64 s], [.int .u64 t], bytesL r, [v]] 1 = 1 ∧ offP [[Value.int .u64 s], [.int .u64 t], bytesL r, [v]] 2 = 2 ∧ offP [[Value.int .u64 s], [.int .u64 t], bytesL r, [v]] 3 = 34 ∧ (flatP [[Value.int .u64 s], [.int .u64 t], bytesL r, [v]]).size = 35 := fun v => ⟨rfl, rfl, rfl, by simp [offP, h32], by rw [flatP_size]; simp [h32]⟩
  have HO1 := Lib.hid (oo (.slice a1 n1 k1))
  have HO2 := Lib.hid (oo (.slice a2 n2 k2))
  clear oo
  obtain ⟨X, HX⟩ : ∃ X, Hid (flatP [[Value.int .u64 s], [.int .u64 t], bytesL r, [.slice a1 n1 k1]] = X) := ⟨_, rfl⟩
  obtain ⟨Y, HY⟩ : ∃ Y, Hid (flatP [[Value.int .u64 s], [.int .u64 t], bytesL r, [.slice a2 n2 k2]] = Y) := ⟨_, rfl⟩
  rw [HX.out, HY.out]
  have hX0 : X.size = 35 := by rw [← HX.out]; exact HO1.out.2.2.2.2
  have hY0 : Y.size = 35 := by rw [← HY.out]; exact HO2.out.2.2.2.2
  have hba := ((Below.refl w.heap.size w).alloc (Nat.le_refl _) (.cells X 54)).alloc (by simp) (.cells Y 54)
  have B1 : Hid (Blk ((w.alloc (.cells X 54)).alloc (.cells Y 54)) w.heap.size (flatP [[Value.int .u64 s], [.int .u64 t], bytesL r, [.slice a1 n1 k1]])) := ((Blk.new rfl).alloc _).to HX.out.symm
  have B2 : Hid (Blk ((w.alloc (.cells X 54)).alloc (.cells Y 54)) (w.heap.size + 1) (flatP [[Value.int .u64 s], [.int .u64 t], bytesL r, [.slice a2 n2 k2]])) := (Blk.new (by simp)).to HY.out.symm
  have DS := Lib.hid (sints_any _ _ l _ (h1.below hba) (h2.below hba))
  have HBA := Lib.hid hba; clear hba
  have E1 := eq_bytes32 hr
  have HI32 : Hid ((Try.prog.info? 29).map (·.size) = some (bytesL r).length) := by show _ = _; rw [h32]; kernel_rfl
  clear h32 h1 h2 hr
  obtain ⟨R, HR⟩ : ∃ R, bytesL r = R := ⟨_, rfl⟩
  rw [HR] at E1 HI32 B1 B2 HO1 HO2
  clear HR HX HY
  have hss : (s == s) = true := by simp
  have htt : (t == t) = true := by simp
  go_enter Try.func64, Try.ntmps64
  go_wp2_with (first
    | ((with_reducible refine at_load (.tmp 5) ?_); refine wpList_load_1 27 (.tmp 5) rfl w.heap.size 0 (.int .u64 s) (B1.out.cellAt (k := 0) rfl HO1.out.1) rfl _ Try.underlying27 rfl rfl ?_)
    | ((with_reducible refine at_load (.tmp 7) ?_); refine wpList_load_1 27 (.tmp 7) rfl (w.heap.size + 1) 0 (.int .u64 s) (B2.out.cellAt (k := 0) rfl HO2.out.1) rfl _ Try.underlying27 rfl rfl ?_)
    | ((with_reducible refine at_load (.tmp 11) ?_); refine wpList_load_1 27 (.tmp 11) rfl w.heap.size 1 (.int .u64 t) (B1.out.cellAt (k := 1) rfl HO1.out.2.1) rfl _ Try.underlying27 rfl rfl ?_)
    | ((with_reducible refine at_load (.tmp 13) ?_); refine wpList_load_1 27 (.tmp 13) rfl (w.heap.size + 1) 1 (.int .u64 t) (B2.out.cellAt (k := 1) rfl HO2.out.2.1) rfl _ Try.underlying27 rfl rfl ?_)
    | ((with_reducible refine at_load (.tmp 18) ?_); refine wpList_load_part 29 (.tmp 18) rfl w.heap.size _ 2 2 R B1.out rfl HO1.out.2.2.1 rfl _ Try.underlying29 rfl HI32.out rfl ?_)
    | ((with_reducible refine at_load (.tmp 20) ?_); refine wpList_load_part 29 (.tmp 20) rfl (w.heap.size + 1) _ 2 2 R B2.out rfl HO2.out.2.2.1 rfl _ Try.underlying29 rfl HI32.out rfl ?_)
    | ((with_reducible refine at_load (.tmp 25) ?_); refine wpList_load_1 22 (.tmp 25) rfl w.heap.size 34 (.slice a1 n1 k1) (B1.out.cellAt (k := 3) rfl HO1.out.2.2.2.1) rfl _ Try.underlying22 rfl rfl ?_)
    | ((with_reducible refine at_load (.tmp 27) ?_); refine wpList_load_1 22 (.tmp 27) rfl (w.heap.size + 1) 34 (.slice a2 n2 k2) (B2.out.cellAt (k := 3) rfl HO2.out.2.2.2.1) rfl _ Try.underlying22 rfl rfl ?_)
    | (go_at_call 59; refine DS.out.mono ?_; rintro e w1 ⟨rfl, hb1⟩; have HB1 := Lib.hid hb1; clear hb1))
  go_ret
  exact ⟨rfl, HBA.out.trans (HB1.out.mono HBA.out.size)⟩

set_option maxRecDepth 100000 in
set_option maxHeartbeats 4000000 in
theorem ssl_any (x y : ClD) (v1 v2 : Value) (l m : List Int) (w : World) (hx : x.ok) (hy : y.ok) (hxl : IntsV w x.v l) (hym : IntsV w y.v m) (h1 : IntsV w v1 l) (h2 : IntsV w v2 m) :
    Calls Try.prog 24 #[.agg (flatP [x.cells, y.cells]), .agg (flatP [(⟨x.source, x.target, x.root, v1⟩ : ClD).cells, (⟨y.source, y.target, y.root, v2⟩ : ClD).cells])] w fun e w' => e = .returned (.bool true) ∧ Below w.heap.size w w' := by
  have hx2 : (⟨x.source, x.target, x.root, v1⟩ : ClD).ok := hx
  have hy2 : (⟨y.source, y.target, y.root, v2⟩ : ClD).ok := hy
  have DX := Lib.hid (fun u (hu : Below w.heap.size w u) => scl_any x.source x.target x.root x.v v1 l u hx (hxl.below hu) (h1.below hu))
  have DY := Lib.hid (fun u (hu : Below w.heap.size w u) => scl_any y.source y.target y.root y.v v2 m u hy (hym.below hu) (h2.below hu))
  have c1 := ClD.len hx
  have c2 := ClD.len hy
  have c3 := ClD.len hx2
  have c4 := ClD.len hy2
  obtain ⟨C1, HC1⟩ : ∃ C, x.cells = C := ⟨_, rfl⟩
  obtain ⟨C2, HC2⟩ : ∃ C, y.cells = C := ⟨_, rfl⟩
  obtain ⟨C3, HC3⟩ : ∃ C, (⟨x.source, x.target, x.root, v1⟩ : ClD).cells = C := ⟨_, rfl⟩
  obtain ⟨C4, HC4⟩ : ∃ C, (⟨y.source, y.target, y.root, v2⟩ : ClD).cells = C := ⟨_, rfl⟩
  have e1 : (⟨x.source, x.target, x.root, x.v⟩ : ClD).cells = C1 := HC1
  have e2 : (⟨y.source, y.target, y.root, y.v⟩ : ClD).cells = C2 := HC2
  rw [e1, HC3] at DX
  rw [e2, HC4] at DY
  rw [HC1] at c1 ⊢
  rw [HC2] at c2 ⊢
  rw [HC3] at c3 ⊢
  rw [HC4] at c4 ⊢
  clear HC1 HC2 HC3 HC4 e1 e2 hx hy hx2 hy2 hxl hym h1 h2
  have HO : Hid (offP [C1, C2] 0 = 0 ∧ offP [C1, C2] 1 = 35 ∧ offP [C3, C4] 0 = 0 ∧ offP [C3, C4] 1 = 35) := ⟨rfl, by simp [offP, c1], rfl, by simp [offP, c3]⟩
  have hX1 : (flatP [C1, C2]).size = 70 := by rw [flatP_size]; simp [c1, c2]
  have hY1 : (flatP [C3, C4]).size = 70 := by rw [flatP_size]; simp [c3, c4]
  have HI1 : Hid ((Try.prog.info? 54).map (·.size) = some C1.length) := by show _ = _; rw [c1]; kernel_rfl
  have HI2 : Hid ((Try.prog.info? 54).map (·.size) = some C2.length) := by show _ = _; rw [c2]; kernel_rfl
  have HI3 : Hid ((Try.prog.info? 54).map (·.size) = some C3.length) := by show _ = _; rw [c3]; kernel_rfl
  have HI4 : Hid ((Try.prog.info? 54).map (·.size) = some C4.length) := by show _ = _; rw [c4]; kernel_rfl
  clear c1 c2 c3 c4
  obtain ⟨X, HX⟩ : ∃ X, Hid (flatP [C1, C2] = X) := ⟨_, rfl⟩
  obtain ⟨Y, HY⟩ : ∃ Y, Hid (flatP [C3, C4] = Y) := ⟨_, rfl⟩
  rw [HX.out] at hX1 ⊢
  rw [HY.out] at hY1 ⊢
  have hba := ((Below.refl w.heap.size w).alloc (Nat.le_refl _) (.cells X 56)).alloc (by simp) (.cells Y 56)
  have B1 : Hid (Blk ((w.alloc (.cells X 56)).alloc (.cells Y 56)) w.heap.size (flatP [C1, C2])) := ((Blk.new rfl).alloc _).to HX.out.symm
  have B2 : Hid (Blk ((w.alloc (.cells X 56)).alloc (.cells Y 56)) (w.heap.size + 1) (flatP [C3, C4])) := (Blk.new (by simp)).to HY.out.symm
  have HBA := Lib.hid hba; clear hba
  clear HX HY
  go_enter Try.func24, Try.ntmps24
  go_wp2_with (first
    | ((with_reducible refine at_load (.tmp 5) ?_); refine wpList_load_part 54 (.tmp 5) rfl w.heap.size _ 0 0 C1 B1.out rfl HO.out.1 rfl _ Try.underlying54 rfl HI1.out rfl ?_)
    | ((with_reducible refine at_load (.tmp 7) ?_); refine wpList_load_part 54 (.tmp 7) rfl (w.heap.size + 1) _ 0 0 C3 B2.out rfl HO.out.2.2.1 rfl _ Try.underlying54 rfl HI3.out rfl ?_)
    | ((with_reducible refine at_load (.tmp 11) ?_); refine wpList_load_part 54 (.tmp 11) rfl w.heap.size _ 1 35 C2 K1.out rfl HO.out.2.1 rfl _ Try.underlying54 rfl HI2.out rfl ?_)
    | ((with_reducible refine at_load (.tmp 13) ?_); refine wpList_load_part 54 (.tmp 13) rfl (w.heap.size + 1) _ 1 35 C4 K2.out rfl HO.out.2.2.2 rfl _ Try.underlying54 rfl HI4.out rfl ?_)
    | (go_at_call 64; refine (DY.out _ HB1.out).mono ?_; rintro e w2 ⟨rfl, hb2⟩; have HB2 := Lib.hid (HB1.out.trans (hb2.mono HB1.out.size)); clear hb2)
    | (go_at_call 64; refine (DX.out _ HBA.out).mono ?_; rintro e w1 ⟨rfl, hb1⟩; have K1 := Lib.hid (B1.out.call hb1); have K2 := Lib.hid (B2.out.call hb1); have HB1 := Lib.hid (HBA.out.trans (hb1.mono HBA.out.size)); clear hb1))
  go_ret
  exact ⟨rfl, HB2.out⟩

set_option maxHeartbeats 1000000 in
theorem small_s (v1 v2 : Value) (l1 l2 : List Int) (w : World) (h1 : IntsV w v1 l1) (h2 : IntsV w v2 l2) :
    Calls Try.prog 16 #[v1, v2] w fun e w' => e = .returned (.bool (decide (l1.length ≤ 300 ∧ l2.length ≤ 300))) ∧ w = w' := by
  obtain ⟨⟨a1, n1, k1, rfl, hl1, hm1, _⟩, _⟩ := h1
  obtain ⟨⟨a2, n2, k2, rfl, hl2, hm2, _⟩, _⟩ := h2
  rw [hl1, hl2]
  unfold maxLen at hm1 hm2
  clear hl1 hl2
  by_cases ha : n1 ≤ 300
  · by_cases hb : n2 ≤ 300
    · rw [decide_eq_true ⟨ha, hb⟩]
      go_enter Try.func16, Try.ntmps16
      go_wp2_with fail
      go_ret
      exact ⟨by show Ending.returned (.bool (decide ((n2 : Int) ≤ 300))) = _; rw [decide_eq_true (by omega)], rfl⟩
    · rw [decide_eq_false (fun h => hb h.2)]
      have hb' : 300 < n2 := by omega
      go_enter Try.func16, Try.ntmps16
      go_wp2_with fail
      go_ret
      exact ⟨by show Ending.returned (.bool (decide ((n2 : Int) ≤ 300))) = _; rw [decide_eq_false (by omega)], rfl⟩
  · rw [decide_eq_false (fun h => ha h.1)]
    have ha' : 300 < n1 := by omega
    go_enter Try.func16, Try.ntmps16
    go_wp2_with fail
    go_ret
    exact ⟨rfl, rfl⟩

theorem cl_back {x : ClD} {l : List Int} (hx : x.ok) (hl : vlE l 1024 = 0) (hl2 : l.length ≤ 1024) (t : List Int) :
    clS ⟨x.enc l ++ t, 0⟩ = ⟨t, 0⟩ ∧ clL ⟨x.enc l ++ t, 0⟩ = l ∧ ∀ lv, clD ⟨x.enc l ++ t, 0⟩ lv = ⟨x.source, x.target, x.root, lv⟩ := by
  have E : x.enc l ++ t = uenc x.source.toNat ++ (uenc x.target.toNat ++ (x.root ++ (lenc l ++ t))) := by simp [ClD.enc]
  rw [E]
  obtain ⟨u1, v1⟩ := U_back (m := mxU) hx.1.1 hx.1.2 (by unfold mxU; omega) (uenc x.target.toNat ++ (x.root ++ (lenc l ++ t)))
  obtain ⟨u2, v2⟩ := U_back (m := mxU) hx.2.1.1 hx.2.1.2 (by unfold mxU; omega) (x.root ++ (lenc l ++ t))
  obtain ⟨u3, v3⟩ := W_back hx.2.2.1 (lenc l ++ t)
  obtain ⟨u4, v4⟩ := ls_back hl hl2 t
  refine ⟨?_, ?_, fun lv => ?_⟩
  · unfold clS cl2; rw [v1, v2, v3, v4]
  · unfold clL cl2; rw [v1, v2, v3, u4]
  · unfold clD cl2; rw [u1, v1, u2, v2, u3]

set_option maxRecDepth 100000 in
set_option maxHeartbeats 8000000 in
theorem sla_walk (x y : ClD) (l m : List Int) (w : World) (hx : x.ok) (hy : y.ok) (hI : IntsV w x.v l) (hJ : IntsV w y.v m) :
    Calls Try.prog 6 #[.agg (flatP [x.cells, y.cells])] w fun e w' => e = .returned (.bool true) ∧ Below w.heap.size w w' := by
  obtain ⟨xa, xl, xc, hxv⟩ := ints_shape' hI.1
  obtain ⟨ya, yl, yc, hyv⟩ := ints_shape' hJ.1
  have HBX := Lib.hid (fun u => sla_box (u := u) (w := w) hx hy)
  rw [hxv, hyv] at HBX
  have hcx : x.cells.length = 35 := ClD.len hx
  have hcy : y.cells.length = 35 := ClD.len hy
  have hX0 : (flatP [x.cells, y.cells]).size = 70 := by rw [flatP_size]; simp [hcx, hcy]
  have DE := fun u hl hm (h1 : IntsV u x.v l) (h2 : IntsV u y.v m) => esla_any x y l m u ⟨hx, h1, hl⟩ ⟨hy, h2, hm⟩
  have DR := fun u hl hm (h1 : IntsV u x.v l) (h2 : IntsV u y.v m) => resla_any x y l m u ⟨hx, h1, hl⟩ ⟨hy, h2, hm⟩
  have DS := fun v1 v2 u h1 h2 h3 h4 => ssl_any x y v1 v2 l m u hx hy h1 h2 h3 h4
  obtain ⟨X, hX⟩ : ∃ X, flatP [x.cells, y.cells] = X := ⟨_, rfl⟩
  have HBXX := Lib.hid (fun u (h : Blk u w.heap.size X) => HBX.out u (by rw [hX]; exact h))
  rw [hX] at hX0 DE DR DS ⊢
  clear hX HBX hcx hcy
  have B0X : Hid (Blk (w.alloc (.cells X 56)) w.heap.size X) := Blk.new rfl
  have hba := (Below.refl w.heap.size w).alloc (Nat.le_refl _) (.cells X 56)
  have HIU := Lib.hid (fun u (hu : Below w.heap.size w u) => (⟨hI.below hu, hJ.below hu⟩ : IntsV u x.v l ∧ IntsV u y.v m))
  have DSm := small_s x.v y.v l m _ (hI.below hba) (hJ.below hba)
  rw [hxv, hyv] at DSm
  have DSm := Lib.hid DSm
  have HDE := Lib.hid DE; clear DE
  have HDR := Lib.hid DR; clear DR
  have HDS := Lib.hid DS; clear DS
  have DA := Lib.hid awake5
  have HBA := Lib.hid hba; clear hba
  have hiX : (Try.prog.info? 56).map (·.size) = some X.size := by rw [hX0]; kernel_rfl
  have HIX := Lib.hid hiX; clear hiX
  have HC := Lib.hid (⟨hx, hy⟩ : x.ok ∧ y.ok)
  clear hI hJ hx hy hxv hyv
  by_cases h300 : l.length ≤ 300 ∧ m.length ≤ 300
  case neg =>
    have hd : decide (l.length ≤ 300 ∧ m.length ≤ 300) = false := decide_eq_false h300
    rw [hd] at DSm
    clear hd
    go_enter Try.func6, Try.ntmps6
    go_wp2_with (first
      | ((with_reducible refine at_load (.tmp 11) ?_); refine wpList_load_1 22 (.tmp 11) rfl w.heap.size 34 (.slice xa xl xc) (HBXX.out _ B0X.out).1 rfl _ Try.underlying22 rfl rfl ?_)
      | ((with_reducible refine at_load (.tmp 14) ?_); refine wpList_load_1 22 (.tmp 14) rfl w.heap.size 69 (.slice ya yl yc) (HBXX.out _ B0X.out).2.1 rfl _ Try.underlying22 rfl rfl ?_)
      | (go_at_call 16; refine DSm.out.mono ?_; rintro e u0 ⟨rfl, rfl⟩)
      | (go_at_call 10; refine (DA.out _).mono ?_; rintro e u1 ⟨rfl, hb1⟩))
    go_ret
    exact ⟨rfl, HBA.out.trans (hb1.mono HBA.out.size)⟩
  have hd : decide (l.length ≤ 300 ∧ m.length ≤ 300) = true := decide_eq_true h300
  rw [hd] at DSm
  clear hd
  have D1 := Lib.hid (HDE.out _ (by omega) (by omega) (HIU.out _ HBA.out).1 (HIU.out _ HBA.out).2); clear HDE
  have D2 : Hid (∀ u, Below w.heap.size w u → _) := fun u hu => HDR.out u (by omega) (by omega) (HIU.out u hu).1 (HIU.out u hu).2
  clear HDR
  obtain ⟨ys, HYS⟩ : ∃ ys, Hid (x.enc l ++ y.enc m = ys) := ⟨_, rfl⟩
  rw [HYS.out] at D1 D2
  have HVV := Lib.hid (vlsE_two l m)
  obtain ⟨E, HE⟩ : ∃ E, Hid (vlsE [l, m] = E) := ⟨_, rfl⟩
  rw [HE.out] at D1 D2
  obtain ⟨zs, HZS⟩ : ∃ zs, Hid ((if E = 0 then ys else []) = zs) := ⟨_, rfl⟩
  unfold EncR at D1 D2
  rw [HZS.out] at D1 D2
  obtain ⟨St, HST⟩ : ∃ St, Hid (strOfNums zs = St) := ⟨_, rfl⟩
  have H300 := Lib.hid h300; clear h300
  have hEE : (E != E) = false := by simp
  by_cases hE0 : E = 0
  case neg =>
    have hne : (E != 0) = true := by simpa using hE0
    clear hE0
    go_enter Try.func6, Try.ntmps6
    go_wp2_with (first
      | ((with_reducible refine at_load (.tmp 11) ?_); refine wpList_load_1 22 (.tmp 11) rfl w.heap.size 34 (.slice xa xl xc) (HBXX.out _ B0X.out).1 rfl _ Try.underlying22 rfl rfl ?_)
      | ((with_reducible refine at_load (.tmp 14) ?_); refine wpList_load_1 22 (.tmp 14) rfl w.heap.size 69 (.slice ya yl yc) (HBXX.out _ B0X.out).2.1 rfl _ Try.underlying22 rfl rfl ?_)
      | (go_at_call 16; refine DSm.out.mono ?_; rintro e u0 ⟨rfl, rfl⟩)
      | ((with_reducible refine at_load (.tmp 1) ?_); refine wpList_load_g 56 (.tmp 1) rfl w.heap.size rfl X _ K3.out Try.underlying56 rfl HIX.out rfl ?_)
      | ((with_reducible refine at_load (.tmp 1) ?_); refine wpList_load_g 56 (.tmp 1) rfl w.heap.size rfl X _ K1.out Try.underlying56 rfl HIX.out rfl ?_)
      | ((with_reducible refine at_load (.tmp 1) ?_); refine wpList_load_g 56 (.tmp 1) rfl w.heap.size rfl X _ B0X.out Try.underlying56 rfl HIX.out rfl ?_)
      | (go_at_call 21; refine D1.out.mono ?_; rintro e w1 ⟨v1, rfl, hy1, hb1⟩; have HY1 := Lib.hid hy1; have K1 := Lib.hid (B0X.out.call hb1); have HB1 := Lib.hid (HBA.out.trans (hb1.mono HBA.out.size)); clear hy1 hb1)
      | (go_at_call 22; refine (D2.out _ HB1.out).mono ?_; rintro e w2 ⟨v2, rfl, hy2, hb2⟩; have hc1 := conv_any (HY1.out.below hb2); have hc2 := conv_any hy2; rw [HST.out] at hc1 hc2; have HY2 := Lib.hid (HY1.out.below hb2); have K2 := Lib.hid (K1.out.call hb2); have HB2 := Lib.hid (HB1.out.trans (hb2.mono HB1.out.size)); clear hy2 hb2)
      | (go_at_call 10; refine (DA.out _).mono ?_; rintro e u1 ⟨rfl, hb4⟩))
    go_ret
    exact ⟨rfl, HB2.out.trans (hb4.mono HB2.out.size)⟩
  subst hE0
  rw [if_pos rfl] at HZS
  have hvl : vlE l 1024 = 0 ∧ vlE m 1024 = 0 := by
    have h1 := HVV.out
    rw [HE.out] at h1
    by_cases h0 : vlE l 1024 = 0
    · rw [if_neg (by simpa using h0)] at h1; exact ⟨h0, h1.symm⟩
    · rw [if_pos h0] at h1; exact absurd h1.symm h0
  have hvv := HE.out
  clear HE HVV
  have b1 := cl_back HC.out.1 hvl.1 (by have := H300.out.1; omega) (y.enc m)
  have b2 := cl_back HC.out.2 hvl.2 (by have := H300.out.2; omega) []
  have n1 := (ClD.encl HC.out.1 hvl.1 (by have := H300.out.1; omega)).1
  have n2 := (ClD.encl HC.out.2 hvl.2 (by have := H300.out.2; omega)).1
  have hlen : zs.length ≤ 10340 := by rw [← HZS.out, ← HYS.out, List.length_append]; have := H300.out.1; have := H300.out.2; omega
  rw [HYS.out, HZS.out] at b1
  rw [List.append_nil] at b2
  clear n1 n2 hvl
  obtain ⟨n, HN⟩ : ∃ n, Hid (zs.length = n) := ⟨_, rfl⟩
  have D3 : Hid (∀ v u, Byt u v zs → Calls Try.prog 23 #[v] u fun en u' => ∃ p q, en = .returned (.tuple #[.agg (flatP [(⟨x.source, x.target, x.root, p⟩ : ClD).cells, (⟨y.source, y.target, y.root, q⟩ : ClD).cells]), .int .i64 n, .int .i64 0]) ∧ IntsV u' p l ∧ IntsV u' q m ∧ Below u.heap.size u u') := fun v u h => by
    refine (dsla_ok v zs u h (by omega) (by rw [b1.1, b2.1]) (by rw [b1.1, b1.2.1, b2.2.1]; exact hvv)).mono ?_
    rintro en u' ⟨p, q, he, hi, hj, hb⟩
    refine ⟨p, q, ?_, ⟨by rw [b1.2.1] at hi; exact hi, (HIU.out _ (Below.refl _ _)).1.2⟩, ⟨by rw [b1.1, b2.2.1] at hj; exact hj, (HIU.out _ (Below.refl _ _)).2.2⟩, hb⟩
    rw [he, b1.1, b2.1, b1.2.2, b2.2.2, HN.out]
    simp only [List.length_nil]
    simp
  have HLEN : Hid (∀ a l c, ∀ u, Byt u (.slice a l c) zs → l = n) := fun a l c u h => by
    obtain ⟨_, _, _, e, hl, _⟩ := h.ints
    cases e
    rw [← HN.out, hl]
  have hn1 : n ≤ 10340 := by rw [← HN.out]; exact hlen
  clear b1 b2 hlen hvv
  have hZ0 : (flatP [zCl.cells, zCl.cells]).size = 70 := rfl
  obtain ⟨Z, hZ⟩ : ∃ Z, Z = (flatP [zCl.cells, zCl.cells]) := ⟨_, rfl⟩
  rw [← hZ] at hZ0
  obtain ⟨hzz, hst⟩ := zero_array (P := Try.prog) (t := 56) (n := 70) Z (by rw [hZ]; kernel_rfl) hZ0 (by rw [hZ]; kernel_rfl)
  clear hZ
  have HSZ : Hid (∀ p q : Value, p.oneCell' = true → q.oneCell' = true → (flatP [(⟨x.source, x.target, x.root, p⟩ : ClD).cells, (⟨y.source, y.target, y.root, q⟩ : ClD).cells]).size = 70 ∧ ∀ v ∈ flatP [(⟨x.source, x.target, x.root, p⟩ : ClD).cells, (⟨y.source, y.target, y.root, q⟩ : ClD).cells], v.oneCell' = true) := fun p q hp hq => by
    have k1 : (⟨x.source, x.target, x.root, p⟩ : ClD).cells.length = 35 := ClD.len HC.out.1
    have k2 : (⟨y.source, y.target, y.root, q⟩ : ClD).cells.length = 35 := ClD.len HC.out.2
    refine ⟨by rw [flatP_size]; simp [k1, k2], flatP_one fun z hz v hv => ?_⟩
    simp only [List.mem_cons, List.not_mem_nil, or_false] at hz
    rcases hz with rfl | rfl
    · exact ClD.one _ hp v hv
    · exact ClD.one _ hq v hv
  go_enter Try.func6, Try.ntmps6
  go_wp2_with (first
    | ((with_reducible refine at_load (.tmp 11) ?_); refine wpList_load_1 22 (.tmp 11) rfl w.heap.size 34 (.slice xa xl xc) (HBXX.out _ B0X.out).1 rfl _ Try.underlying22 rfl rfl ?_)
    | ((with_reducible refine at_load (.tmp 14) ?_); refine wpList_load_1 22 (.tmp 14) rfl w.heap.size 69 (.slice ya yl yc) (HBXX.out _ B0X.out).2.1 rfl _ Try.underlying22 rfl rfl ?_)
    | (go_at_call 16; refine DSm.out.mono ?_; rintro e u0 ⟨rfl, rfl⟩)
    | ((with_reducible refine at_load (.tmp 1) ?_); refine wpList_load_g 56 (.tmp 1) rfl w.heap.size rfl X _ K3.out Try.underlying56 rfl HIX.out rfl ?_)
    | ((with_reducible refine at_load (.tmp 1) ?_); refine wpList_load_g 56 (.tmp 1) rfl w.heap.size rfl X _ K1.out Try.underlying56 rfl HIX.out rfl ?_)
    | ((with_reducible refine at_load (.tmp 1) ?_); refine wpList_load_g 56 (.tmp 1) rfl w.heap.size rfl X _ B0X.out Try.underlying56 rfl HIX.out rfl ?_)
    | (go_at_call 21; refine D1.out.mono ?_; rintro e w1 ⟨v1, rfl, hy1, hb1⟩; obtain ⟨va1, vl1, vc1, rfl⟩ := hy1.shape; obtain rfl : vl1 = n := HLEN.out _ _ _ _ hy1; have HY1 := Lib.hid hy1; have K1 := Lib.hid (B0X.out.call hb1); have HB1 := Lib.hid (HBA.out.trans (hb1.mono HBA.out.size)); clear hy1 hb1)
    | (go_at_call 22; refine (D2.out _ HB1.out).mono ?_; rintro e w2 ⟨v2, rfl, hy2, hb2⟩; have hc1 := conv_any (HY1.out.below hb2); have hc2 := conv_any hy2; rw [HST.out] at hc1 hc2; have HY2 := Lib.hid (HY1.out.below hb2); have K2 := Lib.hid (K1.out.call hb2); have HB2 := Lib.hid (HB1.out.trans (hb2.mono HB1.out.size)); clear hy2 hb2)
    | (go_at_call 23; refine (D3.out _ _ HY2.out).mono ?_; rintro e w3 ⟨p3, q3, rfl, hi3, hj3, hb3⟩; obtain ⟨pa, pl, pc, rfl⟩ := ints_shape' hi3.1; obtain ⟨qa, ql, qc, rfl⟩ := ints_shape' hj3.1; obtain ⟨Y, HYY⟩ : ∃ Y, Hid (flatP [(⟨x.source, x.target, x.root, .slice pa pl pc⟩ : ClD).cells, (⟨y.source, y.target, y.root, .slice qa ql qc⟩ : ClD).cells] = Y) := ⟨_, rfl⟩; rw [HYY.out]; have HI3 := Lib.hid hi3; have HJ3 := Lib.hid hj3; have K2' := Lib.hid (K2.out.call hb3); have HB3 := Lib.hid (HB2.out.trans (hb3.mono HB2.out.size)); clear hi3 hj3 hb3; have hY0 := (HSZ.out (.slice pa pl pc) (.slice qa ql qc) rfl rfl); rw [HYY.out] at hY0; have HY0 := Lib.hid hY0; clear hY0)
    | ((with_reducible refine at_store (.tmp 7) ?_); refine wpList_store_blk rfl 56 (.tmp 7) _ rfl w3.heap.size Y rfl rfl Z (Blk.new rfl) (by rw [hZ0, HY0.out.1]) (by rw [HY0.out.1]; kernel_rfl) HY0.out.2 ?_; intro w4 U4 B4; have hb4 : Below w3.heap.size w3 w4 := U4.below ((Below.refl _ w3).alloc (Nat.le_refl _) _) (Nat.le_refl _); have K3 := Lib.hid (K2'.out.call hb4); have HB4 := Lib.hid (HB3.out.trans (hb4.mono HB3.out.size)); have HI4 := Lib.hid (HI3.out.below hb4); have HJ4 := Lib.hid (HJ3.out.below hb4); have BY4 := Lib.hid B4; clear U4 B4 hb4)
    | ((with_reducible refine at_load (.tmp 7) ?_); refine wpList_load_g 56 (.tmp 7) rfl w3.heap.size rfl Y _ BY4.out Try.underlying56 rfl (by rw [HY0.out.1]; kernel_rfl) rfl ?_)
    | (go_at_call 24; (have hds := HDS.out (.slice pa pl pc) (.slice qa ql qc) _ (HIU.out _ HB4.out).1 (HIU.out _ HB4.out).2 HI4.out HJ4.out); rw [HYY.out] at hds; refine hds.mono ?_; rintro e w5 ⟨rfl, hb5⟩; have HB5 := Lib.hid (HB4.out.trans (hb5.mono HB4.out.size)); clear hb5 hds)
    | (go_at_call 10; refine (DA.out _).mono ?_; rintro e w6 ⟨rfl, hb6⟩; have HB6 := Lib.hid (HB5.out.trans (hb6.mono HB5.out.size)); clear hb6))
  go_ret
  exact ⟨rfl, HB6.out⟩

theorem walk_RecordsSlashings (a0 b0 : ClD) (l0 m0 : List Int) (w : World) (w0 : a0.ok) (x0 : b0.ok) (u0 : IntsV w a0.v l0) (y0 : IntsV w b0.v m0) :
    Calls Try.prog 6 #[.agg (flatP [a0.cells, b0.cells])] w fun e w' => e = .returned (.bool true) ∧ Below w.heap.size w w' :=
  sla_walk a0 b0 l0 m0 w w0 x0 u0 y0

end Go.Proofs.Ytgcgjnjbhdhhgaa
