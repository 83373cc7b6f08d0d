/- Several texts as one: ScR, ScT, ScS. -/
import Derived.Test.YtmnojgdfbhdkhaaZ6
namespace Go.Proofs.Ytmnojgdfbhdkhaa

/-! ScR -/
section
set_option linter.unusedVariables false
set_option linter.unusedSimpArgs false
open Go.RowKit

set_option maxRecDepth 1000000 in
theorem build_kind (K : Int) (w : World) : (Instr.build 48 #[(0, .int .i64 K)]).run Try.prog w = .ok (.agg (flatP ((kOp K).parts nilV nilV nilV nilV))) w := by kernel_rfl
set_option maxRecDepth 1000000 in
theorem build_zop (w : World) : (Instr.build 48 #[]).run Try.prog w = .ok (.agg (flatP ((kOp 0).parts nilV nilV nilV nilV))) w := by kernel_rfl
theorem Hid.e {a b : Int} (h : Hid (a = b)) : a = b := h.out

set_option maxRecDepth 100000 in
set_option maxHeartbeats 8000000 in
theorem next_err (v : Value) (bs : List Int) (w : World) (h : Byt w v bs) (he : (nU 8 ⟨bs, 0⟩).e ≠ 0) :
    Calls Try.prog 36 #[v] w (OpR w (nxD bs) (nxU bs : Nat) (nxE bs)) := by
  obtain ⟨KK, hK⟩ : ∃ KK, nxK bs = KK := ⟨_, rfl⟩
  have hkr : 0 ≤ KK ∧ KK ≤ 8 := by rw [← hK]; exact vU_rng (m := 8) (s := ⟨bs, 0⟩) h.rng (by omega)
  obtain ⟨va, vl, vc, rfl⟩ := h.shape
  have hby : byteL bs := h.rng
  have hblt := h.blk_lt
  have hfits := h.fits _ _ _ rfl
  have hln : bs.length = vl := by obtain ⟨_, _, _, e', hl, _⟩ := h.ints; cases e'; exact hl
  unfold maxLen at hfits
  obtain ⟨Z, hZ⟩ : ∃ Z, Hid (flatP ((kOp 0).parts nilV nilV nilV nilV) = Z) := ⟨_, rfl⟩
  have hZ0 : Hid (Z.size = 446) := by show _ = _; rw [← hZ.out]; rfl
  have HZ1 : Hid (∀ v ∈ Z, v.oneCell' = true) := by show ∀ _ ∈ _, _; rw [← hZ.out]; exact fun v hv => OpD.one (x := kOp 0) (v1 := nilV) (v2 := nilV) (v3 := nilV) (v4 := nilV) rfl rfl rfl rfl v hv
  obtain ⟨hzz, hst⟩ := zero_array (P := Try.prog) (t := 48) (n := 446) Z (by rw [← hZ.out]; exact zop_zero) hZ0.out (by rw [← hZ.out]; exact zop_one)
  have HIZ : Hid ((Try.prog.info? 48).map (·.size) = some Z.size) := by show _ = _; rw [hZ0.out]; exact info_op
  have BZ := Lib.hid build_zop
  rw [hZ.out] at BZ
  have hba := ((Below.refl w.heap.size w).alloc (Nat.le_refl _) (.cells Z 48)).alloc (by simp) (.cells #[.slice va vl vc, .int .i64 0, .int .i64 0] 103)
  have S0 : Hid (DQ (w.heap.size + 1) va vl vc bs w.heap.size Z w ((w.alloc (.cells Z 48)).alloc (.cells #[.slice va vl vc, .int .i64 0, .int .i64 0] 103)) ⟨bs, 0⟩) :=
    ⟨Rfs.mk' (p := 0) ⟨Blk.new (by simp), h.below hba, Nat.zero_le _, fun x hx h0 => by have := hblt x hx h0; omega⟩ (by simp), (Blk.new rfl).alloc _, grownBy_of_below hba, by omega, Nat.le_refl _, fun x hx h0 => by have := hblt x hx h0; omega⟩
  have HY := Lib.hid (fun u (hu : Below w.heap.size w u) => h.below hu)
  have HLN := Lib.hid hln
  clear hba h hln
  obtain ⟨s1, hs1⟩ : ∃ s1, Hid (nU 8 ⟨bs, 0⟩ = s1) := ⟨_, rfl⟩
  have D1 : Hid (∀ u, Rfs u (w.heap.size + 1) va vl vc bs ⟨bs, 0⟩ → Calls Try.prog 59 #[.pointer (some ⟨w.heap.size + 1, 0, none⟩), .int .u64 8] u (RfV u (w.heap.size + 1) va vl vc bs (.int .u64 (nxK bs)) s1)) := fun u h => by
    have := rfu_any _ va vl vc bs _ 8 u h (by omega) (by omega)
    rw [← hs1.out]; exact this
  rw [hK] at D1
  obtain ⟨PK, hPK⟩ : ∃ PK, Hid ((kOp KK).parts nilV nilV nilV nilV = PK) := ⟨_, rfl⟩
  obtain ⟨FK, hFK⟩ : ∃ FK, Hid (flatP PK = FK) := ⟨_, rfl⟩
  have BK := Lib.hid (build_kind KK)
  rw [hPK.out, hFK.out] at BK
  have hPL : Hid (PK.map List.length = [1, 238, 67, 70, 34, 34, 1, 1]) := by show _ = _; rw [← hPK.out]; rfl
  have hFK0 : Hid (FK.size = 446) := by show _ = _; rw [← hFK.out, ← hPK.out]; rfl
  have hFK1 : Hid (∀ v ∈ FK, v.oneCell' = true) := by show ∀ _ ∈ _, _; rw [← hFK.out, ← hPK.out]; exact fun v hv => OpD.one (x := kOp KK) (v1 := nilV) (v2 := nilV) (v3 := nilV) (v4 := nilV) rfl rfl rfl rfl v hv
  have HIK : Hid ((Try.prog.info? 48).map (·.size) = some FK.size) := by show _ = _; rw [hFK0.out]; exact info_op
  have HZK : Hid (Z.size = FK.size) := by show _ = _; rw [hZ0.out, hFK0.out]
  have hE : nxE bs = s1.e := by unfold nxE; rw [if_pos he, hs1.out]
  rw [hE]
  rw [hs1.out] at he
  have hne : (s1.e != 0) = true := by simpa using he
  have HE := Lib.hid he
  obtain ⟨ER, HER⟩ : ∃ ER, Hid (s1.e = ER) := ⟨_, rfl⟩
  rw [HER.out] at hne HE
  clear he hby hE hK
  go_enter Try.func36, Try.ntmps36
  go_wp2_with (first
      | ((with_reducible refine at_build (some 16) ?_); refine wpList_build rfl 48 _ rfl #[(0, .int .i64 KK)] (by simp [Act.eval, Act.put]) (.agg FK) (BK.out _) ?_)
      | ((with_reducible refine at_store (.tmp 6) ?_); refine wpList_store_blk rfl 48 (.tmp 6) _ rfl w1.heap.size FK rfl rfl Z (Blk.new rfl) HZK.out HIK.out hFK1.out ?_; intro w2 U2 B2; have S2 := Lib.hid (S1.out.start (ls := [1, 238, 67, 70, 34, 34, 1, 1]) U2 (B2.to hFK.out.symm) hPL.out); clear U2 B2; obtain ⟨p2, c0, c1, c2, c3, hp2⟩ := S2.out.q.rd.three; have ck := S2.out.cell1 (v := .int .i64 KK) 0 0 (by rw [← hPK.out]; rfl) rfl; rw [HER.out] at c2)
      | (go_at_call 59; refine (D1.out _ S0.out.rd).mono ?_; rintro e w1 ⟨rfl, hr, hg⟩; have S1 := Lib.hid (S0.out.read (s' := s1) hr hg); clear hr hg)
      | fail)
  have hx1 : w.heap.size < w1.heap.size := S1.out.rv.lt
  have hx2 : w.heap.size + 1 < w1.heap.size := S1.out.rd.lt
  obtain ⟨x, hxx⟩ : ∃ x, w2.drew = x := ⟨_, rfl⟩
  have hbx : Hid (Blk x w.heap.size Z) := by rw [← hxx]; exact S2.out.q.rv
  have hBX : Hid (Below w.heap.size w x) := by rw [← hxx]; exact Below.drewN (n := 1) (grownBy_below S2.out.q.gro (Nat.le_succ _) (Nat.le_refl _))
  have hcx : x.cell? ⟨w.heap.size + 1, 2, none⟩ = some (.int .i64 ER) := by rw [← hxx]; exact c2
  refine wp_region_held_drew (S := fun u => u.cell? ⟨w.heap.size + 1, 2, none⟩ = some (.int .i64 ER)) (by kernel_rfl) (by rw [hxx]; exact hcx) (fun _ => ?_)
  rw [hxx]
  clear hxx c0 c1 c2 c3 ck
  (try simp only [Act.put, List.setIfInBounds_toArray, List.set_cons_zero, List.set_cons_succ])
  refine held_build 0 (oi := ⟨some 22, _, _, _, _, _⟩) rfl (by kernel_rfl) (by kernel_rfl) (by kernel_rfl) (fun _ _ _ _ h => h) rfl 48 #[] rfl #[] (by simp) (.agg Z) BZ.out hcx ?_
  (try simp only [Act.put, List.setIfInBounds_toArray, List.set_cons_zero, List.set_cons_succ])
  refine wpAnyH_take (i := 1) (oi := ⟨some 23, _, _, _, _, _⟩) (v := .pointer (some ⟨w.heap.size + 1, 0, none⟩)) rfl (by kernel_rfl) (by kernel_rfl) (by kernel_rfl) (fun _ _ _ h => h) (Or.inl ⟨by rfl, fun wz hz => ?_⟩) hcx ?_
  · clear hz; go_simp; first | done | with_reducible rfl | rfl
  (try simp only [Act.put, List.setIfInBounds_toArray, List.set_cons_zero, List.set_cons_succ])
  refine wpAnyH_take (i := 2) (oi := ⟨some 24, _, _, _, _, _⟩) (v := .pointer (some ⟨w.heap.size + 1, 0, none⟩)) rfl (by kernel_rfl) (by kernel_rfl) (by kernel_rfl) (fun _ _ _ h => h) (Or.inl ⟨by rfl, fun wz hz => ?_⟩) hcx ?_
  · clear hz; go_simp; first | done | with_reducible rfl | rfl
  (try simp only [Act.put, List.setIfInBounds_toArray, List.set_cons_zero, List.set_cons_succ])
  refine wpAnyH_take (i := 3) (oi := ⟨some 25, _, _, _, _, _⟩) (v := .pointer (some ⟨w.heap.size + 1, 2, none⟩)) rfl (by kernel_rfl) (by kernel_rfl) (by kernel_rfl) (fun _ _ _ h => h) (Or.inl ⟨by rfl, fun wz hz => ?_⟩) hcx ?_
  · clear hz; go_simp; first | done | with_reducible rfl | rfl
  (try simp only [Act.put, List.setIfInBounds_toArray, List.set_cons_zero, List.set_cons_succ])
  refine held_load1 4 (oi := ⟨some 26, _, _, _, _, _⟩) rfl (by kernel_rfl) (by kernel_rfl) (by kernel_rfl) (fun _ _ _ _ h => h) rfl 52 (.tmp 25) rfl (w.heap.size + 1) 2 rfl (.int .i64 ER) _ (fun u' hu => hu) Try.underlying52 rfl hcx ?_
  (try simp only [Act.put, List.setIfInBounds_toArray, List.set_cons_zero, List.set_cons_succ])
  refine wpAnyH_ready (rs := [5]) (by kernel_rfl) (by simp) ?_
  refine AllReadyH.cons rfl (fun K hK => ?_) AllReadyH.nil
  rw [if_pos (by rfl)]
  refine wp_store_blk 48 (.tmp 2) (.tmp 22) rfl w.heap.size Z rfl rfl Z hbx.out rfl HIZ.out HZ1.out ?_
  intro w9 U9 B9
  have hc6 : w9.cell? ⟨w.heap.size + 1, 2, none⟩ = some (.int .i64 ER) := by rw [← hcx]; simp only [World.cell?, U9.block (w.heap.size + 1) (by omega)]
  refine hK.out _ _ hc6 (fun _ => ?_)
  clear hK K
  (try simp only [Act.put, List.setIfInBounds_toArray, List.set_cons_zero, List.set_cons_succ])
  refine wpAnyH_ready (rs := [6]) (by kernel_rfl) (by simp) ?_
  refine AllReadyH.cons rfl (fun K hK => ?_) AllReadyH.nil
  go_simp
  refine hK.out _ _ (hc6) (fun _ => ?_)
  clear hK K
  (try simp only [Act.put, List.setIfInBounds_toArray, List.set_cons_zero, List.set_cons_succ])
  refine wpAnyH_ready (rs := [7]) (by kernel_rfl) (by simp) ?_
  refine AllReadyH.cons rfl (fun K hK => ?_) AllReadyH.nil
  go_simp
  refine hK.out _ _ (hc6) (fun _ => ?_)
  clear hK K
  (try simp only [Act.put, List.setIfInBounds_toArray, List.set_cons_zero, List.set_cons_succ])
  refine wpAnyH_done (by kernel_rfl) ?_ _
  clear hcx hc6
  go_wp2_with fail
  refine bodyPost_ret (res_cell_tmp2 rfl rfl rfl rfl B9 Try.underlying48 rfl HIZ.out) rfl ⟨Z, _, by rw [HER.out]; rfl, hZ0.out, HZ1.out, fun h0 => absurd (HER.out ▸ h0) HE.out, U9.below hBX.out (Nat.le_refl _)⟩

set_option maxRecDepth 100000 in
set_option maxHeartbeats 16000000 in
theorem next_2 (v : Value) (bs : List Int) (w : World) (h : Byt w v bs) (hK : nxK bs = 2) (he : (nU 8 ⟨bs, 0⟩).e = 0) :
    Calls Try.prog 36 #[v] w (OpR w (nxD bs) (nxU bs : Nat) (nxE bs)) := by
  obtain ⟨va, vl, vc, rfl⟩ := h.shape
  have hby : byteL bs := h.rng
  have hblt := h.blk_lt
  have hfits := h.fits _ _ _ rfl
  have hln : bs.length = vl := by obtain ⟨_, _, _, e', hl, _⟩ := h.ints; cases e'; exact hl
  unfold maxLen at hfits
  obtain ⟨Z, hZ⟩ : ∃ Z, Hid (flatP ((kOp 0).parts nilV nilV nilV nilV) = Z) := ⟨_, rfl⟩
  have hZ0 : Hid (Z.size = 446) := by show _ = _; rw [← hZ.out]; rfl
  have HZ1 : Hid (∀ v ∈ Z, v.oneCell' = true) := by show ∀ _ ∈ _, _; rw [← hZ.out]; exact fun v hv => OpD.one (x := kOp 0) (v1 := nilV) (v2 := nilV) (v3 := nilV) (v4 := nilV) rfl rfl rfl rfl v hv
  obtain ⟨hzz, hst⟩ := zero_array (P := Try.prog) (t := 48) (n := 446) Z (by rw [← hZ.out]; exact zop_zero) hZ0.out (by rw [← hZ.out]; exact zop_one)
  have HIZ : Hid ((Try.prog.info? 48).map (·.size) = some Z.size) := by show _ = _; rw [hZ0.out]; exact info_op
  have BZ := Lib.hid build_zop
  rw [hZ.out] at BZ
  have hba := ((Below.refl w.heap.size w).alloc (Nat.le_refl _) (.cells Z 48)).alloc (by simp) (.cells #[.slice va vl vc, .int .i64 0, .int .i64 0] 103)
  have S0 : Hid (DQ (w.heap.size + 1) va vl vc bs w.heap.size Z w ((w.alloc (.cells Z 48)).alloc (.cells #[.slice va vl vc, .int .i64 0, .int .i64 0] 103)) ⟨bs, 0⟩) :=
    ⟨Rfs.mk' (p := 0) ⟨Blk.new (by simp), h.below hba, Nat.zero_le _, fun x hx h0 => by have := hblt x hx h0; omega⟩ (by simp), (Blk.new rfl).alloc _, grownBy_of_below hba, by omega, Nat.le_refl _, fun x hx h0 => by have := hblt x hx h0; omega⟩
  have HY := Lib.hid (fun u (hu : Below w.heap.size w u) => h.below hu)
  have HLN := Lib.hid hln
  clear hba h hln
  obtain ⟨s1, hs1⟩ : ∃ s1, Hid (nU 8 ⟨bs, 0⟩ = s1) := ⟨_, rfl⟩
  have D1 : Hid (∀ u, Rfs u (w.heap.size + 1) va vl vc bs ⟨bs, 0⟩ → Calls Try.prog 59 #[.pointer (some ⟨w.heap.size + 1, 0, none⟩), .int .u64 8] u (RfV u (w.heap.size + 1) va vl vc bs (.int .u64 (nxK bs)) s1)) := fun u h => by
    have := rfu_any _ va vl vc bs _ 8 u h (by omega) (by omega)
    rw [← hs1.out]; exact this
  rw [hK] at D1
  obtain ⟨PK, hPK⟩ : ∃ PK, Hid ((kOp 2).parts nilV nilV nilV nilV = PK) := ⟨_, rfl⟩
  obtain ⟨FK, hFK⟩ : ∃ FK, Hid (flatP PK = FK) := ⟨_, rfl⟩
  have BK := Lib.hid (build_kind 2)
  rw [hPK.out, hFK.out] at BK
  have hPL : Hid (PK.map List.length = [1, 238, 67, 70, 34, 34, 1, 1]) := by show _ = _; rw [← hPK.out]; rfl
  have hFK0 : Hid (FK.size = 446) := by show _ = _; rw [← hFK.out, ← hPK.out]; rfl
  have hFK1 : Hid (∀ v ∈ FK, v.oneCell' = true) := by show ∀ _ ∈ _, _; rw [← hFK.out, ← hPK.out]; exact fun v hv => OpD.one (x := kOp 2) (v1 := nilV) (v2 := nilV) (v3 := nilV) (v4 := nilV) rfl rfl rfl rfl v hv
  have HIK : Hid ((Try.prog.info? 48).map (·.size) = some FK.size) := by show _ = _; rw [hFK0.out]; exact info_op
  have HZK : Hid (Z.size = FK.size) := by show _ = _; rw [hZ0.out, hFK0.out]
  have hE : nxE bs = fE 2 (nxR bs) := by unfold nxE; rw [if_neg (by simpa using he), hK]
  have hD : nxD bs = fD 2 (nxR bs) := by unfold nxD; rw [hK]
  have hU : nxU bs = bs.length - (fS 2 (nxR bs)).r.length := by unfold nxU nxT; rw [hK]
  have hrr : nxR bs = s1.r := by unfold nxR; rw [hs1.out]
  have hse : Hid (s1.e = 0) := by show _ = _; rw [← hs1.out]; exact he
  obtain ⟨fr, hfr⟩ : ∃ fr : Nat, bs.length - s1.r.length = fr := ⟨_, rfl⟩
  obtain ⟨g1, g2, g3, g4⟩ := nU_less he
  rw [hs1.out] at g1
  have hfe : fr = (pu bs 10 0).2.1.toNat := by rw [← hfr, g1, List.length_drop]; omega
  have hR1 : nxR bs = bs.drop fr := by rw [hrr, g1, hfe]
  have hfl : fr ≤ vl := by have := HLN.out; omega
  have hFR := Lib.hid hfr
  have hFL := Lib.hid (fS_len 2 (nxR bs))
  have hrl : Hid ((nxR bs).length = vl - fr) := by show _ = _; rw [hR1, List.length_drop, HLN.out]
  rw [hE, hD]
  have HUU := Lib.hid hU
  obtain ⟨bv, hbv⟩ : ∃ bv, Hid (Value.slice (if vc = fr then va else va.map (·.add fr)) (vl - fr) (vc - fr) = bv) := ⟨_, rfl⟩
  have hDR : ∀ u, Below w.heap.size w u → Byt u bv (nxR bs) := fun u hu => by rw [hR1, ← hbv.out]; exact (HY.out u hu).drop hfl
  have hbr : byteL (nxR bs) := fun x hx => hby x (List.mem_of_mem_drop (hR1 ▸ hx))
  have HD : Hid (∀ u, Below w.heap.size w u → Calls Try.prog 60 #[bv] u (PtR 1 238 2 (nxR bs) u)) := fun u hu => (rdblk_any bv (nxR bs) u (hDR u hu)).mono (fun en u h => blk_pt hbr h)
  have HW : Hid (∀ (u : World) (L : List Value), L.length = 238 → (∀ v ∈ L, v.oneCell' = true) → (flatP (PK.set 1 L)).size = 446 ∧ ∀ v ∈ flatP (PK.set 1 L), v.oneCell' = true) := fun u L h1 h2 => by rw [← hPK.out]; exact set_shape 2 1 L (by rw [h1]; rfl) h2
  obtain ⟨E, HE⟩ : ∃ E, Hid (fE 2 (nxR bs) = E) := ⟨_, rfl⟩
  unfold PtR T3 at HD
  rw [HE.out, hPK.out] at HD
  rw [HE.out]
  clear he hby hE hK hD hU hrr g1 g2 g3 g4 hfe hfr hDR hbr hR1
  by_cases h0 : E = 0
  case neg =>
    have hne : (E != 0) = true := by simpa using h0
    have HNE := Lib.hid h0; clear h0
    go_enter Try.func36, Try.ntmps36
    go_wp2_with (first
      | ((with_reducible refine at_build (some 16) ?_); refine wpList_build rfl 48 _ rfl #[(0, .int .i64 2)] (by simp [Act.eval, Act.put]) (.agg FK) (BK.out _) ?_)
      | ((with_reducible refine at_store (.tmp 6) ?_); refine wpList_store_blk rfl 48 (.tmp 6) _ rfl w1.heap.size FK rfl rfl Z (Blk.new rfl) HZK.out HIK.out hFK1.out ?_; intro w2 U2 B2; have S2 := Lib.hid (S1.out.start (ls := [1, 238, 67, 70, 34, 34, 1, 1]) U2 (B2.to hFK.out.symm) hPL.out); clear U2 B2; obtain ⟨p2, c0, c1, c2, c3, hp2⟩ := S2.out.q.rd.three; have ck := S2.out.cell1 (v := .int .i64 2) 0 0 (by rw [← hPK.out]; rfl) rfl; rw [hse.out] at c2; rw [hp2, hFR.out] at c1; clear hp2)
      | (go_at_call 59; refine (D1.out _ S0.out.rd).mono ?_; rintro e w1 ⟨rfl, hr, hg⟩; have S1 := Lib.hid (S0.out.read (s' := s1) hr hg); clear hr hg)
      | ((with_reducible refine at_slice (some 40) ?_); refine wpList_slice_l rfl (.tmp 38) (.tmp 39) rfl va vl vc fr rfl rfl hfl bv hbv.out ?_)
      | (go_at_call 60; refine (HD.out w2 (grownBy_below S2.out.q.gro (Nat.le_succ _) (Nat.le_refl _))).mono ?_; rintro e w3 ⟨L, n, rfl, hL0, hL1, hS, hb3⟩; obtain ⟨q1, q2⟩ := HW.out w3 L hL0 hL1; obtain ⟨F, hF⟩ : ∃ F, Hid (flatP (PK.set 1 L) = F) := ⟨_, rfl⟩; rw [hF.out] at q1 q2; have HF1 := Lib.hid q2; have HF0 := Lib.hid q1; have HIF : Hid ((Try.prog.info? 48).map (·.size) = some F.size) := (by show _ = _; rw [q1]; exact info_op); have HL0 := Lib.hid hL0; have HL1 := Lib.hid hL1; have HS := Lib.hid hS; have S3 := Lib.hid (S2.out.below hb3); have HN3 := Lib.hid (Nat.le_trans (grownBy_below S2.out.q.gro (Nat.le_succ _) (Nat.le_refl _)).size (Nat.le_refl _)); clear hL1 hS hb3 q1 q2 hL0 c0 c1 c2 c3 ck; obtain ⟨LA, hLA⟩ : ∃ LA, Hid (L.toArray = LA) := ⟨_, rfl⟩; rw [hLA.out])
      | ((with_reducible refine at_store (.tmp 45) ?_); refine wpList_store_dr rfl 32 (.tmp 45) _ rfl S3.out 1 _ L (by rw [HL0.out]; rfl) rfl rfl (by rw [hLA.out]; rfl) (by rw [HL0.out]; kernel_rfl) HL1.out ?_; intro w4 U4 S4'; have S4 := Lib.hid S4'; have HU4 := Lib.hid U4; have XB := Lib.hid ((show Blk w4 w1.heap.size (flatP (PK.set 1 L)) from S4'.xv).to hF.out); have HZF : Hid (Z.size = F.size) := (by show _ = _; rw [hZ0.out, HF0.out]); clear S4' U4)
      | ((with_reducible refine at_build (some 112) ?_); refine wpList_build rfl 48 _ rfl #[] (by simp) (.agg Z) (BZ.out _) ?_)
      | ((with_reducible refine at_store (.tmp 2) ?_); refine wpList_store_blk rfl 48 (.tmp 2) _ rfl w.heap.size Z rfl rfl Z S4.out.q.rv rfl HIZ.out HZ1.out ?_; intro w9 U9 B9))
    refine bodyPost_ret (res_cell_tmp2 rfl rfl rfl rfl B9 Try.underlying48 rfl HIZ.out) rfl ⟨Z, _, rfl, hZ0.out, HZ1.out, fun h0 => absurd h0 HNE.out, U9.below (grownBy_below S4.out.q.gro (Nat.le_succ _) (Nat.le_refl _)) (Nat.le_refl _)⟩
  case pos =>
    subst h0
    go_enter Try.func36, Try.ntmps36
    go_wp2_with (first
      | ((with_reducible refine at_build (some 16) ?_); refine wpList_build rfl 48 _ rfl #[(0, .int .i64 2)] (by simp [Act.eval, Act.put]) (.agg FK) (BK.out _) ?_)
      | ((with_reducible refine at_store (.tmp 6) ?_); refine wpList_store_blk rfl 48 (.tmp 6) _ rfl w1.heap.size FK rfl rfl Z (Blk.new rfl) HZK.out HIK.out hFK1.out ?_; intro w2 U2 B2; have S2 := Lib.hid (S1.out.start (ls := [1, 238, 67, 70, 34, 34, 1, 1]) U2 (B2.to hFK.out.symm) hPL.out); clear U2 B2; obtain ⟨p2, c0, c1, c2, c3, hp2⟩ := S2.out.q.rd.three; have ck := S2.out.cell1 (v := .int .i64 2) 0 0 (by rw [← hPK.out]; rfl) rfl; rw [hse.out] at c2; rw [hp2, hFR.out] at c1; clear hp2)
      | (go_at_call 59; refine (D1.out _ S0.out.rd).mono ?_; rintro e w1 ⟨rfl, hr, hg⟩; have S1 := Lib.hid (S0.out.read (s' := s1) hr hg); clear hr hg)
      | ((with_reducible refine at_slice (some 40) ?_); refine wpList_slice_l rfl (.tmp 38) (.tmp 39) rfl va vl vc fr rfl rfl hfl bv hbv.out ?_)
      | (go_at_call 60; refine (HD.out w2 (grownBy_below S2.out.q.gro (Nat.le_succ _) (Nat.le_refl _))).mono ?_; rintro e w3 ⟨L, n, rfl, hL0, hL1, hS, hb3⟩; obtain ⟨q1, q2⟩ := HW.out w3 L hL0 hL1; obtain ⟨F, hF⟩ : ∃ F, Hid (flatP (PK.set 1 L) = F) := ⟨_, rfl⟩; rw [hF.out] at q1 q2; have HF1 := Lib.hid q2; have HF0 := Lib.hid q1; have HIF : Hid ((Try.prog.info? 48).map (·.size) = some F.size) := (by show _ = _; rw [q1]; exact info_op); have HL0 := Lib.hid hL0; have HL1 := Lib.hid hL1; have HS := Lib.hid hS; have S3 := Lib.hid (S2.out.below hb3); have HN3 := Lib.hid (Nat.le_trans (grownBy_below S2.out.q.gro (Nat.le_succ _) (Nat.le_refl _)).size (Nat.le_refl _)); clear hL1 hS hb3 q1 q2 hL0 c0 c1 c2 c3 ck; obtain ⟨LA, hLA⟩ : ∃ LA, Hid (L.toArray = LA) := ⟨_, rfl⟩; rw [hLA.out])
      | ((with_reducible refine at_store (.tmp 45) ?_); refine wpList_store_dr rfl 32 (.tmp 45) _ rfl S3.out 1 _ L (by rw [HL0.out]; rfl) rfl rfl (by rw [hLA.out]; rfl) (by rw [HL0.out]; kernel_rfl) HL1.out ?_; intro w4 U4 S4'; have S4 := Lib.hid S4'; have HU4 := Lib.hid U4; have XB := Lib.hid ((show Blk w4 w1.heap.size (flatP (PK.set 1 L)) from S4'.xv).to hF.out); have HZF : Hid (Z.size = F.size) := (by show _ = _; rw [hZ0.out, HF0.out]); clear S4' U4)
      | ((with_reducible refine at_load (.tmp 6) ?_); refine wpList_load_g 48 (.tmp 6) rfl w1.heap.size rfl F _ XB.out Try.underlying48 rfl HIF.out rfl ?_)
      | ((with_reducible refine at_store (.tmp 2) ?_); refine wpList_store_blk rfl 48 (.tmp 2) _ rfl w.heap.size F rfl rfl Z S4.out.q.rv HZF.out HIF.out HF1.out ?_; intro w9 U9 B9))
    refine bodyPost_ret (res_cell_tmp2 rfl rfl rfl rfl B9 Try.underlying48 rfl HIF.out) rfl ⟨F, _, rfl, HF0.out, HF1.out, fun h0 => ?_, U9.below (grownBy_below S4.out.q.gro (Nat.le_succ _) (Nat.le_refl _)) (Nat.le_refl _)⟩
    obtain ⟨k1, k2⟩ := HS.out (by trivial)
    subst k1
    have hz1 : w1.heap.size < w2.heap.size := S2.out.xv.lt
    have hz2 : w.heap.size < w2.heap.size := S2.out.q.rv.lt
    refine ⟨?_, ?_⟩
    · rw [HUU.out]; have := hFL.out; have := hrl.out; have := HLN.out; unfold wrap64; omega
    · rw [hF.out] at k2
      exact ((k2.grown HU4.out.gb (fun g y e hy => by cases e; exact hy.off hz1)).grown U9.gb (fun g y e hy => by cases e; exact hy.off hz2)).mono fun y hy => hy.mono (Nat.le_of_lt hz2)

set_option maxRecDepth 100000 in
set_option maxHeartbeats 16000000 in
theorem next_3 (v : Value) (bs : List Int) (w : World) (h : Byt w v bs) (hK : nxK bs = 3) (he : (nU 8 ⟨bs, 0⟩).e = 0) :
    Calls Try.prog 36 #[v] w (OpR w (nxD bs) (nxU bs : Nat) (nxE bs)) := by
  obtain ⟨va, vl, vc, rfl⟩ := h.shape
  have hby : byteL bs := h.rng
  have hblt := h.blk_lt
  have hfits := h.fits _ _ _ rfl
  have hln : bs.length = vl := by obtain ⟨_, _, _, e', hl, _⟩ := h.ints; cases e'; exact hl
  unfold maxLen at hfits
  obtain ⟨Z, hZ⟩ : ∃ Z, Hid (flatP ((kOp 0).parts nilV nilV nilV nilV) = Z) := ⟨_, rfl⟩
  have hZ0 : Hid (Z.size = 446) := by show _ = _; rw [← hZ.out]; rfl
  have HZ1 : Hid (∀ v ∈ Z, v.oneCell' = true) := by show ∀ _ ∈ _, _; rw [← hZ.out]; exact fun v hv => OpD.one (x := kOp 0) (v1 := nilV) (v2 := nilV) (v3 := nilV) (v4 := nilV) rfl rfl rfl rfl v hv
  obtain ⟨hzz, hst⟩ := zero_array (P := Try.prog) (t := 48) (n := 446) Z (by rw [← hZ.out]; exact zop_zero) hZ0.out (by rw [← hZ.out]; exact zop_one)
  have HIZ : Hid ((Try.prog.info? 48).map (·.size) = some Z.size) := by show _ = _; rw [hZ0.out]; exact info_op
  have BZ := Lib.hid build_zop
  rw [hZ.out] at BZ
  have hba := ((Below.refl w.heap.size w).alloc (Nat.le_refl _) (.cells Z 48)).alloc (by simp) (.cells #[.slice va vl vc, .int .i64 0, .int .i64 0] 103)
  have S0 : Hid (DQ (w.heap.size + 1) va vl vc bs w.heap.size Z w ((w.alloc (.cells Z 48)).alloc (.cells #[.slice va vl vc, .int .i64 0, .int .i64 0] 103)) ⟨bs, 0⟩) :=
    ⟨Rfs.mk' (p := 0) ⟨Blk.new (by simp), h.below hba, Nat.zero_le _, fun x hx h0 => by have := hblt x hx h0; omega⟩ (by simp), (Blk.new rfl).alloc _, grownBy_of_below hba, by omega, Nat.le_refl _, fun x hx h0 => by have := hblt x hx h0; omega⟩
  have HY := Lib.hid (fun u (hu : Below w.heap.size w u) => h.below hu)
  have HLN := Lib.hid hln
  clear hba h hln
  obtain ⟨s1, hs1⟩ : ∃ s1, Hid (nU 8 ⟨bs, 0⟩ = s1) := ⟨_, rfl⟩
  have D1 : Hid (∀ u, Rfs u (w.heap.size + 1) va vl vc bs ⟨bs, 0⟩ → Calls Try.prog 59 #[.pointer (some ⟨w.heap.size + 1, 0, none⟩), .int .u64 8] u (RfV u (w.heap.size + 1) va vl vc bs (.int .u64 (nxK bs)) s1)) := fun u h => by
    have := rfu_any _ va vl vc bs _ 8 u h (by omega) (by omega)
    rw [← hs1.out]; exact this
  rw [hK] at D1
  obtain ⟨PK, hPK⟩ : ∃ PK, Hid ((kOp 3).parts nilV nilV nilV nilV = PK) := ⟨_, rfl⟩
  obtain ⟨FK, hFK⟩ : ∃ FK, Hid (flatP PK = FK) := ⟨_, rfl⟩
  have BK := Lib.hid (build_kind 3)
  rw [hPK.out, hFK.out] at BK
  have hPL : Hid (PK.map List.length = [1, 238, 67, 70, 34, 34, 1, 1]) := by show _ = _; rw [← hPK.out]; rfl
  have hFK0 : Hid (FK.size = 446) := by show _ = _; rw [← hFK.out, ← hPK.out]; rfl
  have hFK1 : Hid (∀ v ∈ FK, v.oneCell' = true) := by show ∀ _ ∈ _, _; rw [← hFK.out, ← hPK.out]; exact fun v hv => OpD.one (x := kOp 3) (v1 := nilV) (v2 := nilV) (v3 := nilV) (v4 := nilV) rfl rfl rfl rfl v hv
  have HIK : Hid ((Try.prog.info? 48).map (·.size) = some FK.size) := by show _ = _; rw [hFK0.out]; exact info_op
  have HZK : Hid (Z.size = FK.size) := by show _ = _; rw [hZ0.out, hFK0.out]
  have hE : nxE bs = fE 3 (nxR bs) := by unfold nxE; rw [if_neg (by simpa using he), hK]
  have hD : nxD bs = fD 3 (nxR bs) := by unfold nxD; rw [hK]
  have hU : nxU bs = bs.length - (fS 3 (nxR bs)).r.length := by unfold nxU nxT; rw [hK]
  have hrr : nxR bs = s1.r := by unfold nxR; rw [hs1.out]
  have hse : Hid (s1.e = 0) := by show _ = _; rw [← hs1.out]; exact he
  obtain ⟨fr, hfr⟩ : ∃ fr : Nat, bs.length - s1.r.length = fr := ⟨_, rfl⟩
  obtain ⟨g1, g2, g3, g4⟩ := nU_less he
  rw [hs1.out] at g1
  have hfe : fr = (pu bs 10 0).2.1.toNat := by rw [← hfr, g1, List.length_drop]; omega
  have hR1 : nxR bs = bs.drop fr := by rw [hrr, g1, hfe]
  have hfl : fr ≤ vl := by have := HLN.out; omega
  have hFR := Lib.hid hfr
  have hFL := Lib.hid (fS_len 3 (nxR bs))
  have hrl : Hid ((nxR bs).length = vl - fr) := by show _ = _; rw [hR1, List.length_drop, HLN.out]
  rw [hE, hD]
  have HUU := Lib.hid hU
  obtain ⟨bv, hbv⟩ : ∃ bv, Hid (Value.slice (if vc = fr then va else va.map (·.add fr)) (vl - fr) (vc - fr) = bv) := ⟨_, rfl⟩
  have hDR : ∀ u, Below w.heap.size w u → Byt u bv (nxR bs) := fun u hu => by rw [hR1, ← hbv.out]; exact (HY.out u hu).drop hfl
  have hbr : byteL (nxR bs) := fun x hx => hby x (List.mem_of_mem_drop (hR1 ▸ hx))
  have HD : Hid (∀ u, Below w.heap.size w u → Calls Try.prog 61 #[bv] u (PtR 2 67 3 (nxR bs) u)) := fun u hu => (rdatt_any bv (nxR bs) u (hDR u hu)).mono (fun en u h => att_ptF hbr h)
  have HW : Hid (∀ (u : World) (L : List Value), L.length = 67 → (∀ v ∈ L, v.oneCell' = true) → (flatP (PK.set 2 L)).size = 446 ∧ ∀ v ∈ flatP (PK.set 2 L), v.oneCell' = true) := fun u L h1 h2 => by rw [← hPK.out]; exact set_shape 3 2 L (by rw [h1]; rfl) h2
  obtain ⟨E, HE⟩ : ∃ E, Hid (fE 3 (nxR bs) = E) := ⟨_, rfl⟩
  unfold PtR T3 at HD
  rw [HE.out, hPK.out] at HD
  rw [HE.out]
  clear he hby hE hK hD hU hrr g1 g2 g3 g4 hfe hfr hDR hbr hR1
  by_cases h0 : E = 0
  case neg =>
    have hne : (E != 0) = true := by simpa using h0
    have HNE := Lib.hid h0; clear h0
    go_enter Try.func36, Try.ntmps36
    go_wp2_with (first
      | ((with_reducible refine at_build (some 16) ?_); refine wpList_build rfl 48 _ rfl #[(0, .int .i64 3)] (by simp [Act.eval, Act.put]) (.agg FK) (BK.out _) ?_)
      | ((with_reducible refine at_store (.tmp 6) ?_); refine wpList_store_blk rfl 48 (.tmp 6) _ rfl w1.heap.size FK rfl rfl Z (Blk.new rfl) HZK.out HIK.out hFK1.out ?_; intro w2 U2 B2; have S2 := Lib.hid (S1.out.start (ls := [1, 238, 67, 70, 34, 34, 1, 1]) U2 (B2.to hFK.out.symm) hPL.out); clear U2 B2; obtain ⟨p2, c0, c1, c2, c3, hp2⟩ := S2.out.q.rd.three; have ck := S2.out.cell1 (v := .int .i64 3) 0 0 (by rw [← hPK.out]; rfl) rfl; rw [hse.out] at c2; rw [hp2, hFR.out] at c1; clear hp2)
      | (go_at_call 59; refine (D1.out _ S0.out.rd).mono ?_; rintro e w1 ⟨rfl, hr, hg⟩; have S1 := Lib.hid (S0.out.read (s' := s1) hr hg); clear hr hg)
      | ((with_reducible refine at_slice (some 51) ?_); refine wpList_slice_l rfl (.tmp 49) (.tmp 50) rfl va vl vc fr rfl rfl hfl bv hbv.out ?_)
      | (go_at_call 61; refine (HD.out w2 (grownBy_below S2.out.q.gro (Nat.le_succ _) (Nat.le_refl _))).mono ?_; rintro e w3 ⟨L, n, rfl, hL0, hL1, hS, hb3⟩; obtain ⟨q1, q2⟩ := HW.out w3 L hL0 hL1; obtain ⟨F, hF⟩ : ∃ F, Hid (flatP (PK.set 2 L) = F) := ⟨_, rfl⟩; rw [hF.out] at q1 q2; have HF1 := Lib.hid q2; have HF0 := Lib.hid q1; have HIF : Hid ((Try.prog.info? 48).map (·.size) = some F.size) := (by show _ = _; rw [q1]; exact info_op); have HL0 := Lib.hid hL0; have HL1 := Lib.hid hL1; have HS := Lib.hid hS; have S3 := Lib.hid (S2.out.below hb3); have HN3 := Lib.hid (Nat.le_trans (grownBy_below S2.out.q.gro (Nat.le_succ _) (Nat.le_refl _)).size (Nat.le_refl _)); clear hL1 hS hb3 q1 q2 hL0 c0 c1 c2 c3 ck; obtain ⟨LA, hLA⟩ : ∃ LA, Hid (L.toArray = LA) := ⟨_, rfl⟩; rw [hLA.out])
      | ((with_reducible refine at_store (.tmp 56) ?_); refine wpList_store_dr rfl 35 (.tmp 56) _ rfl S3.out 2 _ L (by rw [HL0.out]; rfl) rfl rfl (by rw [hLA.out]; rfl) (by rw [HL0.out]; kernel_rfl) HL1.out ?_; intro w4 U4 S4'; have S4 := Lib.hid S4'; have HU4 := Lib.hid U4; have XB := Lib.hid ((show Blk w4 w1.heap.size (flatP (PK.set 2 L)) from S4'.xv).to hF.out); have HZF : Hid (Z.size = F.size) := (by show _ = _; rw [hZ0.out, HF0.out]); clear S4' U4)
      | ((with_reducible refine at_build (some 112) ?_); refine wpList_build rfl 48 _ rfl #[] (by simp) (.agg Z) (BZ.out _) ?_)
      | ((with_reducible refine at_store (.tmp 2) ?_); refine wpList_store_blk rfl 48 (.tmp 2) _ rfl w.heap.size Z rfl rfl Z S4.out.q.rv rfl HIZ.out HZ1.out ?_; intro w9 U9 B9))
    refine bodyPost_ret (res_cell_tmp2 rfl rfl rfl rfl B9 Try.underlying48 rfl HIZ.out) rfl ⟨Z, _, rfl, hZ0.out, HZ1.out, fun h0 => absurd h0 HNE.out, U9.below (grownBy_below S4.out.q.gro (Nat.le_succ _) (Nat.le_refl _)) (Nat.le_refl _)⟩
  case pos =>
    subst h0
    go_enter Try.func36, Try.ntmps36
    go_wp2_with (first
      | ((with_reducible refine at_build (some 16) ?_); refine wpList_build rfl 48 _ rfl #[(0, .int .i64 3)] (by simp [Act.eval, Act.put]) (.agg FK) (BK.out _) ?_)
      | ((with_reducible refine at_store (.tmp 6) ?_); refine wpList_store_blk rfl 48 (.tmp 6) _ rfl w1.heap.size FK rfl rfl Z (Blk.new rfl) HZK.out HIK.out hFK1.out ?_; intro w2 U2 B2; have S2 := Lib.hid (S1.out.start (ls := [1, 238, 67, 70, 34, 34, 1, 1]) U2 (B2.to hFK.out.symm) hPL.out); clear U2 B2; obtain ⟨p2, c0, c1, c2, c3, hp2⟩ := S2.out.q.rd.three; have ck := S2.out.cell1 (v := .int .i64 3) 0 0 (by rw [← hPK.out]; rfl) rfl; rw [hse.out] at c2; rw [hp2, hFR.out] at c1; clear hp2)
      | (go_at_call 59; refine (D1.out _ S0.out.rd).mono ?_; rintro e w1 ⟨rfl, hr, hg⟩; have S1 := Lib.hid (S0.out.read (s' := s1) hr hg); clear hr hg)
      | ((with_reducible refine at_slice (some 51) ?_); refine wpList_slice_l rfl (.tmp 49) (.tmp 50) rfl va vl vc fr rfl rfl hfl bv hbv.out ?_)
      | (go_at_call 61; refine (HD.out w2 (grownBy_below S2.out.q.gro (Nat.le_succ _) (Nat.le_refl _))).mono ?_; rintro e w3 ⟨L, n, rfl, hL0, hL1, hS, hb3⟩; obtain ⟨q1, q2⟩ := HW.out w3 L hL0 hL1; obtain ⟨F, hF⟩ : ∃ F, Hid (flatP (PK.set 2 L) = F) := ⟨_, rfl⟩; rw [hF.out] at q1 q2; have HF1 := Lib.hid q2; have HF0 := Lib.hid q1; have HIF : Hid ((Try.prog.info? 48).map (·.size) = some F.size) := (by show _ = _; rw [q1]; exact info_op); have HL0 := Lib.hid hL0; have HL1 := Lib.hid hL1; have HS := Lib.hid hS; have S3 := Lib.hid (S2.out.below hb3); have HN3 := Lib.hid (Nat.le_trans (grownBy_below S2.out.q.gro (Nat.le_succ _) (Nat.le_refl _)).size (Nat.le_refl _)); clear hL1 hS hb3 q1 q2 hL0 c0 c1 c2 c3 ck; obtain ⟨LA, hLA⟩ : ∃ LA, Hid (L.toArray = LA) := ⟨_, rfl⟩; rw [hLA.out])
      | ((with_reducible refine at_store (.tmp 56) ?_); refine wpList_store_dr rfl 35 (.tmp 56) _ rfl S3.out 2 _ L (by rw [HL0.out]; rfl) rfl rfl (by rw [hLA.out]; rfl) (by rw [HL0.out]; kernel_rfl) HL1.out ?_; intro w4 U4 S4'; have S4 := Lib.hid S4'; have HU4 := Lib.hid U4; have XB := Lib.hid ((show Blk w4 w1.heap.size (flatP (PK.set 2 L)) from S4'.xv).to hF.out); have HZF : Hid (Z.size = F.size) := (by show _ = _; rw [hZ0.out, HF0.out]); clear S4' U4)
      | ((with_reducible refine at_load (.tmp 6) ?_); refine wpList_load_g 48 (.tmp 6) rfl w1.heap.size rfl F _ XB.out Try.underlying48 rfl HIF.out rfl ?_)
      | ((with_reducible refine at_store (.tmp 2) ?_); refine wpList_store_blk rfl 48 (.tmp 2) _ rfl w.heap.size F rfl rfl Z S4.out.q.rv HZF.out HIF.out HF1.out ?_; intro w9 U9 B9))
    refine bodyPost_ret (res_cell_tmp2 rfl rfl rfl rfl B9 Try.underlying48 rfl HIF.out) rfl ⟨F, _, rfl, HF0.out, HF1.out, fun h0 => ?_, U9.below (grownBy_below S4.out.q.gro (Nat.le_succ _) (Nat.le_refl _)) (Nat.le_refl _)⟩
    obtain ⟨k1, k2⟩ := HS.out (by trivial)
    subst k1
    have hz1 : w1.heap.size < w2.heap.size := S2.out.xv.lt
    have hz2 : w.heap.size < w2.heap.size := S2.out.q.rv.lt
    refine ⟨?_, ?_⟩
    · rw [HUU.out]; have := hFL.out; have := hrl.out; have := HLN.out; unfold wrap64; omega
    · rw [hF.out] at k2
      exact ((k2.grown HU4.out.gb (fun g y e hy => by cases e; exact hy.off hz1)).grown U9.gb (fun g y e hy => by cases e; exact hy.off hz2)).mono fun y hy => hy.mono (Nat.le_of_lt hz2)

set_option maxRecDepth 100000 in
set_option maxHeartbeats 16000000 in
theorem next_4 (v : Value) (bs : List Int) (w : World) (h : Byt w v bs) (hK : nxK bs = 4) (he : (nU 8 ⟨bs, 0⟩).e = 0) :
    Calls Try.prog 36 #[v] w (OpR w (nxD bs) (nxU bs : Nat) (nxE bs)) := by
  obtain ⟨va, vl, vc, rfl⟩ := h.shape
  have hby : byteL bs := h.rng
  have hblt := h.blk_lt
  have hfits := h.fits _ _ _ rfl
  have hln : bs.length = vl := by obtain ⟨_, _, _, e', hl, _⟩ := h.ints; cases e'; exact hl
  unfold maxLen at hfits
  obtain ⟨Z, hZ⟩ : ∃ Z, Hid (flatP ((kOp 0).parts nilV nilV nilV nilV) = Z) := ⟨_, rfl⟩
  have hZ0 : Hid (Z.size = 446) := by show _ = _; rw [← hZ.out]; rfl
  have HZ1 : Hid (∀ v ∈ Z, v.oneCell' = true) := by show ∀ _ ∈ _, _; rw [← hZ.out]; exact fun v hv => OpD.one (x := kOp 0) (v1 := nilV) (v2 := nilV) (v3 := nilV) (v4 := nilV) rfl rfl rfl rfl v hv
  obtain ⟨hzz, hst⟩ := zero_array (P := Try.prog) (t := 48) (n := 446) Z (by rw [← hZ.out]; exact zop_zero) hZ0.out (by rw [← hZ.out]; exact zop_one)
  have HIZ : Hid ((Try.prog.info? 48).map (·.size) = some Z.size) := by show _ = _; rw [hZ0.out]; exact info_op
  have BZ := Lib.hid build_zop
  rw [hZ.out] at BZ
  have hba := ((Below.refl w.heap.size w).alloc (Nat.le_refl _) (.cells Z 48)).alloc (by simp) (.cells #[.slice va vl vc, .int .i64 0, .int .i64 0] 103)
  have S0 : Hid (DQ (w.heap.size + 1) va vl vc bs w.heap.size Z w ((w.alloc (.cells Z 48)).alloc (.cells #[.slice va vl vc, .int .i64 0, .int .i64 0] 103)) ⟨bs, 0⟩) :=
    ⟨Rfs.mk' (p := 0) ⟨Blk.new (by simp), h.below hba, Nat.zero_le _, fun x hx h0 => by have := hblt x hx h0; omega⟩ (by simp), (Blk.new rfl).alloc _, grownBy_of_below hba, by omega, Nat.le_refl _, fun x hx h0 => by have := hblt x hx h0; omega⟩
  have HY := Lib.hid (fun u (hu : Below w.heap.size w u) => h.below hu)
  have HLN := Lib.hid hln
  clear hba h hln
  obtain ⟨s1, hs1⟩ : ∃ s1, Hid (nU 8 ⟨bs, 0⟩ = s1) := ⟨_, rfl⟩
  have D1 : Hid (∀ u, Rfs u (w.heap.size + 1) va vl vc bs ⟨bs, 0⟩ → Calls Try.prog 59 #[.pointer (some ⟨w.heap.size + 1, 0, none⟩), .int .u64 8] u (RfV u (w.heap.size + 1) va vl vc bs (.int .u64 (nxK bs)) s1)) := fun u h => by
    have := rfu_any _ va vl vc bs _ 8 u h (by omega) (by omega)
    rw [← hs1.out]; exact this
  rw [hK] at D1
  obtain ⟨PK, hPK⟩ : ∃ PK, Hid ((kOp 4).parts nilV nilV nilV nilV = PK) := ⟨_, rfl⟩
  obtain ⟨FK, hFK⟩ : ∃ FK, Hid (flatP PK = FK) := ⟨_, rfl⟩
  have BK := Lib.hid (build_kind 4)
  rw [hPK.out, hFK.out] at BK
  have hPL : Hid (PK.map List.length = [1, 238, 67, 70, 34, 34, 1, 1]) := by show _ = _; rw [← hPK.out]; rfl
  have hFK0 : Hid (FK.size = 446) := by show _ = _; rw [← hFK.out, ← hPK.out]; rfl
  have hFK1 : Hid (∀ v ∈ FK, v.oneCell' = true) := by show ∀ _ ∈ _, _; rw [← hFK.out, ← hPK.out]; exact fun v hv => OpD.one (x := kOp 4) (v1 := nilV) (v2 := nilV) (v3 := nilV) (v4 := nilV) rfl rfl rfl rfl v hv
  have HIK : Hid ((Try.prog.info? 48).map (·.size) = some FK.size) := by show _ = _; rw [hFK0.out]; exact info_op
  have HZK : Hid (Z.size = FK.size) := by show _ = _; rw [hZ0.out, hFK0.out]
  have hE : nxE bs = fE 4 (nxR bs) := by unfold nxE; rw [if_neg (by simpa using he), hK]
  have hD : nxD bs = fD 4 (nxR bs) := by unfold nxD; rw [hK]
  have hU : nxU bs = bs.length - (fS 4 (nxR bs)).r.length := by unfold nxU nxT; rw [hK]
  have hrr : nxR bs = s1.r := by unfold nxR; rw [hs1.out]
  have hse : Hid (s1.e = 0) := by show _ = _; rw [← hs1.out]; exact he
  obtain ⟨fr, hfr⟩ : ∃ fr : Nat, bs.length - s1.r.length = fr := ⟨_, rfl⟩
  obtain ⟨g1, g2, g3, g4⟩ := nU_less he
  rw [hs1.out] at g1
  have hfe : fr = (pu bs 10 0).2.1.toNat := by rw [← hfr, g1, List.length_drop]; omega
  have hR1 : nxR bs = bs.drop fr := by rw [hrr, g1, hfe]
  have hfl : fr ≤ vl := by have := HLN.out; omega
  have hFR := Lib.hid hfr
  have hFL := Lib.hid (fS_len 4 (nxR bs))
  have hrl : Hid ((nxR bs).length = vl - fr) := by show _ = _; rw [hR1, List.length_drop, HLN.out]
  rw [hE, hD]
  have HUU := Lib.hid hU
  obtain ⟨bv, hbv⟩ : ∃ bv, Hid (Value.slice (if vc = fr then va else va.map (·.add fr)) (vl - fr) (vc - fr) = bv) := ⟨_, rfl⟩
  have hDR : ∀ u, Below w.heap.size w u → Byt u bv (nxR bs) := fun u hu => by rw [hR1, ← hbv.out]; exact (HY.out u hu).drop hfl
  have hbr : byteL (nxR bs) := fun x hx => hby x (List.mem_of_mem_drop (hR1 ▸ hx))
  have HD : Hid (∀ u, Below w.heap.size w u → Calls Try.prog 62 #[bv] u (PtR 3 70 4 (nxR bs) u)) := fun u hu => (rdsla_any bv (nxR bs) u (hDR u hu)).mono (fun en u h => sla_ptF hbr h)
  have HW : Hid (∀ (u : World) (L : List Value), L.length = 70 → (∀ v ∈ L, v.oneCell' = true) → (flatP (PK.set 3 L)).size = 446 ∧ ∀ v ∈ flatP (PK.set 3 L), v.oneCell' = true) := fun u L h1 h2 => by rw [← hPK.out]; exact set_shape 4 3 L (by rw [h1]; rfl) h2
  obtain ⟨E, HE⟩ : ∃ E, Hid (fE 4 (nxR bs) = E) := ⟨_, rfl⟩
  unfold PtR T3 at HD
  rw [HE.out, hPK.out] at HD
  rw [HE.out]
  clear he hby hE hK hD hU hrr g1 g2 g3 g4 hfe hfr hDR hbr hR1
  by_cases h0 : E = 0
  case neg =>
    have hne : (E != 0) = true := by simpa using h0
    have HNE := Lib.hid h0; clear h0
    go_enter Try.func36, Try.ntmps36
    go_wp2_with (first
      | ((with_reducible refine at_build (some 16) ?_); refine wpList_build rfl 48 _ rfl #[(0, .int .i64 4)] (by simp [Act.eval, Act.put]) (.agg FK) (BK.out _) ?_)
      | ((with_reducible refine at_store (.tmp 6) ?_); refine wpList_store_blk rfl 48 (.tmp 6) _ rfl w1.heap.size FK rfl rfl Z (Blk.new rfl) HZK.out HIK.out hFK1.out ?_; intro w2 U2 B2; have S2 := Lib.hid (S1.out.start (ls := [1, 238, 67, 70, 34, 34, 1, 1]) U2 (B2.to hFK.out.symm) hPL.out); clear U2 B2; obtain ⟨p2, c0, c1, c2, c3, hp2⟩ := S2.out.q.rd.three; have ck := S2.out.cell1 (v := .int .i64 4) 0 0 (by rw [← hPK.out]; rfl) rfl; rw [hse.out] at c2; rw [hp2, hFR.out] at c1; clear hp2)
      | (go_at_call 59; refine (D1.out _ S0.out.rd).mono ?_; rintro e w1 ⟨rfl, hr, hg⟩; have S1 := Lib.hid (S0.out.read (s' := s1) hr hg); clear hr hg)
      | ((with_reducible refine at_slice (some 62) ?_); refine wpList_slice_l rfl (.tmp 60) (.tmp 61) rfl va vl vc fr rfl rfl hfl bv hbv.out ?_)
      | (go_at_call 62; refine (HD.out w2 (grownBy_below S2.out.q.gro (Nat.le_succ _) (Nat.le_refl _))).mono ?_; rintro e w3 ⟨L, n, rfl, hL0, hL1, hS, hb3⟩; obtain ⟨q1, q2⟩ := HW.out w3 L hL0 hL1; obtain ⟨F, hF⟩ : ∃ F, Hid (flatP (PK.set 3 L) = F) := ⟨_, rfl⟩; rw [hF.out] at q1 q2; have HF1 := Lib.hid q2; have HF0 := Lib.hid q1; have HIF : Hid ((Try.prog.info? 48).map (·.size) = some F.size) := (by show _ = _; rw [q1]; exact info_op); have HL0 := Lib.hid hL0; have HL1 := Lib.hid hL1; have HS := Lib.hid hS; have S3 := Lib.hid (S2.out.below hb3); have HN3 := Lib.hid (Nat.le_trans (grownBy_below S2.out.q.gro (Nat.le_succ _) (Nat.le_refl _)).size (Nat.le_refl _)); clear hL1 hS hb3 q1 q2 hL0 c0 c1 c2 c3 ck; obtain ⟨LA, hLA⟩ : ∃ LA, Hid (L.toArray = LA) := ⟨_, rfl⟩; rw [hLA.out])
      | ((with_reducible refine at_store (.tmp 67) ?_); refine wpList_store_dr rfl 39 (.tmp 67) _ rfl S3.out 3 _ L (by rw [HL0.out]; rfl) rfl rfl (by rw [hLA.out]; rfl) (by rw [HL0.out]; kernel_rfl) HL1.out ?_; intro w4 U4 S4'; have S4 := Lib.hid S4'; have HU4 := Lib.hid U4; have XB := Lib.hid ((show Blk w4 w1.heap.size (flatP (PK.set 3 L)) from S4'.xv).to hF.out); have HZF : Hid (Z.size = F.size) := (by show _ = _; rw [hZ0.out, HF0.out]); clear S4' U4)
      | ((with_reducible refine at_build (some 112) ?_); refine wpList_build rfl 48 _ rfl #[] (by simp) (.agg Z) (BZ.out _) ?_)
      | ((with_reducible refine at_store (.tmp 2) ?_); refine wpList_store_blk rfl 48 (.tmp 2) _ rfl w.heap.size Z rfl rfl Z S4.out.q.rv rfl HIZ.out HZ1.out ?_; intro w9 U9 B9))
    refine bodyPost_ret (res_cell_tmp2 rfl rfl rfl rfl B9 Try.underlying48 rfl HIZ.out) rfl ⟨Z, _, rfl, hZ0.out, HZ1.out, fun h0 => absurd h0 HNE.out, U9.below (grownBy_below S4.out.q.gro (Nat.le_succ _) (Nat.le_refl _)) (Nat.le_refl _)⟩
  case pos =>
    subst h0
    go_enter Try.func36, Try.ntmps36
    go_wp2_with (first
      | ((with_reducible refine at_build (some 16) ?_); refine wpList_build rfl 48 _ rfl #[(0, .int .i64 4)] (by simp [Act.eval, Act.put]) (.agg FK) (BK.out _) ?_)
      | ((with_reducible refine at_store (.tmp 6) ?_); refine wpList_store_blk rfl 48 (.tmp 6) _ rfl w1.heap.size FK rfl rfl Z (Blk.new rfl) HZK.out HIK.out hFK1.out ?_; intro w2 U2 B2; have S2 := Lib.hid (S1.out.start (ls := [1, 238, 67, 70, 34, 34, 1, 1]) U2 (B2.to hFK.out.symm) hPL.out); clear U2 B2; obtain ⟨p2, c0, c1, c2, c3, hp2⟩ := S2.out.q.rd.three; have ck := S2.out.cell1 (v := .int .i64 4) 0 0 (by rw [← hPK.out]; rfl) rfl; rw [hse.out] at c2; rw [hp2, hFR.out] at c1; clear hp2)
      | (go_at_call 59; refine (D1.out _ S0.out.rd).mono ?_; rintro e w1 ⟨rfl, hr, hg⟩; have S1 := Lib.hid (S0.out.read (s' := s1) hr hg); clear hr hg)
      | ((with_reducible refine at_slice (some 62) ?_); refine wpList_slice_l rfl (.tmp 60) (.tmp 61) rfl va vl vc fr rfl rfl hfl bv hbv.out ?_)
      | (go_at_call 62; refine (HD.out w2 (grownBy_below S2.out.q.gro (Nat.le_succ _) (Nat.le_refl _))).mono ?_; rintro e w3 ⟨L, n, rfl, hL0, hL1, hS, hb3⟩; obtain ⟨q1, q2⟩ := HW.out w3 L hL0 hL1; obtain ⟨F, hF⟩ : ∃ F, Hid (flatP (PK.set 3 L) = F) := ⟨_, rfl⟩; rw [hF.out] at q1 q2; have HF1 := Lib.hid q2; have HF0 := Lib.hid q1; have HIF : Hid ((Try.prog.info? 48).map (·.size) = some F.size) := (by show _ = _; rw [q1]; exact info_op); have HL0 := Lib.hid hL0; have HL1 := Lib.hid hL1; have HS := Lib.hid hS; have S3 := Lib.hid (S2.out.below hb3); have HN3 := Lib.hid (Nat.le_trans (grownBy_below S2.out.q.gro (Nat.le_succ _) (Nat.le_refl _)).size (Nat.le_refl _)); clear hL1 hS hb3 q1 q2 hL0 c0 c1 c2 c3 ck; obtain ⟨LA, hLA⟩ : ∃ LA, Hid (L.toArray = LA) := ⟨_, rfl⟩; rw [hLA.out])
      | ((with_reducible refine at_store (.tmp 67) ?_); refine wpList_store_dr rfl 39 (.tmp 67) _ rfl S3.out 3 _ L (by rw [HL0.out]; rfl) rfl rfl (by rw [hLA.out]; rfl) (by rw [HL0.out]; kernel_rfl) HL1.out ?_; intro w4 U4 S4'; have S4 := Lib.hid S4'; have HU4 := Lib.hid U4; have XB := Lib.hid ((show Blk w4 w1.heap.size (flatP (PK.set 3 L)) from S4'.xv).to hF.out); have HZF : Hid (Z.size = F.size) := (by show _ = _; rw [hZ0.out, HF0.out]); clear S4' U4)
      | ((with_reducible refine at_load (.tmp 6) ?_); refine wpList_load_g 48 (.tmp 6) rfl w1.heap.size rfl F _ XB.out Try.underlying48 rfl HIF.out rfl ?_)
      | ((with_reducible refine at_store (.tmp 2) ?_); refine wpList_store_blk rfl 48 (.tmp 2) _ rfl w.heap.size F rfl rfl Z S4.out.q.rv HZF.out HIF.out HF1.out ?_; intro w9 U9 B9))
    refine bodyPost_ret (res_cell_tmp2 rfl rfl rfl rfl B9 Try.underlying48 rfl HIF.out) rfl ⟨F, _, rfl, HF0.out, HF1.out, fun h0 => ?_, U9.below (grownBy_below S4.out.q.gro (Nat.le_succ _) (Nat.le_refl _)) (Nat.le_refl _)⟩
    obtain ⟨k1, k2⟩ := HS.out (by trivial)
    subst k1
    have hz1 : w1.heap.size < w2.heap.size := S2.out.xv.lt
    have hz2 : w.heap.size < w2.heap.size := S2.out.q.rv.lt
    refine ⟨?_, ?_⟩
    · rw [HUU.out]; have := hFL.out; have := hrl.out; have := HLN.out; unfold wrap64; omega
    · rw [hF.out] at k2
      exact ((k2.grown HU4.out.gb (fun g y e hy => by cases e; exact hy.off hz1)).grown U9.gb (fun g y e hy => by cases e; exact hy.off hz2)).mono fun y hy => hy.mono (Nat.le_of_lt hz2)

set_option maxRecDepth 100000 in
set_option maxHeartbeats 16000000 in
theorem next_5 (v : Value) (bs : List Int) (w : World) (h : Byt w v bs) (hK : nxK bs = 5) (he : (nU 8 ⟨bs, 0⟩).e = 0) :
    Calls Try.prog 36 #[v] w (OpR w (nxD bs) (nxU bs : Nat) (nxE bs)) := by
  obtain ⟨va, vl, vc, rfl⟩ := h.shape
  have hby : byteL bs := h.rng
  have hblt := h.blk_lt
  have hfits := h.fits _ _ _ rfl
  have hln : bs.length = vl := by obtain ⟨_, _, _, e', hl, _⟩ := h.ints; cases e'; exact hl
  unfold maxLen at hfits
  obtain ⟨Z, hZ⟩ : ∃ Z, Hid (flatP ((kOp 0).parts nilV nilV nilV nilV) = Z) := ⟨_, rfl⟩
  have hZ0 : Hid (Z.size = 446) := by show _ = _; rw [← hZ.out]; rfl
  have HZ1 : Hid (∀ v ∈ Z, v.oneCell' = true) := by show ∀ _ ∈ _, _; rw [← hZ.out]; exact fun v hv => OpD.one (x := kOp 0) (v1 := nilV) (v2 := nilV) (v3 := nilV) (v4 := nilV) rfl rfl rfl rfl v hv
  obtain ⟨hzz, hst⟩ := zero_array (P := Try.prog) (t := 48) (n := 446) Z (by rw [← hZ.out]; exact zop_zero) hZ0.out (by rw [← hZ.out]; exact zop_one)
  have HIZ : Hid ((Try.prog.info? 48).map (·.size) = some Z.size) := by show _ = _; rw [hZ0.out]; exact info_op
  have BZ := Lib.hid build_zop
  rw [hZ.out] at BZ
  have hba := ((Below.refl w.heap.size w).alloc (Nat.le_refl _) (.cells Z 48)).alloc (by simp) (.cells #[.slice va vl vc, .int .i64 0, .int .i64 0] 103)
  have S0 : Hid (DQ (w.heap.size + 1) va vl vc bs w.heap.size Z w ((w.alloc (.cells Z 48)).alloc (.cells #[.slice va vl vc, .int .i64 0, .int .i64 0] 103)) ⟨bs, 0⟩) :=
    ⟨Rfs.mk' (p := 0) ⟨Blk.new (by simp), h.below hba, Nat.zero_le _, fun x hx h0 => by have := hblt x hx h0; omega⟩ (by simp), (Blk.new rfl).alloc _, grownBy_of_below hba, by omega, Nat.le_refl _, fun x hx h0 => by have := hblt x hx h0; omega⟩
  have HY := Lib.hid (fun u (hu : Below w.heap.size w u) => h.below hu)
  have HLN := Lib.hid hln
  clear hba h hln
  obtain ⟨s1, hs1⟩ : ∃ s1, Hid (nU 8 ⟨bs, 0⟩ = s1) := ⟨_, rfl⟩
  have D1 : Hid (∀ u, Rfs u (w.heap.size + 1) va vl vc bs ⟨bs, 0⟩ → Calls Try.prog 59 #[.pointer (some ⟨w.heap.size + 1, 0, none⟩), .int .u64 8] u (RfV u (w.heap.size + 1) va vl vc bs (.int .u64 (nxK bs)) s1)) := fun u h => by
    have := rfu_any _ va vl vc bs _ 8 u h (by omega) (by omega)
    rw [← hs1.out]; exact this
  rw [hK] at D1
  obtain ⟨PK, hPK⟩ : ∃ PK, Hid ((kOp 5).parts nilV nilV nilV nilV = PK) := ⟨_, rfl⟩
  obtain ⟨FK, hFK⟩ : ∃ FK, Hid (flatP PK = FK) := ⟨_, rfl⟩
  have BK := Lib.hid (build_kind 5)
  rw [hPK.out, hFK.out] at BK
  have hPL : Hid (PK.map List.length = [1, 238, 67, 70, 34, 34, 1, 1]) := by show _ = _; rw [← hPK.out]; rfl
  have hFK0 : Hid (FK.size = 446) := by show _ = _; rw [← hFK.out, ← hPK.out]; rfl
  have hFK1 : Hid (∀ v ∈ FK, v.oneCell' = true) := by show ∀ _ ∈ _, _; rw [← hFK.out, ← hPK.out]; exact fun v hv => OpD.one (x := kOp 5) (v1 := nilV) (v2 := nilV) (v3 := nilV) (v4 := nilV) rfl rfl rfl rfl v hv
  have HIK : Hid ((Try.prog.info? 48).map (·.size) = some FK.size) := by show _ = _; rw [hFK0.out]; exact info_op
  have HZK : Hid (Z.size = FK.size) := by show _ = _; rw [hZ0.out, hFK0.out]
  have hE : nxE bs = fE 5 (nxR bs) := by unfold nxE; rw [if_neg (by simpa using he), hK]
  have hD : nxD bs = fD 5 (nxR bs) := by unfold nxD; rw [hK]
  have hU : nxU bs = bs.length - (fS 5 (nxR bs)).r.length := by unfold nxU nxT; rw [hK]
  have hrr : nxR bs = s1.r := by unfold nxR; rw [hs1.out]
  have hse : Hid (s1.e = 0) := by show _ = _; rw [← hs1.out]; exact he
  obtain ⟨fr, hfr⟩ : ∃ fr : Nat, bs.length - s1.r.length = fr := ⟨_, rfl⟩
  obtain ⟨g1, g2, g3, g4⟩ := nU_less he
  rw [hs1.out] at g1
  have hfe : fr = (pu bs 10 0).2.1.toNat := by rw [← hfr, g1, List.length_drop]; omega
  have hR1 : nxR bs = bs.drop fr := by rw [hrr, g1, hfe]
  have hfl : fr ≤ vl := by have := HLN.out; omega
  have hFR := Lib.hid hfr
  have hFL := Lib.hid (fS_len 5 (nxR bs))
  have hrl : Hid ((nxR bs).length = vl - fr) := by show _ = _; rw [hR1, List.length_drop, HLN.out]
  rw [hE, hD]
  have HUU := Lib.hid hU
  obtain ⟨bv, hbv⟩ : ∃ bv, Hid (Value.slice (if vc = fr then va else va.map (·.add fr)) (vl - fr) (vc - fr) = bv) := ⟨_, rfl⟩
  have hDR : ∀ u, Below w.heap.size w u → Byt u bv (nxR bs) := fun u hu => by rw [hR1, ← hbv.out]; exact (HY.out u hu).drop hfl
  have hbr : byteL (nxR bs) := fun x hx => hby x (List.mem_of_mem_drop (hR1 ▸ hx))
  have HD : Hid (∀ u, Below w.heap.size w u → Calls Try.prog 63 #[bv] u (PtR 4 34 5 (nxR bs) u)) := fun u hu => (rdtab_any bv (nxR bs) u (hDR u hu)).mono (fun en u h => tab_ptF hbr h)
  have HW : Hid (∀ (u : World) (L : List Value), L.length = 34 → (∀ v ∈ L, v.oneCell' = true) → (flatP (PK.set 4 L)).size = 446 ∧ ∀ v ∈ flatP (PK.set 4 L), v.oneCell' = true) := fun u L h1 h2 => by rw [← hPK.out]; exact set_shape 5 4 L (by rw [h1]; rfl) h2
  obtain ⟨E, HE⟩ : ∃ E, Hid (fE 5 (nxR bs) = E) := ⟨_, rfl⟩
  unfold PtR T3 at HD
  rw [HE.out, hPK.out] at HD
  rw [HE.out]
  clear he hby hE hK hD hU hrr g1 g2 g3 g4 hfe hfr hDR hbr hR1
  by_cases h0 : E = 0
  case neg =>
    have hne : (E != 0) = true := by simpa using h0
    have HNE := Lib.hid h0; clear h0
    go_enter Try.func36, Try.ntmps36
    go_wp2_with (first
      | ((with_reducible refine at_build (some 16) ?_); refine wpList_build rfl 48 _ rfl #[(0, .int .i64 5)] (by simp [Act.eval, Act.put]) (.agg FK) (BK.out _) ?_)
      | ((with_reducible refine at_store (.tmp 6) ?_); refine wpList_store_blk rfl 48 (.tmp 6) _ rfl w1.heap.size FK rfl rfl Z (Blk.new rfl) HZK.out HIK.out hFK1.out ?_; intro w2 U2 B2; have S2 := Lib.hid (S1.out.start (ls := [1, 238, 67, 70, 34, 34, 1, 1]) U2 (B2.to hFK.out.symm) hPL.out); clear U2 B2; obtain ⟨p2, c0, c1, c2, c3, hp2⟩ := S2.out.q.rd.three; have ck := S2.out.cell1 (v := .int .i64 5) 0 0 (by rw [← hPK.out]; rfl) rfl; rw [hse.out] at c2; rw [hp2, hFR.out] at c1; clear hp2)
      | (go_at_call 59; refine (D1.out _ S0.out.rd).mono ?_; rintro e w1 ⟨rfl, hr, hg⟩; have S1 := Lib.hid (S0.out.read (s' := s1) hr hg); clear hr hg)
      | ((with_reducible refine at_slice (some 73) ?_); refine wpList_slice_l rfl (.tmp 71) (.tmp 72) rfl va vl vc fr rfl rfl hfl bv hbv.out ?_)
      | (go_at_call 63; refine (HD.out w2 (grownBy_below S2.out.q.gro (Nat.le_succ _) (Nat.le_refl _))).mono ?_; rintro e w3 ⟨L, n, rfl, hL0, hL1, hS, hb3⟩; obtain ⟨q1, q2⟩ := HW.out w3 L hL0 hL1; obtain ⟨F, hF⟩ : ∃ F, Hid (flatP (PK.set 4 L) = F) := ⟨_, rfl⟩; rw [hF.out] at q1 q2; have HF1 := Lib.hid q2; have HF0 := Lib.hid q1; have HIF : Hid ((Try.prog.info? 48).map (·.size) = some F.size) := (by show _ = _; rw [q1]; exact info_op); have HL0 := Lib.hid hL0; have HL1 := Lib.hid hL1; have HS := Lib.hid hS; have S3 := Lib.hid (S2.out.below hb3); have HN3 := Lib.hid (Nat.le_trans (grownBy_below S2.out.q.gro (Nat.le_succ _) (Nat.le_refl _)).size (Nat.le_refl _)); clear hL1 hS hb3 q1 q2 hL0 c0 c1 c2 c3 ck; obtain ⟨LA, hLA⟩ : ∃ LA, Hid (L.toArray = LA) := ⟨_, rfl⟩; rw [hLA.out])
      | ((with_reducible refine at_store (.tmp 78) ?_); refine wpList_store_dr rfl 42 (.tmp 78) _ rfl S3.out 4 _ L (by rw [HL0.out]; rfl) rfl rfl (by rw [hLA.out]; rfl) (by rw [HL0.out]; kernel_rfl) HL1.out ?_; intro w4 U4 S4'; have S4 := Lib.hid S4'; have HU4 := Lib.hid U4; have XB := Lib.hid ((show Blk w4 w1.heap.size (flatP (PK.set 4 L)) from S4'.xv).to hF.out); have HZF : Hid (Z.size = F.size) := (by show _ = _; rw [hZ0.out, HF0.out]); clear S4' U4)
      | ((with_reducible refine at_build (some 112) ?_); refine wpList_build rfl 48 _ rfl #[] (by simp) (.agg Z) (BZ.out _) ?_)
      | ((with_reducible refine at_store (.tmp 2) ?_); refine wpList_store_blk rfl 48 (.tmp 2) _ rfl w.heap.size Z rfl rfl Z S4.out.q.rv rfl HIZ.out HZ1.out ?_; intro w9 U9 B9))
    refine bodyPost_ret (res_cell_tmp2 rfl rfl rfl rfl B9 Try.underlying48 rfl HIZ.out) rfl ⟨Z, _, rfl, hZ0.out, HZ1.out, fun h0 => absurd h0 HNE.out, U9.below (grownBy_below S4.out.q.gro (Nat.le_succ _) (Nat.le_refl _)) (Nat.le_refl _)⟩
  case pos =>
    subst h0
    go_enter Try.func36, Try.ntmps36
    go_wp2_with (first
      | ((with_reducible refine at_build (some 16) ?_); refine wpList_build rfl 48 _ rfl #[(0, .int .i64 5)] (by simp [Act.eval, Act.put]) (.agg FK) (BK.out _) ?_)
      | ((with_reducible refine at_store (.tmp 6) ?_); refine wpList_store_blk rfl 48 (.tmp 6) _ rfl w1.heap.size FK rfl rfl Z (Blk.new rfl) HZK.out HIK.out hFK1.out ?_; intro w2 U2 B2; have S2 := Lib.hid (S1.out.start (ls := [1, 238, 67, 70, 34, 34, 1, 1]) U2 (B2.to hFK.out.symm) hPL.out); clear U2 B2; obtain ⟨p2, c0, c1, c2, c3, hp2⟩ := S2.out.q.rd.three; have ck := S2.out.cell1 (v := .int .i64 5) 0 0 (by rw [← hPK.out]; rfl) rfl; rw [hse.out] at c2; rw [hp2, hFR.out] at c1; clear hp2)
      | (go_at_call 59; refine (D1.out _ S0.out.rd).mono ?_; rintro e w1 ⟨rfl, hr, hg⟩; have S1 := Lib.hid (S0.out.read (s' := s1) hr hg); clear hr hg)
      | ((with_reducible refine at_slice (some 73) ?_); refine wpList_slice_l rfl (.tmp 71) (.tmp 72) rfl va vl vc fr rfl rfl hfl bv hbv.out ?_)
      | (go_at_call 63; refine (HD.out w2 (grownBy_below S2.out.q.gro (Nat.le_succ _) (Nat.le_refl _))).mono ?_; rintro e w3 ⟨L, n, rfl, hL0, hL1, hS, hb3⟩; obtain ⟨q1, q2⟩ := HW.out w3 L hL0 hL1; obtain ⟨F, hF⟩ : ∃ F, Hid (flatP (PK.set 4 L) = F) := ⟨_, rfl⟩; rw [hF.out] at q1 q2; have HF1 := Lib.hid q2; have HF0 := Lib.hid q1; have HIF : Hid ((Try.prog.info? 48).map (·.size) = some F.size) := (by show _ = _; rw [q1]; exact info_op); have HL0 := Lib.hid hL0; have HL1 := Lib.hid hL1; have HS := Lib.hid hS; have S3 := Lib.hid (S2.out.below hb3); have HN3 := Lib.hid (Nat.le_trans (grownBy_below S2.out.q.gro (Nat.le_succ _) (Nat.le_refl _)).size (Nat.le_refl _)); clear hL1 hS hb3 q1 q2 hL0 c0 c1 c2 c3 ck; obtain ⟨LA, hLA⟩ : ∃ LA, Hid (L.toArray = LA) := ⟨_, rfl⟩; rw [hLA.out])
      | ((with_reducible refine at_store (.tmp 78) ?_); refine wpList_store_dr rfl 42 (.tmp 78) _ rfl S3.out 4 _ L (by rw [HL0.out]; rfl) rfl rfl (by rw [hLA.out]; rfl) (by rw [HL0.out]; kernel_rfl) HL1.out ?_; intro w4 U4 S4'; have S4 := Lib.hid S4'; have HU4 := Lib.hid U4; have XB := Lib.hid ((show Blk w4 w1.heap.size (flatP (PK.set 4 L)) from S4'.xv).to hF.out); have HZF : Hid (Z.size = F.size) := (by show _ = _; rw [hZ0.out, HF0.out]); clear S4' U4)
      | ((with_reducible refine at_load (.tmp 6) ?_); refine wpList_load_g 48 (.tmp 6) rfl w1.heap.size rfl F _ XB.out Try.underlying48 rfl HIF.out rfl ?_)
      | ((with_reducible refine at_store (.tmp 2) ?_); refine wpList_store_blk rfl 48 (.tmp 2) _ rfl w.heap.size F rfl rfl Z S4.out.q.rv HZF.out HIF.out HF1.out ?_; intro w9 U9 B9))
    refine bodyPost_ret (res_cell_tmp2 rfl rfl rfl rfl B9 Try.underlying48 rfl HIF.out) rfl ⟨F, _, rfl, HF0.out, HF1.out, fun h0 => ?_, U9.below (grownBy_below S4.out.q.gro (Nat.le_succ _) (Nat.le_refl _)) (Nat.le_refl _)⟩
    obtain ⟨k1, k2⟩ := HS.out (by trivial)
    subst k1
    have hz1 : w1.heap.size < w2.heap.size := S2.out.xv.lt
    have hz2 : w.heap.size < w2.heap.size := S2.out.q.rv.lt
    refine ⟨?_, ?_⟩
    · rw [HUU.out]; have := hFL.out; have := hrl.out; have := HLN.out; unfold wrap64; omega
    · rw [hF.out] at k2
      exact ((k2.grown HU4.out.gb (fun g y e hy => by cases e; exact hy.off hz1)).grown U9.gb (fun g y e hy => by cases e; exact hy.off hz2)).mono fun y hy => hy.mono (Nat.le_of_lt hz2)

set_option maxRecDepth 100000 in
set_option maxHeartbeats 16000000 in
theorem next_6 (v : Value) (bs : List Int) (w : World) (h : Byt w v bs) (hK : nxK bs = 6) (he : (nU 8 ⟨bs, 0⟩).e = 0) :
    Calls Try.prog 36 #[v] w (OpR w (nxD bs) (nxU bs : Nat) (nxE bs)) := by
  obtain ⟨va, vl, vc, rfl⟩ := h.shape
  have hby : byteL bs := h.rng
  have hblt := h.blk_lt
  have hfits := h.fits _ _ _ rfl
  have hln : bs.length = vl := by obtain ⟨_, _, _, e', hl, _⟩ := h.ints; cases e'; exact hl
  unfold maxLen at hfits
  obtain ⟨Z, hZ⟩ : ∃ Z, Hid (flatP ((kOp 0).parts nilV nilV nilV nilV) = Z) := ⟨_, rfl⟩
  have hZ0 : Hid (Z.size = 446) := by show _ = _; rw [← hZ.out]; rfl
  have HZ1 : Hid (∀ v ∈ Z, v.oneCell' = true) := by show ∀ _ ∈ _, _; rw [← hZ.out]; exact fun v hv => OpD.one (x := kOp 0) (v1 := nilV) (v2 := nilV) (v3 := nilV) (v4 := nilV) rfl rfl rfl rfl v hv
  obtain ⟨hzz, hst⟩ := zero_array (P := Try.prog) (t := 48) (n := 446) Z (by rw [← hZ.out]; exact zop_zero) hZ0.out (by rw [← hZ.out]; exact zop_one)
  have HIZ : Hid ((Try.prog.info? 48).map (·.size) = some Z.size) := by show _ = _; rw [hZ0.out]; exact info_op
  have BZ := Lib.hid build_zop
  rw [hZ.out] at BZ
  have hba := ((Below.refl w.heap.size w).alloc (Nat.le_refl _) (.cells Z 48)).alloc (by simp) (.cells #[.slice va vl vc, .int .i64 0, .int .i64 0] 103)
  have S0 : Hid (DQ (w.heap.size + 1) va vl vc bs w.heap.size Z w ((w.alloc (.cells Z 48)).alloc (.cells #[.slice va vl vc, .int .i64 0, .int .i64 0] 103)) ⟨bs, 0⟩) :=
    ⟨Rfs.mk' (p := 0) ⟨Blk.new (by simp), h.below hba, Nat.zero_le _, fun x hx h0 => by have := hblt x hx h0; omega⟩ (by simp), (Blk.new rfl).alloc _, grownBy_of_below hba, by omega, Nat.le_refl _, fun x hx h0 => by have := hblt x hx h0; omega⟩
  have HY := Lib.hid (fun u (hu : Below w.heap.size w u) => h.below hu)
  have HLN := Lib.hid hln
  clear hba h hln
  obtain ⟨s1, hs1⟩ : ∃ s1, Hid (nU 8 ⟨bs, 0⟩ = s1) := ⟨_, rfl⟩
  have D1 : Hid (∀ u, Rfs u (w.heap.size + 1) va vl vc bs ⟨bs, 0⟩ → Calls Try.prog 59 #[.pointer (some ⟨w.heap.size + 1, 0, none⟩), .int .u64 8] u (RfV u (w.heap.size + 1) va vl vc bs (.int .u64 (nxK bs)) s1)) := fun u h => by
    have := rfu_any _ va vl vc bs _ 8 u h (by omega) (by omega)
    rw [← hs1.out]; exact this
  rw [hK] at D1
  obtain ⟨PK, hPK⟩ : ∃ PK, Hid ((kOp 6).parts nilV nilV nilV nilV = PK) := ⟨_, rfl⟩
  obtain ⟨FK, hFK⟩ : ∃ FK, Hid (flatP PK = FK) := ⟨_, rfl⟩
  have BK := Lib.hid (build_kind 6)
  rw [hPK.out, hFK.out] at BK
  have hPL : Hid (PK.map List.length = [1, 238, 67, 70, 34, 34, 1, 1]) := by show _ = _; rw [← hPK.out]; rfl
  have hFK0 : Hid (FK.size = 446) := by show _ = _; rw [← hFK.out, ← hPK.out]; rfl
  have hFK1 : Hid (∀ v ∈ FK, v.oneCell' = true) := by show ∀ _ ∈ _, _; rw [← hFK.out, ← hPK.out]; exact fun v hv => OpD.one (x := kOp 6) (v1 := nilV) (v2 := nilV) (v3 := nilV) (v4 := nilV) rfl rfl rfl rfl v hv
  have HIK : Hid ((Try.prog.info? 48).map (·.size) = some FK.size) := by show _ = _; rw [hFK0.out]; exact info_op
  have HZK : Hid (Z.size = FK.size) := by show _ = _; rw [hZ0.out, hFK0.out]
  have hE : nxE bs = fE 6 (nxR bs) := by unfold nxE; rw [if_neg (by simpa using he), hK]
  have hD : nxD bs = fD 6 (nxR bs) := by unfold nxD; rw [hK]
  have hU : nxU bs = bs.length - (fS 6 (nxR bs)).r.length := by unfold nxU nxT; rw [hK]
  have hrr : nxR bs = s1.r := by unfold nxR; rw [hs1.out]
  have hse : Hid (s1.e = 0) := by show _ = _; rw [← hs1.out]; exact he
  obtain ⟨fr, hfr⟩ : ∃ fr : Nat, bs.length - s1.r.length = fr := ⟨_, rfl⟩
  obtain ⟨g1, g2, g3, g4⟩ := nU_less he
  rw [hs1.out] at g1
  have hfe : fr = (pu bs 10 0).2.1.toNat := by rw [← hfr, g1, List.length_drop]; omega
  have hR1 : nxR bs = bs.drop fr := by rw [hrr, g1, hfe]
  have hfl : fr ≤ vl := by have := HLN.out; omega
  have hFR := Lib.hid hfr
  have hFL := Lib.hid (fS_len 6 (nxR bs))
  have hrl : Hid ((nxR bs).length = vl - fr) := by show _ = _; rw [hR1, List.length_drop, HLN.out]
  rw [hE, hD]
  have HUU := Lib.hid hU
  obtain ⟨bv, hbv⟩ : ∃ bv, Hid (Value.slice (if vc = fr then va else va.map (·.add fr)) (vl - fr) (vc - fr) = bv) := ⟨_, rfl⟩
  have hDR : ∀ u, Below w.heap.size w u → Byt u bv (nxR bs) := fun u hu => by rw [hR1, ← hbv.out]; exact (HY.out u hu).drop hfl
  have hbr : byteL (nxR bs) := fun x hx => hby x (List.mem_of_mem_drop (hR1 ▸ hx))
  have HD : Hid (∀ u, Below w.heap.size w u → Calls Try.prog 64 #[bv] u (PtR 5 34 6 (nxR bs) u)) := fun u hu => (rdver_any bv (nxR bs) u (hDR u hu)).mono (fun en u h => vd_pt hbr h)
  have HW : Hid (∀ (u : World) (L : List Value), L.length = 34 → (∀ v ∈ L, v.oneCell' = true) → (flatP (PK.set 5 L)).size = 446 ∧ ∀ v ∈ flatP (PK.set 5 L), v.oneCell' = true) := fun u L h1 h2 => by rw [← hPK.out]; exact set_shape 6 5 L (by rw [h1]; rfl) h2
  obtain ⟨E, HE⟩ : ∃ E, Hid (fE 6 (nxR bs) = E) := ⟨_, rfl⟩
  unfold PtR T3 at HD
  rw [HE.out, hPK.out] at HD
  rw [HE.out]
  clear he hby hE hK hD hU hrr g1 g2 g3 g4 hfe hfr hDR hbr hR1
  by_cases h0 : E = 0
  case neg =>
    have hne : (E != 0) = true := by simpa using h0
    have HNE := Lib.hid h0; clear h0
    go_enter Try.func36, Try.ntmps36
    go_wp2_with (first
      | ((with_reducible refine at_build (some 16) ?_); refine wpList_build rfl 48 _ rfl #[(0, .int .i64 6)] (by simp [Act.eval, Act.put]) (.agg FK) (BK.out _) ?_)
      | ((with_reducible refine at_store (.tmp 6) ?_); refine wpList_store_blk rfl 48 (.tmp 6) _ rfl w1.heap.size FK rfl rfl Z (Blk.new rfl) HZK.out HIK.out hFK1.out ?_; intro w2 U2 B2; have S2 := Lib.hid (S1.out.start (ls := [1, 238, 67, 70, 34, 34, 1, 1]) U2 (B2.to hFK.out.symm) hPL.out); clear U2 B2; obtain ⟨p2, c0, c1, c2, c3, hp2⟩ := S2.out.q.rd.three; have ck := S2.out.cell1 (v := .int .i64 6) 0 0 (by rw [← hPK.out]; rfl) rfl; rw [hse.out] at c2; rw [hp2, hFR.out] at c1; clear hp2)
      | (go_at_call 59; refine (D1.out _ S0.out.rd).mono ?_; rintro e w1 ⟨rfl, hr, hg⟩; have S1 := Lib.hid (S0.out.read (s' := s1) hr hg); clear hr hg)
      | ((with_reducible refine at_slice (some 84) ?_); refine wpList_slice_l rfl (.tmp 82) (.tmp 83) rfl va vl vc fr rfl rfl hfl bv hbv.out ?_)
      | (go_at_call 64; refine (HD.out w2 (grownBy_below S2.out.q.gro (Nat.le_succ _) (Nat.le_refl _))).mono ?_; rintro e w3 ⟨L, n, rfl, hL0, hL1, hS, hb3⟩; obtain ⟨q1, q2⟩ := HW.out w3 L hL0 hL1; obtain ⟨F, hF⟩ : ∃ F, Hid (flatP (PK.set 5 L) = F) := ⟨_, rfl⟩; rw [hF.out] at q1 q2; have HF1 := Lib.hid q2; have HF0 := Lib.hid q1; have HIF : Hid ((Try.prog.info? 48).map (·.size) = some F.size) := (by show _ = _; rw [q1]; exact info_op); have HL0 := Lib.hid hL0; have HL1 := Lib.hid hL1; have HS := Lib.hid hS; have S3 := Lib.hid (S2.out.below hb3); have HN3 := Lib.hid (Nat.le_trans (grownBy_below S2.out.q.gro (Nat.le_succ _) (Nat.le_refl _)).size (Nat.le_refl _)); clear hL1 hS hb3 q1 q2 hL0 c0 c1 c2 c3 ck; obtain ⟨LA, hLA⟩ : ∃ LA, Hid (L.toArray = LA) := ⟨_, rfl⟩; rw [hLA.out])
      | ((with_reducible refine at_store (.tmp 89) ?_); refine wpList_store_dr rfl 46 (.tmp 89) _ rfl S3.out 5 _ L (by rw [HL0.out]; rfl) rfl rfl (by rw [hLA.out]; rfl) (by rw [HL0.out]; kernel_rfl) HL1.out ?_; intro w4 U4 S4'; have S4 := Lib.hid S4'; have HU4 := Lib.hid U4; have XB := Lib.hid ((show Blk w4 w1.heap.size (flatP (PK.set 5 L)) from S4'.xv).to hF.out); have HZF : Hid (Z.size = F.size) := (by show _ = _; rw [hZ0.out, HF0.out]); clear S4' U4)
      | ((with_reducible refine at_build (some 112) ?_); refine wpList_build rfl 48 _ rfl #[] (by simp) (.agg Z) (BZ.out _) ?_)
      | ((with_reducible refine at_store (.tmp 2) ?_); refine wpList_store_blk rfl 48 (.tmp 2) _ rfl w.heap.size Z rfl rfl Z S4.out.q.rv rfl HIZ.out HZ1.out ?_; intro w9 U9 B9))
    refine bodyPost_ret (res_cell_tmp2 rfl rfl rfl rfl B9 Try.underlying48 rfl HIZ.out) rfl ⟨Z, _, rfl, hZ0.out, HZ1.out, fun h0 => absurd h0 HNE.out, U9.below (grownBy_below S4.out.q.gro (Nat.le_succ _) (Nat.le_refl _)) (Nat.le_refl _)⟩
  case pos =>
    subst h0
    go_enter Try.func36, Try.ntmps36
    go_wp2_with (first
      | ((with_reducible refine at_build (some 16) ?_); refine wpList_build rfl 48 _ rfl #[(0, .int .i64 6)] (by simp [Act.eval, Act.put]) (.agg FK) (BK.out _) ?_)
      | ((with_reducible refine at_store (.tmp 6) ?_); refine wpList_store_blk rfl 48 (.tmp 6) _ rfl w1.heap.size FK rfl rfl Z (Blk.new rfl) HZK.out HIK.out hFK1.out ?_; intro w2 U2 B2; have S2 := Lib.hid (S1.out.start (ls := [1, 238, 67, 70, 34, 34, 1, 1]) U2 (B2.to hFK.out.symm) hPL.out); clear U2 B2; obtain ⟨p2, c0, c1, c2, c3, hp2⟩ := S2.out.q.rd.three; have ck := S2.out.cell1 (v := .int .i64 6) 0 0 (by rw [← hPK.out]; rfl) rfl; rw [hse.out] at c2; rw [hp2, hFR.out] at c1; clear hp2)
      | (go_at_call 59; refine (D1.out _ S0.out.rd).mono ?_; rintro e w1 ⟨rfl, hr, hg⟩; have S1 := Lib.hid (S0.out.read (s' := s1) hr hg); clear hr hg)
      | ((with_reducible refine at_slice (some 84) ?_); refine wpList_slice_l rfl (.tmp 82) (.tmp 83) rfl va vl vc fr rfl rfl hfl bv hbv.out ?_)
      | (go_at_call 64; refine (HD.out w2 (grownBy_below S2.out.q.gro (Nat.le_succ _) (Nat.le_refl _))).mono ?_; rintro e w3 ⟨L, n, rfl, hL0, hL1, hS, hb3⟩; obtain ⟨q1, q2⟩ := HW.out w3 L hL0 hL1; obtain ⟨F, hF⟩ : ∃ F, Hid (flatP (PK.set 5 L) = F) := ⟨_, rfl⟩; rw [hF.out] at q1 q2; have HF1 := Lib.hid q2; have HF0 := Lib.hid q1; have HIF : Hid ((Try.prog.info? 48).map (·.size) = some F.size) := (by show _ = _; rw [q1]; exact info_op); have HL0 := Lib.hid hL0; have HL1 := Lib.hid hL1; have HS := Lib.hid hS; have S3 := Lib.hid (S2.out.below hb3); have HN3 := Lib.hid (Nat.le_trans (grownBy_below S2.out.q.gro (Nat.le_succ _) (Nat.le_refl _)).size (Nat.le_refl _)); clear hL1 hS hb3 q1 q2 hL0 c0 c1 c2 c3 ck; obtain ⟨LA, hLA⟩ : ∃ LA, Hid (L.toArray = LA) := ⟨_, rfl⟩; rw [hLA.out])
      | ((with_reducible refine at_store (.tmp 89) ?_); refine wpList_store_dr rfl 46 (.tmp 89) _ rfl S3.out 5 _ L (by rw [HL0.out]; rfl) rfl rfl (by rw [hLA.out]; rfl) (by rw [HL0.out]; kernel_rfl) HL1.out ?_; intro w4 U4 S4'; have S4 := Lib.hid S4'; have HU4 := Lib.hid U4; have XB := Lib.hid ((show Blk w4 w1.heap.size (flatP (PK.set 5 L)) from S4'.xv).to hF.out); have HZF : Hid (Z.size = F.size) := (by show _ = _; rw [hZ0.out, HF0.out]); clear S4' U4)
      | ((with_reducible refine at_load (.tmp 6) ?_); refine wpList_load_g 48 (.tmp 6) rfl w1.heap.size rfl F _ XB.out Try.underlying48 rfl HIF.out rfl ?_)
      | ((with_reducible refine at_store (.tmp 2) ?_); refine wpList_store_blk rfl 48 (.tmp 2) _ rfl w.heap.size F rfl rfl Z S4.out.q.rv HZF.out HIF.out HF1.out ?_; intro w9 U9 B9))
    refine bodyPost_ret (res_cell_tmp2 rfl rfl rfl rfl B9 Try.underlying48 rfl HIF.out) rfl ⟨F, _, rfl, HF0.out, HF1.out, fun h0 => ?_, U9.below (grownBy_below S4.out.q.gro (Nat.le_succ _) (Nat.le_refl _)) (Nat.le_refl _)⟩
    obtain ⟨k1, k2⟩ := HS.out (by trivial)
    subst k1
    have hz1 : w1.heap.size < w2.heap.size := S2.out.xv.lt
    have hz2 : w.heap.size < w2.heap.size := S2.out.q.rv.lt
    refine ⟨?_, ?_⟩
    · rw [HUU.out]; have := hFL.out; have := hrl.out; have := HLN.out; unfold wrap64; omega
    · rw [hF.out] at k2
      exact ((k2.grown HU4.out.gb (fun g y e hy => by cases e; exact hy.off hz1)).grown U9.gb (fun g y e hy => by cases e; exact hy.off hz2)).mono fun y hy => hy.mono (Nat.le_of_lt hz2)
end

/-! ScT -/
section
set_option linter.unusedVariables false
set_option linter.unusedSimpArgs false
open Go.RowKit


set_option maxRecDepth 100000 in
set_option maxHeartbeats 16000000 in
theorem next_0 (v : Value) (bs : List Int) (w : World) (h : Byt w v bs) (hK : nxK bs = 0) (he : (nU 8 ⟨bs, 0⟩).e = 0) :
    Calls Try.prog 36 #[v] w (OpR w (nxD bs) (nxU bs : Nat) (nxE bs)) := by
  obtain ⟨va, vl, vc, rfl⟩ := h.shape
  have hby : byteL bs := h.rng
  have hblt := h.blk_lt
  have hfits := h.fits _ _ _ rfl
  have hln : bs.length = vl := by obtain ⟨_, _, _, e', hl, _⟩ := h.ints; cases e'; exact hl
  unfold maxLen at hfits
  obtain ⟨Z, hZ⟩ : ∃ Z, Hid (flatP ((kOp 0).parts nilV nilV nilV nilV) = Z) := ⟨_, rfl⟩
  have hZ0 : Hid (Z.size = 446) := by show _ = _; rw [← hZ.out]; rfl
  have HZ1 : Hid (∀ v ∈ Z, v.oneCell' = true) := by show ∀ _ ∈ _, _; rw [← hZ.out]; exact fun v hv => OpD.one (x := kOp 0) (v1 := nilV) (v2 := nilV) (v3 := nilV) (v4 := nilV) rfl rfl rfl rfl v hv
  obtain ⟨hzz, hst⟩ := zero_array (P := Try.prog) (t := 48) (n := 446) Z (by rw [← hZ.out]; exact zop_zero) hZ0.out (by rw [← hZ.out]; exact zop_one)
  have HIZ : Hid ((Try.prog.info? 48).map (·.size) = some Z.size) := by show _ = _; rw [hZ0.out]; exact info_op
  have BZ := Lib.hid build_zop
  rw [hZ.out] at BZ
  have hba := ((Below.refl w.heap.size w).alloc (Nat.le_refl _) (.cells Z 48)).alloc (by simp) (.cells #[.slice va vl vc, .int .i64 0, .int .i64 0] 103)
  have S0 : Hid (DQ (w.heap.size + 1) va vl vc bs w.heap.size Z w ((w.alloc (.cells Z 48)).alloc (.cells #[.slice va vl vc, .int .i64 0, .int .i64 0] 103)) ⟨bs, 0⟩) :=
    ⟨Rfs.mk' (p := 0) ⟨Blk.new (by simp), h.below hba, Nat.zero_le _, fun x hx h0 => by have := hblt x hx h0; omega⟩ (by simp), (Blk.new rfl).alloc _, grownBy_of_below hba, by omega, Nat.le_refl _, fun x hx h0 => by have := hblt x hx h0; omega⟩
  have HY := Lib.hid (fun u (hu : Below w.heap.size w u) => h.below hu)
  have HLN := Lib.hid hln
  clear hba h hln
  obtain ⟨s1, hs1⟩ : ∃ s1, Hid (nU 8 ⟨bs, 0⟩ = s1) := ⟨_, rfl⟩
  have D1 : Hid (∀ u, Rfs u (w.heap.size + 1) va vl vc bs ⟨bs, 0⟩ → Calls Try.prog 59 #[.pointer (some ⟨w.heap.size + 1, 0, none⟩), .int .u64 8] u (RfV u (w.heap.size + 1) va vl vc bs (.int .u64 (nxK bs)) s1)) := fun u h => by
    have := rfu_any _ va vl vc bs _ 8 u h (by omega) (by omega)
    rw [← hs1.out]; exact this
  rw [hK] at D1
  obtain ⟨PK, hPK⟩ : ∃ PK, Hid ((kOp 0).parts nilV nilV nilV nilV = PK) := ⟨_, rfl⟩
  obtain ⟨FK, hFK⟩ : ∃ FK, Hid (flatP PK = FK) := ⟨_, rfl⟩
  have BK := Lib.hid (build_kind 0)
  rw [hPK.out, hFK.out] at BK
  have hPL : Hid (PK.map List.length = [1, 238, 67, 70, 34, 34, 1, 1]) := by show _ = _; rw [← hPK.out]; rfl
  have hFK0 : Hid (FK.size = 446) := by show _ = _; rw [← hFK.out, ← hPK.out]; rfl
  have hFK1 : Hid (∀ v ∈ FK, v.oneCell' = true) := by show ∀ _ ∈ _, _; rw [← hFK.out, ← hPK.out]; exact fun v hv => OpD.one (x := kOp 0) (v1 := nilV) (v2 := nilV) (v3 := nilV) (v4 := nilV) rfl rfl rfl rfl v hv
  have HIK : Hid ((Try.prog.info? 48).map (·.size) = some FK.size) := by show _ = _; rw [hFK0.out]; exact info_op
  have HZK : Hid (Z.size = FK.size) := by show _ = _; rw [hZ0.out, hFK0.out]
  have hE : nxE bs = fE 0 (nxR bs) := by unfold nxE; rw [if_neg (by simpa using he), hK]
  have hD : nxD bs = fD 0 (nxR bs) := by unfold nxD; rw [hK]
  have hU : nxU bs = bs.length - (fS 0 (nxR bs)).r.length := by unfold nxU nxT; rw [hK]
  have hrr : nxR bs = s1.r := by unfold nxR; rw [hs1.out]
  have hse : Hid (s1.e = 0) := by show _ = _; rw [← hs1.out]; exact he
  obtain ⟨fr, hfr⟩ : ∃ fr : Nat, bs.length - s1.r.length = fr := ⟨_, rfl⟩
  obtain ⟨g1, g2, g3, g4⟩ := nU_less he
  rw [hs1.out] at g1
  have hfe : fr = (pu bs 10 0).2.1.toNat := by rw [← hfr, g1, List.length_drop]; omega
  have hR1 : nxR bs = bs.drop fr := by rw [hrr, g1, hfe]
  have hfl : fr ≤ vl := by have := HLN.out; omega
  have hFR := Lib.hid hfr
  have hFL := Lib.hid (fS_len 0 (nxR bs))
  have hrl : Hid ((nxR bs).length = vl - fr) := by show _ = _; rw [hR1, List.length_drop, HLN.out]
  rw [hE, hD]
  have HUU := Lib.hid hU
  have hF : fE 0 (nxR bs) = 2 := rfl
  rw [hF]
  clear he hby hE hF hK hD hU hrr g1 g2 g3 g4 hfe hfr hR1
  go_enter Try.func36, Try.ntmps36
  go_wp2_with (first
      | ((with_reducible refine at_build (some 16) ?_); refine wpList_build rfl 48 _ rfl #[(0, .int .i64 0)] (by simp [Act.eval, Act.put]) (.agg FK) (BK.out _) ?_)
      | ((with_reducible refine at_store (.tmp 6) ?_); refine wpList_store_blk rfl 48 (.tmp 6) _ rfl w1.heap.size FK rfl rfl Z (Blk.new rfl) HZK.out HIK.out hFK1.out ?_; intro w2 U2 B2; have S2 := Lib.hid (S1.out.start (ls := [1, 238, 67, 70, 34, 34, 1, 1]) U2 (B2.to hFK.out.symm) hPL.out); clear U2 B2; obtain ⟨p2, c0, c1, c2, c3, hp2⟩ := S2.out.q.rd.three; have ck := S2.out.cell1 (v := .int .i64 0) 0 0 (by rw [← hPK.out]; rfl) rfl; rw [hse.out] at c2; rw [hp2, hFR.out] at c1; clear hp2)
      | (go_at_call 59; refine (D1.out _ S0.out.rd).mono ?_; rintro e w1 ⟨rfl, hr, hg⟩; have S1 := Lib.hid (S0.out.read (s' := s1) hr hg); clear hr hg)
      | ((with_reducible refine at_build (some 112) ?_); refine wpList_build rfl 48 _ rfl #[] (by simp) (.agg Z) (BZ.out _) ?_)
      | ((with_reducible refine at_store (.tmp 2) ?_); refine wpList_store_blk rfl 48 (.tmp 2) _ rfl w.heap.size Z rfl rfl Z S2.out.q.rv rfl HIZ.out HZ1.out ?_; intro w9 U9 B9))
  refine bodyPost_ret (res_cell_tmp2 rfl rfl rfl rfl B9 Try.underlying48 rfl HIZ.out) rfl ⟨Z, _, rfl, hZ0.out, HZ1.out, fun h0 => absurd h0 (by omega), U9.below (grownBy_below S2.out.q.gro (Nat.le_succ _) (Nat.le_refl _)) (Nat.le_refl _)⟩

set_option maxRecDepth 100000 in
set_option maxHeartbeats 16000000 in
theorem next_1 (v : Value) (bs : List Int) (w : World) (h : Byt w v bs) (hK : nxK bs = 1) (he : (nU 8 ⟨bs, 0⟩).e = 0) :
    Calls Try.prog 36 #[v] w (OpR w (nxD bs) (nxU bs : Nat) (nxE bs)) := by
  obtain ⟨va, vl, vc, rfl⟩ := h.shape
  have hby : byteL bs := h.rng
  have hblt := h.blk_lt
  have hfits := h.fits _ _ _ rfl
  have hln : bs.length = vl := by obtain ⟨_, _, _, e', hl, _⟩ := h.ints; cases e'; exact hl
  unfold maxLen at hfits
  obtain ⟨Z, hZ⟩ : ∃ Z, Hid (flatP ((kOp 0).parts nilV nilV nilV nilV) = Z) := ⟨_, rfl⟩
  have hZ0 : Hid (Z.size = 446) := by show _ = _; rw [← hZ.out]; rfl
  have HZ1 : Hid (∀ v ∈ Z, v.oneCell' = true) := by show ∀ _ ∈ _, _; rw [← hZ.out]; exact fun v hv => OpD.one (x := kOp 0) (v1 := nilV) (v2 := nilV) (v3 := nilV) (v4 := nilV) rfl rfl rfl rfl v hv
  obtain ⟨hzz, hst⟩ := zero_array (P := Try.prog) (t := 48) (n := 446) Z (by rw [← hZ.out]; exact zop_zero) hZ0.out (by rw [← hZ.out]; exact zop_one)
  have HIZ : Hid ((Try.prog.info? 48).map (·.size) = some Z.size) := by show _ = _; rw [hZ0.out]; exact info_op
  have BZ := Lib.hid build_zop
  rw [hZ.out] at BZ
  have hba := ((Below.refl w.heap.size w).alloc (Nat.le_refl _) (.cells Z 48)).alloc (by simp) (.cells #[.slice va vl vc, .int .i64 0, .int .i64 0] 103)
  have S0 : Hid (DQ (w.heap.size + 1) va vl vc bs w.heap.size Z w ((w.alloc (.cells Z 48)).alloc (.cells #[.slice va vl vc, .int .i64 0, .int .i64 0] 103)) ⟨bs, 0⟩) :=
    ⟨Rfs.mk' (p := 0) ⟨Blk.new (by simp), h.below hba, Nat.zero_le _, fun x hx h0 => by have := hblt x hx h0; omega⟩ (by simp), (Blk.new rfl).alloc _, grownBy_of_below hba, by omega, Nat.le_refl _, fun x hx h0 => by have := hblt x hx h0; omega⟩
  have HY := Lib.hid (fun u (hu : Below w.heap.size w u) => h.below hu)
  have HLN := Lib.hid hln
  clear hba h hln
  obtain ⟨s1, hs1⟩ : ∃ s1, Hid (nU 8 ⟨bs, 0⟩ = s1) := ⟨_, rfl⟩
  have D1 : Hid (∀ u, Rfs u (w.heap.size + 1) va vl vc bs ⟨bs, 0⟩ → Calls Try.prog 59 #[.pointer (some ⟨w.heap.size + 1, 0, none⟩), .int .u64 8] u (RfV u (w.heap.size + 1) va vl vc bs (.int .u64 (nxK bs)) s1)) := fun u h => by
    have := rfu_any _ va vl vc bs _ 8 u h (by omega) (by omega)
    rw [← hs1.out]; exact this
  rw [hK] at D1
  obtain ⟨PK, hPK⟩ : ∃ PK, Hid ((kOp 1).parts nilV nilV nilV nilV = PK) := ⟨_, rfl⟩
  obtain ⟨FK, hFK⟩ : ∃ FK, Hid (flatP PK = FK) := ⟨_, rfl⟩
  have BK := Lib.hid (build_kind 1)
  rw [hPK.out, hFK.out] at BK
  have hPL : Hid (PK.map List.length = [1, 238, 67, 70, 34, 34, 1, 1]) := by show _ = _; rw [← hPK.out]; rfl
  have hFK0 : Hid (FK.size = 446) := by show _ = _; rw [← hFK.out, ← hPK.out]; rfl
  have hFK1 : Hid (∀ v ∈ FK, v.oneCell' = true) := by show ∀ _ ∈ _, _; rw [← hFK.out, ← hPK.out]; exact fun v hv => OpD.one (x := kOp 1) (v1 := nilV) (v2 := nilV) (v3 := nilV) (v4 := nilV) rfl rfl rfl rfl v hv
  have HIK : Hid ((Try.prog.info? 48).map (·.size) = some FK.size) := by show _ = _; rw [hFK0.out]; exact info_op
  have HZK : Hid (Z.size = FK.size) := by show _ = _; rw [hZ0.out, hFK0.out]
  have hE : nxE bs = fE 1 (nxR bs) := by unfold nxE; rw [if_neg (by simpa using he), hK]
  have hD : nxD bs = fD 1 (nxR bs) := by unfold nxD; rw [hK]
  have hU : nxU bs = bs.length - (fS 1 (nxR bs)).r.length := by unfold nxU nxT; rw [hK]
  have hrr : nxR bs = s1.r := by unfold nxR; rw [hs1.out]
  have hse : Hid (s1.e = 0) := by show _ = _; rw [← hs1.out]; exact he
  obtain ⟨fr, hfr⟩ : ∃ fr : Nat, bs.length - s1.r.length = fr := ⟨_, rfl⟩
  obtain ⟨g1, g2, g3, g4⟩ := nU_less he
  rw [hs1.out] at g1
  have hfe : fr = (pu bs 10 0).2.1.toNat := by rw [← hfr, g1, List.length_drop]; omega
  have hR1 : nxR bs = bs.drop fr := by rw [hrr, g1, hfe]
  have hfl : fr ≤ vl := by have := HLN.out; omega
  have hFR := Lib.hid hfr
  have hFL := Lib.hid (fS_len 1 (nxR bs))
  have hrl : Hid ((nxR bs).length = vl - fr) := by show _ = _; rw [hR1, List.length_drop, HLN.out]
  rw [hE, hD]
  have HUU := Lib.hid hU
  have hF : fE 1 (nxR bs) = 0 := rfl
  have hin : Hid (∀ u, OpIn (New w.heap.size) u FK (fD 1 (nxR bs))) := fun u => by rw [← hFK.out, ← hPK.out]; exact kOp_in (by unfold i64R; omega) _ _
  rw [hF]
  have hU9 : Hid ((fr : Int) = (nxU bs : Nat)) := by
    show _ = _
    have e : (fS 1 (nxR bs)).r.length = (nxR bs).length := rfl
    rw [HUU.out, e, hrl.out, HLN.out]; omega
  clear he hby hE hF hK hD hU hrr g1 g2 g3 g4 hfe hfr hR1
  go_enter Try.func36, Try.ntmps36
  go_wp2_with (first
      | ((with_reducible refine at_build (some 16) ?_); refine wpList_build rfl 48 _ rfl #[(0, .int .i64 1)] (by simp [Act.eval, Act.put]) (.agg FK) (BK.out _) ?_)
      | ((with_reducible refine at_store (.tmp 6) ?_); refine wpList_store_blk rfl 48 (.tmp 6) _ rfl w1.heap.size FK rfl rfl Z (Blk.new rfl) HZK.out HIK.out hFK1.out ?_; intro w2 U2 B2; have S2 := Lib.hid (S1.out.start (ls := [1, 238, 67, 70, 34, 34, 1, 1]) U2 (B2.to hFK.out.symm) hPL.out); clear U2 B2; obtain ⟨p2, c0, c1, c2, c3, hp2⟩ := S2.out.q.rd.three; have ck := S2.out.cell1 (v := .int .i64 1) 0 0 (by rw [← hPK.out]; rfl) rfl; rw [hse.out] at c2; rw [hp2, hFR.out] at c1; clear hp2; have XB := Lib.hid (S2.out.xv.to hFK.out))
      | (go_at_call 59; refine (D1.out _ S0.out.rd).mono ?_; rintro e w1 ⟨rfl, hr, hg⟩; have S1 := Lib.hid (S0.out.read (s' := s1) hr hg); clear hr hg)
      | ((with_reducible refine at_load (.tmp 6) ?_); refine wpList_load_g 48 (.tmp 6) rfl w1.heap.size rfl FK _ XB.out Try.underlying48 rfl HIK.out rfl ?_)
      | ((with_reducible refine at_store (.tmp 2) ?_); refine wpList_store_blk rfl 48 (.tmp 2) _ rfl w.heap.size FK rfl rfl Z S2.out.q.rv HZK.out HIK.out hFK1.out ?_; intro w9 U9 B9))
  refine bodyPost_ret (res_cell_tmp2 rfl rfl rfl rfl B9 Try.underlying48 rfl HIK.out) rfl ⟨FK, _, rfl, hFK0.out, hFK1.out, fun h0 => ⟨?_, hin.out _⟩, U9.below (grownBy_below S2.out.q.gro (Nat.le_succ _) (Nat.le_refl _)) (Nat.le_refl _)⟩
  first | exact hU9.out | (rw [← hU9.out]; unfold wrap64; omega)

set_option maxRecDepth 100000 in
set_option maxHeartbeats 16000000 in
theorem next_7 (v : Value) (bs : List Int) (w : World) (h : Byt w v bs) (hK : nxK bs = 7) (he : (nU 8 ⟨bs, 0⟩).e = 0) :
    Calls Try.prog 36 #[v] w (OpR w (nxD bs) (nxU bs : Nat) (nxE bs)) := by
  obtain ⟨va, vl, vc, rfl⟩ := h.shape
  have hby : byteL bs := h.rng
  have hblt := h.blk_lt
  have hfits := h.fits _ _ _ rfl
  have hln : bs.length = vl := by obtain ⟨_, _, _, e', hl, _⟩ := h.ints; cases e'; exact hl
  unfold maxLen at hfits
  obtain ⟨Z, hZ⟩ : ∃ Z, Hid (flatP ((kOp 0).parts nilV nilV nilV nilV) = Z) := ⟨_, rfl⟩
  have hZ0 : Hid (Z.size = 446) := by show _ = _; rw [← hZ.out]; rfl
  have HZ1 : Hid (∀ v ∈ Z, v.oneCell' = true) := by show ∀ _ ∈ _, _; rw [← hZ.out]; exact fun v hv => OpD.one (x := kOp 0) (v1 := nilV) (v2 := nilV) (v3 := nilV) (v4 := nilV) rfl rfl rfl rfl v hv
  obtain ⟨hzz, hst⟩ := zero_array (P := Try.prog) (t := 48) (n := 446) Z (by rw [← hZ.out]; exact zop_zero) hZ0.out (by rw [← hZ.out]; exact zop_one)
  have HIZ : Hid ((Try.prog.info? 48).map (·.size) = some Z.size) := by show _ = _; rw [hZ0.out]; exact info_op
  have BZ := Lib.hid build_zop
  rw [hZ.out] at BZ
  have hba := ((Below.refl w.heap.size w).alloc (Nat.le_refl _) (.cells Z 48)).alloc (by simp) (.cells #[.slice va vl vc, .int .i64 0, .int .i64 0] 103)
  have S0 : Hid (DQ (w.heap.size + 1) va vl vc bs w.heap.size Z w ((w.alloc (.cells Z 48)).alloc (.cells #[.slice va vl vc, .int .i64 0, .int .i64 0] 103)) ⟨bs, 0⟩) :=
    ⟨Rfs.mk' (p := 0) ⟨Blk.new (by simp), h.below hba, Nat.zero_le _, fun x hx h0 => by have := hblt x hx h0; omega⟩ (by simp), (Blk.new rfl).alloc _, grownBy_of_below hba, by omega, Nat.le_refl _, fun x hx h0 => by have := hblt x hx h0; omega⟩
  have HY := Lib.hid (fun u (hu : Below w.heap.size w u) => h.below hu)
  have HLN := Lib.hid hln
  clear hba h hln
  obtain ⟨s1, hs1⟩ : ∃ s1, Hid (nU 8 ⟨bs, 0⟩ = s1) := ⟨_, rfl⟩
  have D1 : Hid (∀ u, Rfs u (w.heap.size + 1) va vl vc bs ⟨bs, 0⟩ → Calls Try.prog 59 #[.pointer (some ⟨w.heap.size + 1, 0, none⟩), .int .u64 8] u (RfV u (w.heap.size + 1) va vl vc bs (.int .u64 (nxK bs)) s1)) := fun u h => by
    have := rfu_any _ va vl vc bs _ 8 u h (by omega) (by omega)
    rw [← hs1.out]; exact this
  rw [hK] at D1
  obtain ⟨PK, hPK⟩ : ∃ PK, Hid ((kOp 7).parts nilV nilV nilV nilV = PK) := ⟨_, rfl⟩
  obtain ⟨FK, hFK⟩ : ∃ FK, Hid (flatP PK = FK) := ⟨_, rfl⟩
  have BK := Lib.hid (build_kind 7)
  rw [hPK.out, hFK.out] at BK
  have hPL : Hid (PK.map List.length = [1, 238, 67, 70, 34, 34, 1, 1]) := by show _ = _; rw [← hPK.out]; rfl
  have hFK0 : Hid (FK.size = 446) := by show _ = _; rw [← hFK.out, ← hPK.out]; rfl
  have hFK1 : Hid (∀ v ∈ FK, v.oneCell' = true) := by show ∀ _ ∈ _, _; rw [← hFK.out, ← hPK.out]; exact fun v hv => OpD.one (x := kOp 7) (v1 := nilV) (v2 := nilV) (v3 := nilV) (v4 := nilV) rfl rfl rfl rfl v hv
  have HIK : Hid ((Try.prog.info? 48).map (·.size) = some FK.size) := by show _ = _; rw [hFK0.out]; exact info_op
  have HZK : Hid (Z.size = FK.size) := by show _ = _; rw [hZ0.out, hFK0.out]
  have hE : nxE bs = fE 7 (nxR bs) := by unfold nxE; rw [if_neg (by simpa using he), hK]
  have hD : nxD bs = fD 7 (nxR bs) := by unfold nxD; rw [hK]
  have hU : nxU bs = bs.length - (fS 7 (nxR bs)).r.length := by unfold nxU nxT; rw [hK]
  have hrr : nxR bs = s1.r := by unfold nxR; rw [hs1.out]
  have hse : Hid (s1.e = 0) := by show _ = _; rw [← hs1.out]; exact he
  obtain ⟨fr, hfr⟩ : ∃ fr : Nat, bs.length - s1.r.length = fr := ⟨_, rfl⟩
  obtain ⟨g1, g2, g3, g4⟩ := nU_less he
  rw [hs1.out] at g1
  have hfe : fr = (pu bs 10 0).2.1.toNat := by rw [← hfr, g1, List.length_drop]; omega
  have hR1 : nxR bs = bs.drop fr := by rw [hrr, g1, hfe]
  have hfl : fr ≤ vl := by have := HLN.out; omega
  have hFR := Lib.hid hfr
  have hFL := Lib.hid (fS_len 7 (nxR bs))
  have hrl : Hid ((nxR bs).length = vl - fr) := by show _ = _; rw [hR1, List.length_drop, HLN.out]
  rw [hE, hD]
  have HUU := Lib.hid hU
  have hF : fE 7 (nxR bs) = 0 := rfl
  have hin : Hid (∀ u, OpIn (New w.heap.size) u FK (fD 7 (nxR bs))) := fun u => by rw [← hFK.out, ← hPK.out]; exact kOp_in (by unfold i64R; omega) _ _
  rw [hF]
  have hU9 : Hid ((fr : Int) = (nxU bs : Nat)) := by
    show _ = _
    have e : (fS 7 (nxR bs)).r.length = (nxR bs).length := rfl
    rw [HUU.out, e, hrl.out, HLN.out]; omega
  clear he hby hE hF hK hD hU hrr g1 g2 g3 g4 hfe hfr hR1
  go_enter Try.func36, Try.ntmps36
  go_wp2_with (first
      | ((with_reducible refine at_build (some 16) ?_); refine wpList_build rfl 48 _ rfl #[(0, .int .i64 7)] (by simp [Act.eval, Act.put]) (.agg FK) (BK.out _) ?_)
      | ((with_reducible refine at_store (.tmp 6) ?_); refine wpList_store_blk rfl 48 (.tmp 6) _ rfl w1.heap.size FK rfl rfl Z (Blk.new rfl) HZK.out HIK.out hFK1.out ?_; intro w2 U2 B2; have S2 := Lib.hid (S1.out.start (ls := [1, 238, 67, 70, 34, 34, 1, 1]) U2 (B2.to hFK.out.symm) hPL.out); clear U2 B2; obtain ⟨p2, c0, c1, c2, c3, hp2⟩ := S2.out.q.rd.three; have ck := S2.out.cell1 (v := .int .i64 7) 0 0 (by rw [← hPK.out]; rfl) rfl; rw [hse.out] at c2; rw [hp2, hFR.out] at c1; clear hp2; have XB := Lib.hid (S2.out.xv.to hFK.out))
      | (go_at_call 59; refine (D1.out _ S0.out.rd).mono ?_; rintro e w1 ⟨rfl, hr, hg⟩; have S1 := Lib.hid (S0.out.read (s' := s1) hr hg); clear hr hg)
      | ((with_reducible refine at_load (.tmp 6) ?_); refine wpList_load_g 48 (.tmp 6) rfl w1.heap.size rfl FK _ XB.out Try.underlying48 rfl HIK.out rfl ?_)
      | ((with_reducible refine at_store (.tmp 2) ?_); refine wpList_store_blk rfl 48 (.tmp 2) _ rfl w.heap.size FK rfl rfl Z S2.out.q.rv HZK.out HIK.out hFK1.out ?_; intro w9 U9 B9))
  refine bodyPost_ret (res_cell_tmp2 rfl rfl rfl rfl B9 Try.underlying48 rfl HIK.out) rfl ⟨FK, _, rfl, hFK0.out, hFK1.out, fun h0 => ⟨?_, hin.out _⟩, U9.below (grownBy_below S2.out.q.gro (Nat.le_succ _) (Nat.le_refl _)) (Nat.le_refl _)⟩
  first | exact hU9.out | (rw [← hU9.out]; unfold wrap64; omega)

set_option maxRecDepth 100000 in
set_option maxHeartbeats 16000000 in
theorem next_8 (v : Value) (bs : List Int) (w : World) (h : Byt w v bs) (hK : nxK bs = 8) (he : (nU 8 ⟨bs, 0⟩).e = 0) :
    Calls Try.prog 36 #[v] w (OpR w (nxD bs) (nxU bs : Nat) (nxE bs)) := by
  obtain ⟨va, vl, vc, rfl⟩ := h.shape
  have hby : byteL bs := h.rng
  have hblt := h.blk_lt
  have hfits := h.fits _ _ _ rfl
  have hln : bs.length = vl := by obtain ⟨_, _, _, e', hl, _⟩ := h.ints; cases e'; exact hl
  unfold maxLen at hfits
  obtain ⟨Z, hZ⟩ : ∃ Z, Hid (flatP ((kOp 0).parts nilV nilV nilV nilV) = Z) := ⟨_, rfl⟩
  have hZ0 : Hid (Z.size = 446) := by show _ = _; rw [← hZ.out]; rfl
  have HZ1 : Hid (∀ v ∈ Z, v.oneCell' = true) := by show ∀ _ ∈ _, _; rw [← hZ.out]; exact fun v hv => OpD.one (x := kOp 0) (v1 := nilV) (v2 := nilV) (v3 := nilV) (v4 := nilV) rfl rfl rfl rfl v hv
  obtain ⟨hzz, hst⟩ := zero_array (P := Try.prog) (t := 48) (n := 446) Z (by rw [← hZ.out]; exact zop_zero) hZ0.out (by rw [← hZ.out]; exact zop_one)
  have HIZ : Hid ((Try.prog.info? 48).map (·.size) = some Z.size) := by show _ = _; rw [hZ0.out]; exact info_op
  have BZ := Lib.hid build_zop
  rw [hZ.out] at BZ
  have hba := ((Below.refl w.heap.size w).alloc (Nat.le_refl _) (.cells Z 48)).alloc (by simp) (.cells #[.slice va vl vc, .int .i64 0, .int .i64 0] 103)
  have S0 : Hid (DQ (w.heap.size + 1) va vl vc bs w.heap.size Z w ((w.alloc (.cells Z 48)).alloc (.cells #[.slice va vl vc, .int .i64 0, .int .i64 0] 103)) ⟨bs, 0⟩) :=
    ⟨Rfs.mk' (p := 0) ⟨Blk.new (by simp), h.below hba, Nat.zero_le _, fun x hx h0 => by have := hblt x hx h0; omega⟩ (by simp), (Blk.new rfl).alloc _, grownBy_of_below hba, by omega, Nat.le_refl _, fun x hx h0 => by have := hblt x hx h0; omega⟩
  have HY := Lib.hid (fun u (hu : Below w.heap.size w u) => h.below hu)
  have HLN := Lib.hid hln
  clear hba h hln
  obtain ⟨s1, hs1⟩ : ∃ s1, Hid (nU 8 ⟨bs, 0⟩ = s1) := ⟨_, rfl⟩
  have D1 : Hid (∀ u, Rfs u (w.heap.size + 1) va vl vc bs ⟨bs, 0⟩ → Calls Try.prog 59 #[.pointer (some ⟨w.heap.size + 1, 0, none⟩), .int .u64 8] u (RfV u (w.heap.size + 1) va vl vc bs (.int .u64 (nxK bs)) s1)) := fun u h => by
    have := rfu_any _ va vl vc bs _ 8 u h (by omega) (by omega)
    rw [← hs1.out]; exact this
  rw [hK] at D1
  obtain ⟨PK, hPK⟩ : ∃ PK, Hid ((kOp 8).parts nilV nilV nilV nilV = PK) := ⟨_, rfl⟩
  obtain ⟨FK, hFK⟩ : ∃ FK, Hid (flatP PK = FK) := ⟨_, rfl⟩
  have BK := Lib.hid (build_kind 8)
  rw [hPK.out, hFK.out] at BK
  have hPL : Hid (PK.map List.length = [1, 238, 67, 70, 34, 34, 1, 1]) := by show _ = _; rw [← hPK.out]; rfl
  have hFK0 : Hid (FK.size = 446) := by show _ = _; rw [← hFK.out, ← hPK.out]; rfl
  have hFK1 : Hid (∀ v ∈ FK, v.oneCell' = true) := by show ∀ _ ∈ _, _; rw [← hFK.out, ← hPK.out]; exact fun v hv => OpD.one (x := kOp 8) (v1 := nilV) (v2 := nilV) (v3 := nilV) (v4 := nilV) rfl rfl rfl rfl v hv
  have HIK : Hid ((Try.prog.info? 48).map (·.size) = some FK.size) := by show _ = _; rw [hFK0.out]; exact info_op
  have HZK : Hid (Z.size = FK.size) := by show _ = _; rw [hZ0.out, hFK0.out]
  have hE : nxE bs = fE 8 (nxR bs) := by unfold nxE; rw [if_neg (by simpa using he), hK]
  have hD : nxD bs = fD 8 (nxR bs) := by unfold nxD; rw [hK]
  have hU : nxU bs = bs.length - (fS 8 (nxR bs)).r.length := by unfold nxU nxT; rw [hK]
  have hrr : nxR bs = s1.r := by unfold nxR; rw [hs1.out]
  have hse : Hid (s1.e = 0) := by show _ = _; rw [← hs1.out]; exact he
  obtain ⟨fr, hfr⟩ : ∃ fr : Nat, bs.length - s1.r.length = fr := ⟨_, rfl⟩
  obtain ⟨g1, g2, g3, g4⟩ := nU_less he
  rw [hs1.out] at g1
  have hfe : fr = (pu bs 10 0).2.1.toNat := by rw [← hfr, g1, List.length_drop]; omega
  have hR1 : nxR bs = bs.drop fr := by rw [hrr, g1, hfe]
  have hfl : fr ≤ vl := by have := HLN.out; omega
  have hFR := Lib.hid hfr
  have hFL := Lib.hid (fS_len 8 (nxR bs))
  have hrl : Hid ((nxR bs).length = vl - fr) := by show _ = _; rw [hR1, List.length_drop, HLN.out]
  rw [hE, hD]
  have HUU := Lib.hid hU
  have hB8 : fB 8 (nxR bs) = true := rfl
  have hF : fE 8 (nxR bs) = (fS 8 (nxR bs)).e := by unfold fE; rw [hB8]; unfold finE; split <;> simp_all
  have es1 : s1 = ⟨nxR bs, 0⟩ := by rw [hrr]; have := hse.out; cases s1; simp only at this; rw [this]
  obtain ⟨s2, hs2⟩ : ∃ s2, Hid (nU 32768 s1 = s2) := ⟨_, rfl⟩
  obtain ⟨s3, hs3⟩ : ∃ s3, Hid (nU 32768 s2 = s3) := ⟨_, rfl⟩
  have e8 : fS 8 (nxR bs) = s3 := by rw [← hs3.out, ← hs2.out, es1]; rfl
  have hby1 : byteL s1.r := by rw [g1]; exact fun x hx => hby x (List.mem_of_mem_drop hx)
  have hr1 := vU_rng (m := 32768) (s := s1) hby1 (by omega)
  have hr2 := vU_rng (m := 32768) (s := s2) (by rw [← hs2.out]; exact nU_byte hby1) (by omega)
  have hFD : fD 8 (nxR bs) = { kOp 8 with w := vU 32768 s1, p := vU 32768 s2 } := by rw [← hs2.out, es1]; rfl
  have DW : Hid (∀ u, Rfs u (w.heap.size + 1) va vl vc bs s1 → Calls Try.prog 59 #[.pointer (some ⟨w.heap.size + 1, 0, none⟩), .int .u64 32768] u (RfV u (w.heap.size + 1) va vl vc bs (.int .u64 (vU 32768 s1)) s2)) := fun u h => by
    rw [← hs2.out]; exact rfu_any _ va vl vc bs _ 32768 u h (by omega) (by omega)
  have DP : Hid (∀ u, Rfs u (w.heap.size + 1) va vl vc bs s2 → Calls Try.prog 59 #[.pointer (some ⟨w.heap.size + 1, 0, none⟩), .int .u64 32768] u (RfV u (w.heap.size + 1) va vl vc bs (.int .u64 (vU 32768 s2)) s3)) := fun u h => by
    rw [← hs3.out]; exact rfu_any _ va vl vc bs _ 32768 u h (by omega) (by omega)
  rw [hF, hFD]
  rw [e8] at HUU hFL ⊢
  obtain ⟨x, hx⟩ : ∃ x, Hid (vU 32768 s1 = x) := ⟨_, rfl⟩
  obtain ⟨y, hy⟩ : ∃ y, Hid (vU 32768 s2 = y) := ⟨_, rfl⟩
  rw [hx.out] at hr1 DW
  rw [hy.out] at hr2 DP
  rw [hx.out, hy.out]
  have hok : OpD.ok { kOp 8 with w := x, p := y } := by
    have := kOp_ok (k := 8) (by unfold i64R; omega)
    exact ⟨this.1, this.2.1, this.2.2.1, this.2.2.2.1, this.2.2.2.2.1, this.2.2.2.2.2.1, this.2.2.2.2.2.2.1, by show i64R x; unfold i64R; omega, by show i64R y; unfold i64R; omega⟩
  have hp : (PK.set 6 [.int .i64 x]).set 7 [.int .i64 y] = OpD.parts { kOp 8 with w := x, p := y } nilV nilV nilV nilV := by rw [← hPK.out]; rfl
  have hin : Hid (∀ u, OpIn (New w.heap.size) u (flatP ((PK.set 6 [.int .i64 x]).set 7 [.int .i64 y])) { kOp 8 with w := x, p := y }) := fun u => by
    rw [hp]
    exact ⟨nilV, nilV, nilV, nilV, rfl, hok, ⟨intsV_nil _, New.nil _⟩, ⟨intsV_nil _, New.nil _⟩, ⟨intsV_nil _, New.nil _⟩, ⟨numsV_nil _, New.nil _⟩⟩
  obtain ⟨F, hF8⟩ : ∃ F, Hid (flatP ((PK.set 6 [.int .i64 x]).set 7 [.int .i64 y]) = F) := ⟨_, rfl⟩
  rw [hF8.out] at hin
  have HF1 := Lib.hid (hin.out w).one
  have HF0 := Lib.hid (hin.out w).size
  have HIF : Hid ((Try.prog.info? 48).map (·.size) = some F.size) := by show _ = _; rw [HF0.out]; exact info_op
  have HZF : Hid (Z.size = F.size) := by show _ = _; rw [hZ0.out, HF0.out]
  obtain ⟨E, hE3⟩ : ∃ E, Hid (s3.e = E) := ⟨_, rfl⟩
  rw [hE3.out]
  clear he hby hE hF hB8 es1 e8 hby1 hFD hok hp hK hD hU hrr g1 g2 g3 g4 hfe hfr hR1
  go_enter Try.func36, Try.ntmps36
  go_wp2_with (first
      | ((with_reducible refine at_build (some 16) ?_); refine wpList_build rfl 48 _ rfl #[(0, .int .i64 8)] (by simp [Act.eval, Act.put]) (.agg FK) (BK.out _) ?_)
      | ((with_reducible refine at_store (.tmp 6) ?_); refine wpList_store_blk rfl 48 (.tmp 6) _ rfl w1.heap.size FK rfl rfl Z (Blk.new rfl) HZK.out HIK.out hFK1.out ?_; intro w2 U2 B2; have S2 := Lib.hid (S1.out.start (ls := [1, 238, 67, 70, 34, 34, 1, 1]) U2 (B2.to hFK.out.symm) hPL.out); clear U2 B2; obtain ⟨p2, c0, c1, c2, c3, hp2⟩ := S2.out.q.rd.three; have ck := S2.out.cell1 (v := .int .i64 8) 0 0 (by rw [← hPK.out]; rfl) rfl; rw [hse.out] at c2; rw [hp2, hFR.out] at c1; clear hp2)
      | (go_at_call 59; refine (DP.out _ S3.out.q.rd).mono ?_; rintro e w4 ⟨rfl, hr, hg⟩; have S4 := Lib.hid (S3.out.read (s' := s3) hr hg); clear hr hg)
      | (go_at_call 59; refine (DW.out _ S2.out.q.rd).mono ?_; rintro e w3 ⟨rfl, hr, hg⟩; have S3 := Lib.hid (S2.out.read (s' := s2) hr hg); clear hr hg c0 c1 c2 c3 ck)
      | (go_at_call 59; refine (D1.out _ S0.out.rd).mono ?_; rintro e w1 ⟨rfl, hr, hg⟩; have S1 := Lib.hid (S0.out.read (s' := s1) hr hg); clear hr hg)
      | ((with_reducible refine at_store (.tmp 98) ?_); refine wpList_store_dr1 rfl 3 (.tmp 98) _ rfl S4.out 6 444 (.int .i64 x) rfl rfl rfl rfl (by kernel_rfl) rfl rfl ?_; intro w5 U5 S5'; have S5 := Lib.hid S5'; clear S5' U5)
      | ((with_reducible refine at_store (.tmp 99) ?_); refine wpList_store_dr1 rfl 3 (.tmp 99) _ rfl S5.out 7 445 (.int .i64 y) rfl rfl rfl rfl (by kernel_rfl) rfl rfl ?_; intro w6 U6 S6'; have S6 := Lib.hid S6'; have XB := Lib.hid (S6'.xv.to hF8.out); clear S6' U6; obtain ⟨p6, d0, d1, d2, d3, hp6⟩ := S6.out.q.rd.three; rw [hE3.out] at d2; rw [hp6] at d1; clear hp6)
      | fail)
  obtain ⟨AT, hAT⟩ : ∃ AT : Nat, Hid (bs.length - s3.r.length = AT) := ⟨_, rfl⟩
  rw [hAT.out] at d1
  have hATr : AT ≤ vl := by rw [← hAT.out, HLN.out]; omega
  have hUA : Hid (E = 0 → (fr : Int) + ((AT : Int) - (fr : Int)) = (nxU bs : Nat)) := fun _ => by
    rw [HUU.out, ← hAT.out]; omega
  go_quiet (fail)
  by_cases h0 : E = 0
  case neg =>
    have hne : (E != 0) = true := by simpa using h0
    have HNE := Lib.hid h0; clear h0
    go_wp2_with (first
      | ((with_reducible refine at_build (some 112) ?_); refine wpList_build rfl 48 _ rfl #[] (by simp) (.agg Z) (BZ.out _) ?_)
      | ((with_reducible refine at_store (.tmp 2) ?_); refine wpList_store_blk rfl 48 (.tmp 2) _ rfl w.heap.size Z rfl rfl Z S6.out.q.rv rfl HIZ.out HZ1.out ?_; intro w9 U9 B9))
    refine bodyPost_ret (res_cell_tmp2 rfl rfl rfl rfl B9 Try.underlying48 rfl HIZ.out) rfl ⟨Z, _, rfl, hZ0.out, HZ1.out, fun h0 => absurd h0 HNE.out, U9.below (Below.drewN (grownBy_below S6.out.q.gro (Nat.le_succ _) (Nat.le_refl _))) (Nat.le_refl _)⟩
  case pos =>
    subst h0
    go_wp2_with (first
      | ((with_reducible refine at_load (.tmp 6) ?_); refine wpList_load_g 48 (.tmp 6) rfl w1.heap.size rfl F _ XB.out Try.underlying48 rfl HIF.out rfl ?_)
      | ((with_reducible refine at_store (.tmp 2) ?_); refine wpList_store_blk rfl 48 (.tmp 2) _ rfl w.heap.size F rfl rfl Z S6.out.q.rv HZF.out HIF.out HF1.out ?_; intro w9 U9 B9))
    refine bodyPost_ret (res_cell_tmp2 rfl rfl rfl rfl B9 Try.underlying48 rfl HIF.out) rfl ⟨F, _, rfl, HF0.out, HF1.out, fun h0 => ⟨?_, hin.out _⟩, U9.below (Below.drewN (grownBy_below S6.out.q.gro (Nat.le_succ _) (Nat.le_refl _))) (Nat.le_refl _)⟩
    have h9 := hUA.out (by trivial); first | exact h9 | (rw [← h9]; unfold wrap64; omega)

theorem next_any (v : Value) (bs : List Int) (w : World) (h : Byt w v bs) : Calls Try.prog 36 #[v] w (OpR w (nxD bs) (nxU bs : Nat) (nxE bs)) := by
  by_cases he : (nU 8 ⟨bs, 0⟩).e = 0
  · have hkr : 0 ≤ nxK bs ∧ nxK bs ≤ 8 := vU_rng (m := 8) (s := ⟨bs, 0⟩) h.rng (by omega)
    obtain hk | hk | hk | hk | hk | hk | hk | hk | hk : nxK bs = 0 ∨ nxK bs = 1 ∨ nxK bs = 2 ∨ nxK bs = 3 ∨ nxK bs = 4 ∨ nxK bs = 5 ∨ nxK bs = 6 ∨ nxK bs = 7 ∨ nxK bs = 8 := by omega
    · exact next_0 v bs w h hk he
    · exact next_1 v bs w h hk he
    · exact next_2 v bs w h hk he
    · exact next_3 v bs w h hk he
    · exact next_4 v bs w h hk he
    · exact next_5 v bs w h hk he
    · exact next_6 v bs w h hk he
    · exact next_7 v bs w h hk he
    · exact next_8 v bs w h hk he
  · exact next_err v bs w h he
end

/-! ScS -/
section
set_option linter.unusedVariables false
set_option linter.unusedSimpArgs false
open Go.RowKit

set_option maxRecDepth 100000 in
set_option maxHeartbeats 8000000 in
theorem rdecos_any (v : Value) (bs : List Int) (w : World) (h : Byt w v bs) (hb : bs.length ≤ 20604) :
    Calls Try.prog 22 #[v] w (DosR w (dopT bs)) := by
  obtain ⟨va, vl, vc, rfl⟩ := h.shape
  have hln : bs.length = vl := by obtain ⟨_, _, _, e', hl, _⟩ := h.ints; cases e'; exact hl
  have hfits := h.fits _ _ _ rfl
  unfold maxLen at hfits
  have hvl : vl ≤ 20604 := by omega
  have HY := Lib.hid (fun u (hu : Below w.heap.size w u) => h.below hu)
  obtain ⟨T, hT⟩ : ∃ T, Hid (dopT bs = T) := ⟨_, rfl⟩
  rw [hT.out]
  obtain ⟨Z, hZ⟩ : ∃ Z, Hid (Z = flatP ((kOp 0).parts nilV nilV nilV nilV)) := ⟨_, rfl⟩
  have hZ0 : Z.size = 446 := by rw [hZ.out]; rfl
  obtain ⟨hzz, hst⟩ := zero_array (P := Try.prog) (t := 48) (n := 446) Z (by rw [hZ.out]; exact zop_zero) hZ0 (by rw [hZ.out]; exact zop_one)
  have HZ0 := Lib.hid hZ0
  have HLN := Lib.hid hln
  have HZI : Hid (Try.prog.info? 48 |>.map (fun i => (i.zero, i.size, i.bytes))).isSome := by show _ = true; rw [info_opc]; rfl
  clear h hln hb hZ0
  go_enter Try.func22, Try.ntmps22
  go_wp2_with fail
  go_loopw [5, 6] (fun v u wr => DoI w bs T v u wr) (fun _ u _ => vl - (intOf u).toNat)
  case atStart =>
    refine ⟨[], 0, bs.length + 1, rfl, Nat.zero_le _, Nat.zero_le _, by omega, OwnEl.nil _ _, Below.refl _ w, ?_⟩
    rw [← hT.out]; rfl
  case round =>
    obtain ⟨ds, k, f, rfl, hk, hd, hf, how, hbl, hTT⟩ := hrel
    obtain ⟨f, rfl⟩ : ∃ f', f = f' + 1 := ⟨f - 1, by omega⟩
    obtain ⟨oa, oc, rfl, _, _, _⟩ := how.shape
    rw [dops] at hTT
    have hk2 : k ≤ vl := by rw [← HLN.out]; exact hk
    have hnd : (ds.length : Int) ≤ 4096 := by omega
    by_cases hend : bs.length ≤ k
    · have hke : k = vl := by have := HLN.out; omega
      subst hke
      rw [if_pos hend, List.append_nil] at hTT
      have HE : Hid (DosR w T (.returned (.tuple #[.slice oa ds.length oc, .int .i64 (k : Nat), .int .i64 0])) wr) := by
        rw [← hTT]; exact ⟨_, rfl, how.elV opE, hbl⟩
      clear how hbl hTT hend
      go_wp2_with fail
      go_ret3
      exact HE.out
    · rw [if_neg hend] at hTT
      have hlt : k < vl := by have := HLN.out; omega
      have hlt2 : (k : Int) < (vl : Int) := by omega
      by_cases hfull : ds.length = 4096
      · rw [if_pos hfull, List.append_nil] at hTT
        have HE : Hid (DosR w T (.returned (.tuple #[.slice oa ds.length oc, .int .i64 (k : Nat), .int .i64 11])) wr) := by
          rw [← hTT]; exact ⟨_, rfl, how.elV opE, hbl⟩
        have hfi : ((ds.length : Int) == 4096) = true := by simp; omega
        have HFU := Lib.hid hfull
        clear how hbl hTT hend hfull
        go_wp2_with fail
        go_ret3
        exact HE.out
      · rw [if_neg hfull] at hTT
        have hfi : ((ds.length : Int) == 4096) = false := by simp; omega
        have hd2 : ds.length < 4096 := by omega
        obtain ⟨bv, hbv⟩ : ∃ bv, Hid (Value.slice (if vc = k then va else va.map (·.add k)) (vl - k) (vc - k) = bv) := ⟨_, rfl⟩
        have HYK := (HY.out wr hbl).drop hk2
        rw [hbv.out] at HYK
        have HD := Lib.hid (next_any bv (bs.drop k) wr HYK)
        unfold OpR T3 at HD
        obtain ⟨E, hE⟩ : ∃ E, Hid (nxE (bs.drop k) = E) := ⟨_, rfl⟩
        obtain ⟨U, hU⟩ : ∃ U : Nat, Hid (nxU (bs.drop k) = U) := ⟨_, rfl⟩
        obtain ⟨D, hD⟩ : ∃ D, Hid (nxD (bs.drop k) = D) := ⟨_, rfl⟩
        have HP : Hid (E = 0 → 1 ≤ U ∧ k + U ≤ vl) := fun e0 => by
          have := nxU_pos (bs := bs.drop k) (hE.out.trans e0)
          rw [hU.out, List.length_drop, HLN.out] at this; omega
        rw [hE.out, hU.out, hD.out] at HD hTT
        have HOW := Lib.hid how
        have HBL := Lib.hid hbl
        have HTT := Lib.hid hTT
        have HNF := Lib.hid hfull
        have HFF := Lib.hid hf; clear how hbl hTT hend HYK hfull hf hd
        by_cases he : E = 0
        case neg =>
          have HE : Hid (∀ u, Below wr.heap.size wr u → DosR w T (.returned (.tuple #[.slice oa ds.length oc, .int .i64 (k : Nat), .int .i64 E])) u) := fun u hu => by
            have := HTT.out
            rw [if_pos he, List.append_nil] at this
            rw [← this]; exact ⟨_, rfl, (HOW.out.call opE hu).elV opE, HBL.out.trans (hu.mono HBL.out.size)⟩
          have hne : (E != 0) = true := by simpa using he
          clear he
          go_wp2_with (first
            | ((with_reducible refine at_slice (some 25) ?_); refine wpList_slice_l rfl (.tmp 23) (.tmp 24) rfl va vl vc k rfl rfl hk2 bv hbv.out ?_)
            | (go_at_call 36; refine HD.out.mono ?_; rintro en w1 ⟨X, n, rfl, hX0, hX1, hXS, hb1⟩; have HX1 := Lib.hid hX1; have HXS := Lib.hid hXS; have HB1 := Lib.hid hb1; have HIX : Hid ((Try.prog.info? 48).map (·.size) = some X.size) := (by show _ = _; rw [hX0]; exact info_op); have HZX : Hid (Z.size = X.size) := (by show _ = _; rw [hX0, HZ0.out]); clear hX0 hX1 hXS hb1)
            | ((with_reducible refine at_store (.tmp 7) ?_); refine wpList_store_blk rfl 48 (.tmp 7) _ rfl w1.heap.size X rfl rfl Z (Blk.new rfl) HZX.out HIX.out HX1.out ?_; intro w2 U2 B2; have HB2 := Lib.hid (U2.below (HB1.out.alloc HB1.out.size (.cells Z 48)) (Nat.le_trans (Nat.le_refl _) HB1.out.size)); clear U2 B2))
          go_ret3
          exact HE.out _ HB2.out
        case pos =>
          subst he
          obtain ⟨hU1, hU2⟩ := HP.out rfl
          go_wp2_with (first
            | ((with_reducible refine at_slice (some 25) ?_); refine wpList_slice_l rfl (.tmp 23) (.tmp 24) rfl va vl vc k rfl rfl hk2 bv hbv.out ?_)
            | (go_at_call 36; refine HD.out.mono ?_; rintro en w1 ⟨X, n, rfl, hX0, hX1, hXS, hb1⟩; obtain ⟨rfl, hXO⟩ := hXS rfl; have HX1 := Lib.hid hX1; have HXO := Lib.hid hXO; have HB1 := Lib.hid hb1; have HIX : Hid ((Try.prog.info? 48).map (·.size) = some X.size) := (by show _ = _; rw [hX0]; exact info_op); have HX0 := Lib.hid hX0; have HZX : Hid (Z.size = X.size) := (by show _ = _; rw [hX0, HZ0.out]); clear hX0 hX1 hXS hb1 hXO)
            | ((with_reducible refine at_store (.tmp 7) ?_); refine wpList_store_blk rfl 48 (.tmp 7) _ rfl w1.heap.size X rfl rfl Z (Blk.new rfl) HZX.out HIX.out HX1.out ?_; intro w2 U2 B2; have HB2 := Lib.hid (U2.below (HB1.out.alloc HB1.out.size (.cells Z 48)) HB1.out.size); have HB12 := Lib.hid (U2.below ((Below.refl _ w1).alloc (Nat.le_refl _) (.cells Z 48)) (Nat.le_refl _)); have K2 := Lib.hid B2; clear U2 B2)
            | ((with_reducible refine at_load (.tmp 7) ?_); refine wpList_load_g 48 (.tmp 7) rfl w1.heap.size rfl X _ K2.out Try.underlying48 rfl HIX.out rfl ?_)
            | ((with_reducible refine at_buildSliceE (some 37) ?_); refine wpList_buildSliceE rfl 56 1 _ rfl #[(0, .agg X)] (by simp [Act.eval, Act.put]) _ (build_op HX0.out _) ?_)
            | ((with_reducible refine at_app _ _ ?_); refine wpList_appEl opE Try.underlying56 info_opc zop_size (by omega) _ _ rfl rfl w.heap.size (.slice oa ds.length oc) ds rfl ((HOW.out.call opE HB2.out).call opE ((Below.refl _ w2).alloc (Nat.le_refl _) _)) w2.heap.size 1 X D rfl ((opE.below (opE.below HXO.out HB12.out) ((Below.refl _ w2).alloc (Nat.le_refl _) _)).mono fun y hy g e => hy.off (HOW.out.lt g e).2) (Blk.new rfl).range (by omega) (by unfold maxLen; omega) (by have := HB2.out.size; have := HBL.out.size; simp; omega) ?_
               intro v5 w5 ho5 hg5 hn5
               have hs5 : w.heap.size ≤ (w2.alloc (.cells X 48)).heap.size := (by have := HB2.out.size; have := HBL.out.size; simp; omega)
               have HB5 := Lib.hid (((HBL.out.trans (HB2.out.mono HBL.out.size)).alloc (Nat.le_trans HBL.out.size HB2.out.size) (.cells X 48)).grown hg5 hs5 (fun j hj => (HOW.out.lt j hj).1))
               have HO5 := Lib.hid ho5; clear ho5 hg5 hn5 hs5))
          go_roundw
          case rel =>
            refine ⟨ds ++ [D], k + U, f, by go_num, by have := HLN.out; omega, by simp; omega, by have := HFF.out; have := HLN.out; omega, HO5.out, HB5.out, ?_⟩
            have := HTT.out
            rw [if_neg (by simp)] at this
            rw [← this]
            simp
          case measure => simp [intOf]; omega


set_option maxRecDepth 100000 in
set_option maxHeartbeats 4000000 in
theorem rdec_any (v : Value) (bs : List Int) (w : World) (h : Byt w v bs) (hb : bs.length ≤ 20604) :
    Calls Try.prog 13 #[v] w (DecR w (dopT bs)) := by
  obtain ⟨va, vl, vc, rfl⟩ := h.shape
  have D := Lib.hid (rdecos_any (.slice va vl vc) bs w h hb)
  obtain ⟨T1, T2, T3, hT⟩ : ∃ T1 T2 T3, dopT bs = (T1, T2, T3) := ⟨_, _, _, rfl⟩
  rw [hT] at D ⊢
  unfold DosR at D
  clear h hb hT
  by_cases he : T3 = 0
  · subst he
    go_enter Try.func13, Try.ntmps13
    go_wp2_with (go_at_call 22; refine D.out.mono ?_; rintro en w1 ⟨v1, rfl, hv1, hb1⟩; have HV := Lib.hid hv1; have HB := Lib.hid hb1; clear hv1 hb1)
    go_ret2
    exact ⟨v1, rfl, HV.out, HB.out⟩
  · have hne : (T3 != 0) = true := by simpa using he
    have HE := Lib.hid he; clear he
    go_enter Try.func13, Try.ntmps13
    go_wp2_with (go_at_call 22; refine D.out.mono ?_; rintro en w1 ⟨v1, rfl, hv1, hb1⟩; have HV := Lib.hid hv1; have HB := Lib.hid hb1; clear hv1 hb1)
    go_ret2
    refine ⟨nilV, rfl, ?_, HB.out⟩
    show ElV OpIn 446 _ _ (if T3 ≠ 0 then [] else T1)
    rw [if_pos HE.out]
    exact ⟨none, 0, rfl, Nat.zero_le _, .inl rfl⟩

set_option maxRecDepth 100000 in
set_option maxHeartbeats 4000000 in
theorem rpre_any (v : Value) (bs : List Int) (w : World) (h : Byt w v bs) (hb : bs.length ≤ 20604) :
    Calls Try.prog 15 #[v] w (PreR w (dopT bs)) := by
  obtain ⟨va, vl, vc, rfl⟩ := h.shape
  have D := Lib.hid (rdecos_any (.slice va vl vc) bs w h hb)
  obtain ⟨T1, T2, T3, hT⟩ : ∃ T1 T2 T3, dopT bs = (T1, T2, T3) := ⟨_, _, _, rfl⟩
  rw [hT] at D ⊢
  unfold DosR at D
  clear h hb hT
  go_enter Try.func15, Try.ntmps15
  go_wp2_with (go_at_call 22; refine D.out.mono ?_; rintro en w1 ⟨v1, rfl, hv1, hb1⟩; have HV := Lib.hid hv1; have HB := Lib.hid hb1; clear hv1 hb1)
  go_ret2
  exact ⟨v1, rfl, HV.out, HB.out⟩
end

end Go.Proofs.Ytmnojgdfbhdkhaa
