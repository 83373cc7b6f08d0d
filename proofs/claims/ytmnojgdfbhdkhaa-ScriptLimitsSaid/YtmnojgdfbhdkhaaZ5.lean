/- Several texts as one: RdV, RdX, RdS, RdY. -/
import Derived.Test.YtmnojgdfbhdkhaaZ4
import Derived.Test.YtmnojgdfbhdkhaaZ3
import Derived.Test.YtmnojgdfbhdkhaaZ2
namespace Go.Proofs.Ytmnojgdfbhdkhaa

/-! RdV -/
section
set_option linter.unusedVariables false
set_option linter.unusedSimpArgs false
open Go.RowKit

theorem vdOne (x : VdD) : ∀ v ∈ flatP x.parts, v.oneCell' = true :=
  flatP_one fun p hp v hv => by
    simp only [VdD.parts, List.mem_cons, List.not_mem_nil, or_false] at hp
    rcases hp with rfl | rfl | rfl
    · rw [List.mem_singleton.1 hv]; rfl
    · rw [List.mem_singleton.1 hv]; rfl
    · exact bytesL_one _ v hv

set_option maxRecDepth 100000 in
set_option maxHeartbeats 16000000 in
theorem rdver_any (v : Value) (bs : List Int) (w : World) (h : Byt w v bs) :
    Calls Try.prog 64 #[v] w (Fin w (finX (vdS ⟨bs, 0⟩).e ((vdD ⟨bs, 0⟩).kind != 0) (flatP (vdD ⟨bs, 0⟩).parts) (flatP zVd.parts)) (finU (vdS ⟨bs, 0⟩).e ((vdD ⟨bs, 0⟩).kind != 0) ((bs.length : Int) - ((vdS ⟨bs, 0⟩).r.length : Nat))) (finE (vdS ⟨bs, 0⟩).e ((vdD ⟨bs, 0⟩).kind != 0))) := by
  obtain ⟨va, vl, vc, rfl⟩ := h.shape
  have hby : byteL bs := h.rng
  have hblt := h.blk_lt
  have hfits := h.fits _ _ _ rfl
  have hln : bs.length = vl := by obtain ⟨_, _, _, e', hl, _⟩ := h.ints; cases e'; exact hl
  unfold maxLen at hfits
  obtain ⟨Z, hZ⟩ : ∃ Z, Z = flatP zVd.parts := ⟨_, rfl⟩
  have hZ0 : Z.size = 34 := by rw [hZ]; rfl
  obtain ⟨hzz, hst⟩ := zero_array (P := Try.prog) (t := 46) (n := 34) Z (by rw [hZ]; kernel_rfl) hZ0 (by rw [hZ]; kernel_rfl)
  have HZZ := Lib.hid hzz
  have HZ1 : Hid (∀ v ∈ Z, v.oneCell' = true) := fun v hv => (Array.all_eq_true_iff_forall_mem.1 (show Z.all (·.oneCell') = true by rw [hZ]; kernel_rfl)) v hv
  have HIZ : Hid ((Try.prog.info? 46).map (·.size) = some Z.size) := by show _ = _; rw [hZ0]; kernel_rfl
  have HZ := Lib.hid hZ; clear hZ
  have hba := ((Below.refl w.heap.size w).alloc (Nat.le_refl _) (.cells Z 46)).alloc (by simp) (.cells #[.slice va vl vc, .int .i64 0, .int .i64 0] 103)
  have S0 : Hid (DQ (w.heap.size + 1) va vl vc bs w.heap.size Z w ((w.alloc (.cells Z 46)).alloc (.cells #[.slice va vl vc, .int .i64 0, .int .i64 0] 103)) ⟨bs, 0⟩) :=
    ⟨Rfs.mk' (p := 0) ⟨Blk.new (by simp), h.below hba, Nat.zero_le _, fun x hx h0 => by have := hblt x hx h0; omega⟩ (by simp), (Blk.new rfl).alloc _, grownBy_of_below hba, by omega, Nat.le_refl _, fun x hx h0 => by have := hblt x hx h0; omega⟩
  have HLN := Lib.hid hln
  clear hba h hln
  have hby1 : byteL (nU mxU ⟨bs, 0⟩).r := nU_byte (s := ⟨bs, 0⟩) hby
  have hby2 : byteL (nU 4 (nU mxU ⟨bs, 0⟩)).r := nU_byte hby1
  have hk := vU_rng (m := 4) hby1 (by omega)
  have hW := vW_is hby2
  have D1 : Hid (∀ u, Rfs u (w.heap.size + 1) va vl vc bs ⟨bs, 0⟩ → Calls Try.prog 59 #[.pointer (some ⟨w.heap.size + 1, 0, none⟩), .int .u64 18446744073709551615] u (RfV u (w.heap.size + 1) va vl vc bs (.int .u64 (vU mxU ⟨bs, 0⟩)) (nU mxU ⟨bs, 0⟩))) := fun u h => rfu_any _ va vl vc bs _ 18446744073709551615 u h (by omega) (by omega)
  have D2 : Hid (∀ u, Rfs u (w.heap.size + 1) va vl vc bs (nU mxU ⟨bs, 0⟩) → Calls Try.prog 59 #[.pointer (some ⟨w.heap.size + 1, 0, none⟩), .int .u64 4] u (RfV u (w.heap.size + 1) va vl vc bs (.int .u64 (vU 4 (nU mxU ⟨bs, 0⟩))) (nU 4 (nU mxU ⟨bs, 0⟩)))) := fun u h => rfu_any _ va vl vc bs _ 4 u h (by omega) (by omega)
  have D3 : Hid (∀ u, Rfs u (w.heap.size + 1) va vl vc bs (nU 4 (nU mxU ⟨bs, 0⟩)) → Calls Try.prog 88 #[.pointer (some ⟨w.heap.size + 1, 0, none⟩)] u (RfV u (w.heap.size + 1) va vl vc bs (.agg (bytesV (vW (nU 4 (nU mxU ⟨bs, 0⟩))))) (vdS ⟨bs, 0⟩))) := fun u h => rfr_any _ va vl vc bs _ u h
  have BC := Lib.hid (build_vd (vU mxU ⟨bs, 0⟩) (vU 4 (nU mxU ⟨bs, 0⟩)) (vW (nU 4 (nU mxU ⟨bs, 0⟩))) hW)
  have hX0 : (flatP (VdD.parts ⟨vU mxU ⟨bs, 0⟩, vU 4 (nU mxU ⟨bs, 0⟩), vW (nU 4 (nU mxU ⟨bs, 0⟩))⟩)).size = 34 := by rw [flatP_size]; simp [VdD.parts, bytesL_len hW]
  have hX1 : ∀ v ∈ flatP (VdD.parts ⟨vU mxU ⟨bs, 0⟩, vU 4 (nU mxU ⟨bs, 0⟩), vW (nU 4 (nU mxU ⟨bs, 0⟩))⟩), v.oneCell' = true := vdOne _
  have hXK : (flatP (VdD.parts ⟨vU mxU ⟨bs, 0⟩, vU 4 (nU mxU ⟨bs, 0⟩), vW (nU 4 (nU mxU ⟨bs, 0⟩))⟩))[1]? = some (.int .i64 (vU 4 (nU mxU ⟨bs, 0⟩))) := rfl
  have hv : vdD ⟨bs, 0⟩ = ⟨vU mxU ⟨bs, 0⟩, vU 4 (nU mxU ⟨bs, 0⟩), vW (nU 4 (nU mxU ⟨bs, 0⟩))⟩ := rfl
  rw [hv]
  clear hW hby1 hby2 hv
  generalize flatP (VdD.parts ⟨vU mxU ⟨bs, 0⟩, vU 4 (nU mxU ⟨bs, 0⟩), vW (nU 4 (nU mxU ⟨bs, 0⟩))⟩) = X at *
  simp only
  generalize vU mxU ⟨bs, 0⟩ = v1 at *
  generalize vW (nU 4 (nU mxU ⟨bs, 0⟩)) = r1 at *
  generalize vU 4 (nU mxU ⟨bs, 0⟩) = kd at *
  generalize vdS ⟨bs, 0⟩ = sF at *
  generalize nU 4 (nU mxU ⟨bs, 0⟩) = s2 at *
  generalize nU mxU ⟨bs, 0⟩ = s1 at *
  have HX1 := Lib.hid hX1; clear hX1
  have HXK := Lib.hid hXK; clear hXK
  have HIX : Hid ((Try.prog.info? 46).map (·.size) = some X.size) := by show _ = _; rw [hX0]; kernel_rfl
  have HSX : Hid (Z.size = X.size) := by show _ = _; rw [hZ0, hX0]
  obtain ⟨hk0, hk4⟩ := hk
  by_cases he : sF.e = 0
  case neg =>
    have hne : (sF.e != 0) = true := by simpa using he
    have HE := Lib.hid he; clear he
    obtain ⟨ER, HERR⟩ : ∃ e, Hid (sF.e = e) := ⟨_, rfl⟩
    go_enter Try.func64, Try.ntmps64
    go_wp2_with (first
      | ((with_reducible refine at_build (some 12) ?_); refine wpList_build rfl 44 _ rfl #[(0, .int .u64 v1)] (by simp [Act.eval, Act.put]) (.agg #[.int .u64 v1]) (by kernel_rfl) ?_)
      | ((with_reducible refine at_build (some 18) ?_); refine wpList_build rfl 46 _ rfl #[(0, .agg #[.int .u64 v1]), (1, .int .i64 kd), (2, .agg (bytesV r1))] (by simp [Act.eval, Act.put]) (.agg X) (BC.out _) ?_)
      | (go_at_call 88; refine (D3.out _ S2.out.rd).mono ?_; rintro e w3 ⟨rfl, hr, hg⟩; have S3 := Lib.hid (S2.out.read (s' := sF) hr hg); clear hr hg)
      | (go_at_call 59; refine (D2.out _ S1.out.rd).mono ?_; rintro e w2 ⟨rfl, hr, hg⟩; have S2 := Lib.hid (S1.out.read (s' := s2) hr hg); clear hr hg)
      | (go_at_call 59; refine (D1.out _ S0.out.rd).mono ?_; rintro e w1 ⟨rfl, hr, hg⟩; have S1 := Lib.hid (S0.out.read (s' := s1) hr hg); clear hr hg)
      | ((with_reducible refine at_store (.tmp 6) ?_); refine wpList_store_blk rfl 46 (.tmp 6) _ rfl w3.heap.size X rfl rfl Z (Blk.new rfl) HSX.out HIX.out HX1.out ?_; intro w4 U4 B4
         have hb2 : Below w3.heap.size w3 w4 := U4.below ((Below.refl _ w3).alloc (Nat.le_refl _) _) (Nat.le_refl _)
         have S4 := Lib.hid (S3.out.below hb2)
         obtain ⟨p2, c0, c1, c2, c3, _⟩ := S4.out.rd.three
         have XB := Lib.hid B4
         have hkc := (XB.out.cell 1).trans HXK.out
         have hxne : w.heap.size < w3.heap.size := S3.out.rv.lt
         clear hb2 U4 B4))
    have HBL := Lib.hid (grownBy_below S4.out.gro (Nat.le_succ _) (Nat.le_refl _))
    obtain ⟨x, hxx⟩ : ∃ x, w4.drew = x := ⟨_, rfl⟩
    have hrx : Hid (Rfs x (w.heap.size + 1) va vl vc bs sF) := by rw [← hxx]; exact (S4.out.rd).drewN 1
    have hbx : Hid (Blk x w.heap.size Z) := by rw [← hxx]; exact S4.out.rv
    have hBX : Hid (Below w.heap.size w x) := by rw [← hxx]; exact Below.drewN (n := 1) HBL.out
    have hcx : x.cell? ⟨w.heap.size + 1, 2, none⟩ = some (.int .i64 ER) := by rw [hrx.out.fp.three.2.2.1, HERR.out]
    refine wp_region_held_drew (S := fun u => u.cell? ⟨w.heap.size + 1, 2, none⟩ = some (.int .i64 ER)) (by kernel_rfl) (by rw [hxx]; exact hcx) (fun _ => ?_)
    rw [hxx]
    clear hxx
    (try simp only [Act.put, List.setIfInBounds_toArray, List.set_cons_zero, List.set_cons_succ])
    refine held_build 0 (oi := ⟨some 24, _, _, _, _, _⟩) rfl (by kernel_rfl) (by kernel_rfl) (by kernel_rfl) (fun _ _ _ _ h => h) rfl 46 #[] rfl #[] (by simp) (.agg Z) (build_zero HZZ.out Try.underlying46 (places := #[(0, 1), (1, 1), (2, 32)]) (fun w => by kernel_rfl)) hcx ?_
    (try simp only [Act.put, List.setIfInBounds_toArray, List.set_cons_zero, List.set_cons_succ])
    refine wpAnyH_take (i := 1) (oi := ⟨some 25, _, _, _, _, _⟩) (v := .pointer (some ⟨w.heap.size + 1, 0, none⟩)) rfl (by kernel_rfl) (by kernel_rfl) (by kernel_rfl) (fun _ _ _ h => h) (Or.inl ⟨by rfl, fun wz hz => ?_⟩) hcx ?_
    · clear hz; go_simp; first | done | with_reducible rfl | rfl
    (try simp only [Act.put, List.setIfInBounds_toArray, List.set_cons_zero, List.set_cons_succ])
    refine wpAnyH_take (i := 2) (oi := ⟨some 26, _, _, _, _, _⟩) (v := .pointer (some ⟨w.heap.size + 1, 0, none⟩)) rfl (by kernel_rfl) (by kernel_rfl) (by kernel_rfl) (fun _ _ _ h => h) (Or.inl ⟨by rfl, fun wz hz => ?_⟩) hcx ?_
    · clear hz; go_simp; first | done | with_reducible rfl | rfl
    (try simp only [Act.put, List.setIfInBounds_toArray, List.set_cons_zero, List.set_cons_succ])
    refine wpAnyH_take (i := 3) (oi := ⟨some 27, _, _, _, _, _⟩) (v := .pointer (some ⟨w.heap.size + 1, 2, none⟩)) rfl (by kernel_rfl) (by kernel_rfl) (by kernel_rfl) (fun _ _ _ h => h) (Or.inl ⟨by rfl, fun wz hz => ?_⟩) hcx ?_
    · clear hz; go_simp; first | done | with_reducible rfl | rfl
    (try simp only [Act.put, List.setIfInBounds_toArray, List.set_cons_zero, List.set_cons_succ])
    refine held_load1 4 (oi := ⟨some 28, _, _, _, _, _⟩) rfl (by kernel_rfl) (by kernel_rfl) (by kernel_rfl) (fun _ _ _ _ h => h) rfl 52 (.tmp 27) rfl (w.heap.size + 1) 2 rfl (.int .i64 ER) _ (fun u' hu => hu) Try.underlying52 rfl hcx ?_
    (try simp only [Act.put, List.setIfInBounds_toArray, List.set_cons_zero, List.set_cons_succ])
    refine wpAnyH_ready (rs := [5]) (by kernel_rfl) (by simp) ?_
    refine AllReadyH.cons rfl (fun K hK => ?_) AllReadyH.nil
    rw [if_pos (by rfl)]
    refine wp_store_blk 46 (.tmp 2) (.tmp 24) rfl w.heap.size Z rfl rfl Z hbx.out rfl HIZ.out HZ1.out ?_
    intro w6 U6 B6
    have hc6 : w6.cell? ⟨w.heap.size + 1, 2, none⟩ = some (.int .i64 ER) := by rw [← hcx]; simp only [World.cell?, U6.block (w.heap.size + 1) (by omega)]
    refine hK.out _ _ hc6 (fun _ => ?_)
    clear hK K
    (try simp only [Act.put, List.setIfInBounds_toArray, List.set_cons_zero, List.set_cons_succ])
    refine wpAnyH_ready (rs := [6]) (by kernel_rfl) (by simp) ?_
    refine AllReadyH.cons rfl (fun K hK => ?_) AllReadyH.nil
    go_simp
    refine hK.out _ _ hc6 (fun _ => ?_)
    clear hK K
    (try simp only [Act.put, List.setIfInBounds_toArray, List.set_cons_zero, List.set_cons_succ])
    refine wpAnyH_ready (rs := [7]) (by kernel_rfl) (by simp) ?_
    refine AllReadyH.cons rfl (fun K hK => ?_) AllReadyH.nil
    go_simp
    refine hK.out _ _ hc6 (fun _ => ?_)
    clear hK K
    (try simp only [Act.put, List.setIfInBounds_toArray, List.set_cons_zero, List.set_cons_succ])
    refine wpAnyH_done (by kernel_rfl) ?_ _
    clear hcx hc6
    go_wp2_with fail
    refine bodyPost_ret (res_cell_tmp2 rfl rfl rfl rfl B6 Try.underlying46 rfl HIZ.out) rfl ?_
    exact HERR.out ▸ fin_err (HE.out) HZ.out hBX.out U6 (Nat.le_refl _)
  case pos =>
    have hne : (sF.e != 0) = false := by simpa using he
    have HE := Lib.hid he; clear he
    by_cases hkz : kd = 0
    · have hkb : (kd == 0) = true := by simpa using hkz
      have hb0 : (kd != 0) = false := by simpa using hkz
      rw [hb0]
      clear hkz
      go_enter Try.func64, Try.ntmps64
      go_wp2_with (first
        | ((with_reducible refine at_build (some 12) ?_); refine wpList_build rfl 44 _ rfl #[(0, .int .u64 v1)] (by simp [Act.eval, Act.put]) (.agg #[.int .u64 v1]) (by kernel_rfl) ?_)
        | ((with_reducible refine at_build (some 18) ?_); refine wpList_build rfl 46 _ rfl #[(0, .agg #[.int .u64 v1]), (1, .int .i64 kd), (2, .agg (bytesV r1))] (by simp [Act.eval, Act.put]) (.agg X) (BC.out _) ?_)
        | (go_at_call 88; refine (D3.out _ S2.out.rd).mono ?_; rintro e w3 ⟨rfl, hr, hg⟩; have S3 := Lib.hid (S2.out.read (s' := sF) hr hg); clear hr hg)
        | (go_at_call 59; refine (D2.out _ S1.out.rd).mono ?_; rintro e w2 ⟨rfl, hr, hg⟩; have S2 := Lib.hid (S1.out.read (s' := s2) hr hg); clear hr hg)
        | (go_at_call 59; refine (D1.out _ S0.out.rd).mono ?_; rintro e w1 ⟨rfl, hr, hg⟩; have S1 := Lib.hid (S0.out.read (s' := s1) hr hg); clear hr hg)
        | ((with_reducible refine at_store (.tmp 6) ?_); refine wpList_store_blk rfl 46 (.tmp 6) _ rfl w3.heap.size X rfl rfl Z (Blk.new rfl) HSX.out HIX.out HX1.out ?_; intro w4 U4 B4
           have hb2 : Below w3.heap.size w3 w4 := U4.below ((Below.refl _ w3).alloc (Nat.le_refl _) _) (Nat.le_refl _)
           have S4 := Lib.hid (S3.out.below hb2)
           obtain ⟨p2, c0, c1, c2, c3, _⟩ := S4.out.rd.three
           have XB := Lib.hid B4
           have hkc := (XB.out.cell 1).trans HXK.out
           have hxne : w.heap.size < w3.heap.size := S3.out.rv.lt
           clear hb2 U4 B4)
        | ((with_reducible refine at_build (some 32) ?_); refine wpList_build rfl 46 _ rfl #[] (by simp) (.agg Z) (build_zero HZZ.out Try.underlying46 (places := #[(0, 1), (1, 1), (2, 32)]) (fun w => by kernel_rfl) _) ?_)
        | ((with_reducible refine at_store (.tmp 2) ?_); refine wpList_store_blk rfl 46 (.tmp 2) _ rfl w.heap.size Z rfl rfl Z S4.out.rv rfl HIZ.out HZ1.out ?_; intro w6 U6 B6))
      have HBL := Lib.hid (grownBy_below S4.out.gro (Nat.le_succ _) (Nat.le_refl _))
      refine bodyPost_ret (res_cell_tmp2 rfl rfl rfl rfl B6 Try.underlying46 rfl HIZ.out) rfl ?_
      exact fin_form HE.out HZ.out HBL.out U6 (Nat.le_refl _)
    · have hkb : (kd == 0) = false := by simpa using hkz
      have hb1 : (kd != 0) = true := by simpa using hkz
      rw [hb1]
      clear hkz
      go_enter Try.func64, Try.ntmps64
      go_wp2_with (first
        | ((with_reducible refine at_build (some 12) ?_); refine wpList_build rfl 44 _ rfl #[(0, .int .u64 v1)] (by simp [Act.eval, Act.put]) (.agg #[.int .u64 v1]) (by kernel_rfl) ?_)
        | ((with_reducible refine at_build (some 18) ?_); refine wpList_build rfl 46 _ rfl #[(0, .agg #[.int .u64 v1]), (1, .int .i64 kd), (2, .agg (bytesV r1))] (by simp [Act.eval, Act.put]) (.agg X) (BC.out _) ?_)
        | (go_at_call 88; refine (D3.out _ S2.out.rd).mono ?_; rintro e w3 ⟨rfl, hr, hg⟩; have S3 := Lib.hid (S2.out.read (s' := sF) hr hg); clear hr hg)
        | (go_at_call 59; refine (D2.out _ S1.out.rd).mono ?_; rintro e w2 ⟨rfl, hr, hg⟩; have S2 := Lib.hid (S1.out.read (s' := s2) hr hg); clear hr hg)
        | (go_at_call 59; refine (D1.out _ S0.out.rd).mono ?_; rintro e w1 ⟨rfl, hr, hg⟩; have S1 := Lib.hid (S0.out.read (s' := s1) hr hg); clear hr hg)
        | ((with_reducible refine at_store (.tmp 6) ?_); refine wpList_store_blk rfl 46 (.tmp 6) _ rfl w3.heap.size X rfl rfl Z (Blk.new rfl) HSX.out HIX.out HX1.out ?_; intro w4 U4 B4
           have hb2 : Below w3.heap.size w3 w4 := U4.below ((Below.refl _ w3).alloc (Nat.le_refl _) _) (Nat.le_refl _)
           have S4 := Lib.hid (S3.out.below hb2)
           obtain ⟨p2, c0, c1, c2, c3, _⟩ := S4.out.rd.three
           have XB := Lib.hid B4
           have hkc := (XB.out.cell 1).trans HXK.out
           have hxne : w.heap.size < w3.heap.size := S3.out.rv.lt
           clear hb2 U4 B4))
      have HBL := Lib.hid (grownBy_below S4.out.gro (Nat.le_succ _) (Nat.le_refl _))
      obtain ⟨x, hxx⟩ : ∃ x, w4.drew = x := ⟨_, rfl⟩
      have hrx : Hid (Rfs x (w.heap.size + 1) va vl vc bs sF) := by rw [← hxx]; exact (S4.out.rd).drewN 1
      have hbx : Hid (Blk x w.heap.size Z) := by rw [← hxx]; exact S4.out.rv
      have hvx : Hid (Blk x w3.heap.size X) := by rw [← hxx]; exact XB.out
      have hBX : Hid (Below w.heap.size w x) := by rw [← hxx]; exact Below.drewN (n := 1) HBL.out
      obtain ⟨L, HLX⟩ : ∃ L : List Value, Hid (X = L.toArray) := ⟨X.toList, by show _ = _; simp⟩
      obtain ⟨AT, HAT⟩ : ∃ AT : Nat, Hid (bs.length - sF.r.length = AT) := ⟨_, rfl⟩
      have HVL : Hid (Blk x w3.heap.size L.toArray) := by show Blk _ _ _; rw [← HLX.out]; exact hvx.out
      have HS : Hid (Blk x w3.heap.size L.toArray ∧ x.cell? ⟨w.heap.size + 1, 1, none⟩ = some (.int .i64 AT)) := ⟨HVL.out, by rw [← HAT.out]; exact hrx.out.fp.three.2.1⟩
      have HIL : Hid ((Try.prog.info? 46).map (·.size) = some L.length) := by have := HIX.out; rw [HLX.out] at this; show _ = _; simpa using this
      refine wp_region_held_drew (S := fun u => Blk u w3.heap.size L.toArray ∧ u.cell? ⟨w.heap.size + 1, 1, none⟩ = some (.int .i64 AT)) (by kernel_rfl) (by rw [hxx]; exact HS.out) (fun _ => ?_)
      rw [hxx]
      clear hxx
      (try simp only [Act.put, List.setIfInBounds_toArray, List.set_cons_zero, List.set_cons_succ])
      refine held_load 0 (oi := ⟨some 33, _, _, _, _, _⟩) rfl (by kernel_rfl) (by kernel_rfl) (by kernel_rfl) (fun _ _ _ _ h => h) rfl 46 (.tmp 6) rfl w3.heap.size 0 rfl L _ (fun u' hu => by simpa using hu.1.range) Try.underlying46 rfl HIL.out HS.out ?_
      (try simp only [Act.put, List.setIfInBounds_toArray, List.set_cons_zero, List.set_cons_succ])
      refine wpAnyH_take (i := 1) (oi := ⟨some 34, _, _, _, _, _⟩) (v := .pointer (some ⟨w.heap.size + 1, 0, none⟩)) rfl (by kernel_rfl) (by kernel_rfl) (by kernel_rfl) (fun _ _ _ h => h) (Or.inl ⟨by rfl, fun wz hz => ?_⟩) HS.out ?_
      · clear hz; go_simp; first | done | with_reducible rfl | rfl
      (try simp only [Act.put, List.setIfInBounds_toArray, List.set_cons_zero, List.set_cons_succ])
      refine wpAnyH_take (i := 2) (oi := ⟨some 35, _, _, _, _, _⟩) (v := .pointer (some ⟨w.heap.size + 1, 0, none⟩)) rfl (by kernel_rfl) (by kernel_rfl) (by kernel_rfl) (fun _ _ _ h => h) (Or.inl ⟨by rfl, fun wz hz => ?_⟩) HS.out ?_
      · clear hz; go_simp; first | done | with_reducible rfl | rfl
      (try simp only [Act.put, List.setIfInBounds_toArray, List.set_cons_zero, List.set_cons_succ])
      refine wpAnyH_take (i := 3) (oi := ⟨some 36, _, _, _, _, _⟩) (v := .pointer (some ⟨w.heap.size + 1, 1, none⟩)) rfl (by kernel_rfl) (by kernel_rfl) (by kernel_rfl) (fun _ _ _ h => h) (Or.inl ⟨by rfl, fun wz hz => ?_⟩) HS.out ?_
      · clear hz; go_simp; first | done | with_reducible rfl | rfl
      (try simp only [Act.put, List.setIfInBounds_toArray, List.set_cons_zero, List.set_cons_succ])
      refine held_load1 4 (oi := ⟨some 37, _, _, _, _, _⟩) rfl (by kernel_rfl) (by kernel_rfl) (by kernel_rfl) (fun _ _ _ _ h => h) rfl 3 (.tmp 36) rfl (w.heap.size + 1) 1 rfl (.int .i64 AT) _ (fun u' hu => hu.2) Try.underlying3 rfl HS.out ?_
      (try simp only [Act.put, List.setIfInBounds_toArray, List.set_cons_zero, List.set_cons_succ])
      refine wpAnyH_ready (rs := [5]) (by kernel_rfl) (by simp) ?_
      refine AllReadyH.cons rfl (fun K hK => ?_) AllReadyH.nil
      rw [if_pos (by rfl)]
      refine wp_store_blk 46 (.tmp 2) (.tmp 33) rfl w.heap.size L.toArray rfl rfl Z hbx.out (by have := HSX.out; rw [HLX.out] at this; exact this) (by simpa using HIL.out) (by rw [← HLX.out]; exact HX1.out) ?_
      intro w6 U6 B6
      have hc6 : Hid (Blk w6 w3.heap.size L.toArray ∧ w6.cell? ⟨w.heap.size + 1, 1, none⟩ = some (.int .i64 AT)) := ⟨U6.blk HVL.out (by omega), by rw [← HS.out.2]; simp only [World.cell?, U6.block (w.heap.size + 1) (by omega)]⟩
      refine hK.out _ _ hc6.out (fun _ => ?_)
      clear hK K
      (try simp only [Act.put, List.setIfInBounds_toArray, List.set_cons_zero, List.set_cons_succ])
      refine wpAnyH_ready (rs := [6]) (by kernel_rfl) (by simp) ?_
      refine AllReadyH.cons rfl (fun K hK => ?_) AllReadyH.nil
      go_simp
      refine hK.out _ _ hc6.out (fun _ => ?_)
      clear hK K
      (try simp only [Act.put, List.setIfInBounds_toArray, List.set_cons_zero, List.set_cons_succ])
      refine wpAnyH_ready (rs := [7]) (by kernel_rfl) (by simp) ?_
      refine AllReadyH.cons rfl (fun K hK => ?_) AllReadyH.nil
      go_simp
      refine hK.out _ _ hc6.out (fun _ => ?_)
      clear hK K
      (try simp only [Act.put, List.setIfInBounds_toArray, List.set_cons_zero, List.set_cons_succ])
      refine wpAnyH_done (by kernel_rfl) ?_ _
      rw [← HLX.out] at B6
      go_wp2_with fail
      refine bodyPost_ret (res_cell_tmp2 rfl rfl rfl rfl B6 Try.underlying46 rfl HIX.out) rfl ?_
      exact fin_ok HE.out hBX.out U6 (Nat.le_refl _) (by have h1 := S4.out.rd.rlen; have h2 := HAT.out; omega)
end

/-! RdX -/
section
set_option linter.unusedVariables false
set_option linter.unusedSimpArgs false
open Go.RowKit

/-- What the reference's DecodeAttestation gives. -/
def AttF (w : World) (d : Value → AtD) (ls : List Int) (s : RS) (N : Nat) (en : Ending) (w' : World) : Prop :=
  ∃ lv ys b, en = .returned (.tuple #[.agg (finX s.e b (flatP (d lv).parts) (flatP zAt.parts)), .int .i64 (finU s.e b ((N : Int) - (s.r.length : Nat))), .int .i64 (finE s.e b)]) ∧ (s.e = 0 → b = (vlE ls 1024 == 0) ∧ (Ints .i64 w' lv ys ∧ New w.heap.size lv) ∧ ys = ls) ∧ Below w.heap.size w w'

theorem attF_err {w u w6 : World} {s : RS} {e : Int} {d : Value → AtD} {ls : List Int} {Z : Array Value} {N rr : Nat} (he : s.e ≠ 0) (hee : s.e = e) (hZ : Z = flatP zAt.parts) (hB : Below w.heap.size w u) (hU : Upd rr u w6) (hr : w.heap.size ≤ rr) : AttF w d ls s N (.returned (.tuple #[.agg Z, .int .i64 0, .int .i64 e])) w6 := by
  subst hee
  exact ⟨.slice none 0 0, [], true, (fin_err he hZ hB hU hr).1, fun h => absurd h he, hU.below hB hr⟩

theorem atOne {v1 : Int} {r1 : List Int} {cp : CpD} {a : Option Addr} {l c : Nat} : ∀ v ∈ flatP [[Value.int .u64 v1], bytesL r1, cp.cells, [.slice a l c]], v.oneCell' = true :=
  flatP_one fun p hp v hv => by
    simp only [List.mem_cons, List.not_mem_nil, or_false] at hp
    rcases hp with rfl | rfl | rfl | rfl
    · rw [List.mem_singleton.1 hv]; rfl
    · exact bytesL_one _ v hv
    · exact CpD.one _ v hv
    · rw [List.mem_singleton.1 hv]; rfl

set_option maxRecDepth 100000 in
set_option maxHeartbeats 16000000 in
theorem rdatt_any (v : Value) (bs : List Int) (w : World) (h : Byt w v bs) :
    Calls Try.prog 61 #[v] w (AttF w (atD ⟨bs, 0⟩) (atL ⟨bs, 0⟩) (atS ⟨bs, 0⟩) bs.length) := by
  obtain ⟨va, vl, vc, rfl⟩ := h.shape
  have hby : byteL bs := h.rng
  have hblt := h.blk_lt
  have hfits := h.fits _ _ _ rfl
  have hln : bs.length = vl := by obtain ⟨_, _, _, e', hl, _⟩ := h.ints; cases e'; exact hl
  unfold maxLen at hfits
  obtain ⟨Z, hZ⟩ : ∃ Z, Z = flatP zAt.parts := ⟨_, rfl⟩
  have hZ0 : Z.size = 67 := by rw [hZ]; rfl
  obtain ⟨hzz, hst⟩ := zero_array (P := Try.prog) (t := 35) (n := 67) Z (by rw [hZ]; kernel_rfl) hZ0 (by rw [hZ]; kernel_rfl)
  have HZZ := Lib.hid hzz
  have HZ1 : Hid (∀ v ∈ Z, v.oneCell' = true) := fun v hv => (Array.all_eq_true_iff_forall_mem.1 (show Z.all (·.oneCell') = true by rw [hZ]; kernel_rfl)) v hv
  have HIZ : Hid ((Try.prog.info? 35).map (·.size) = some Z.size) := by show _ = _; rw [hZ0]; kernel_rfl
  have HZ := Lib.hid hZ; clear hZ
  have hba := ((Below.refl w.heap.size w).alloc (Nat.le_refl _) (.cells Z 35)).alloc (by simp) (.cells #[.slice va vl vc, .int .i64 0, .int .i64 0] 103)
  have S0 : Hid (DQ (w.heap.size + 1) va vl vc bs w.heap.size Z w ((w.alloc (.cells Z 35)).alloc (.cells #[.slice va vl vc, .int .i64 0, .int .i64 0] 103)) ⟨bs, 0⟩) :=
    ⟨Rfs.mk' (p := 0) ⟨Blk.new (by simp), h.below hba, Nat.zero_le _, fun x hx h0 => by have := hblt x hx h0; omega⟩ (by simp), (Blk.new rfl).alloc _, grownBy_of_below hba, by omega, Nat.le_refl _, fun x hx h0 => by have := hblt x hx h0; omega⟩
  have HLN := Lib.hid hln
  clear hba h hln
  obtain ⟨s0, hs0⟩ : ∃ s0 : RS, (⟨bs, 0⟩ : RS) = s0 := ⟨_, rfl⟩
  have hby0 : byteL s0.r := by rw [← hs0]; exact hby
  rw [hs0] at S0 ⊢
  obtain ⟨s1, hs1⟩ : ∃ s1, nU mxU s0 = s1 := ⟨_, rfl⟩
  obtain ⟨s2, hs2⟩ : ∃ s2, nW s1 = s2 := ⟨_, rfl⟩
  obtain ⟨s3, hs3⟩ : ∃ s3, nC s2 = s3 := ⟨_, rfl⟩
  obtain ⟨s4, hs4⟩ : ∃ s4, lsN s3 = s4 := ⟨_, rfl⟩
  have hby1 : byteL s1.r := hs1 ▸ nU_byte hby0
  have hby2 : byteL s2.r := hs2 ▸ nW_byte hby1
  have hby3 : byteL s3.r := hs3 ▸ nC_byte hby2
  have e3 : atS3 s0 = s3 := by unfold atS3; rw [hs1, hs2, hs3]
  have eL : atL s0 = lsV s3 := by unfold atL; rw [e3]
  have eS : atS s0 = s4 := by unfold atS; rw [e3, hs4]
  have HED : Hid (∀ lv, (atD s0 lv).parts = [[.int .u64 (vU mxU s0)], bytesL (vW s1), (vCD s2).cells, [lv]]) := fun lv => by unfold atD; rw [hs1, hs2]; rfl
  rw [eL, eS]
  have HRL := Lib.hid (lsV_rng hby3)
  have D1 : Hid (∀ u, Rfs u (w.heap.size + 1) va vl vc bs s0 → Calls Try.prog 59 #[.pointer (some ⟨w.heap.size + 1, 0, none⟩), .int .u64 18446744073709551615] u (RfV u (w.heap.size + 1) va vl vc bs (.int .u64 (vU mxU s0)) s1)) := fun u h => by
    have := rfu_any _ va vl vc bs _ 18446744073709551615 u h (by omega) (by omega)
    rw [← hs1]; exact this
  have D2 : Hid (∀ u, Rfs u (w.heap.size + 1) va vl vc bs s1 → Calls Try.prog 88 #[.pointer (some ⟨w.heap.size + 1, 0, none⟩)] u (RfV u (w.heap.size + 1) va vl vc bs (.agg (bytesV (vW s1))) s2)) := fun u h => by
    have := rfr_any _ va vl vc bs _ u h
    rw [← hs2]; exact this
  have D3 : Hid (∀ u, Rfs u (w.heap.size + 1) va vl vc bs s2 → Calls Try.prog 89 #[.pointer (some ⟨w.heap.size + 1, 0, none⟩)] u (RfV u (w.heap.size + 1) va vl vc bs (.agg (vCD s2).cells.toArray) s3)) := fun u h => by
    have := rfc_any _ va vl vc bs _ u h
    rw [← hs3]; exact this
  have D4 : Hid (∀ u, Rfs u (w.heap.size + 1) va vl vc bs s3 → Calls Try.prog 90 #[.pointer (some ⟨w.heap.size + 1, 0, none⟩)] u (RfL .i64 u (w.heap.size + 1) va vl vc bs (lsV s3) s4)) := fun u h => by
    have := rfl_any _ va vl vc bs _ u h
    rw [← hs4]; exact this
  have hW := vW_is hby1
  have hC := vCD_ok hby2
  have BC := Lib.hid (build_at (vU mxU s0) (vW s1) (vCD s2) hW hC)
  have h32 := Lib.hid (bytesL_len hW)
  have h33 := Lib.hid (CpD.len hC)
  clear hs0 hs1 hs2 hs3 hs4 hby hby0 hby1 hby2 hby3 e3 eL eS hW hC
  generalize vU mxU s0 = v1 at *
  generalize vW s1 = r1 at *
  generalize vCD s2 = c1 at *
  generalize lsV s3 = ls at *
  obtain ⟨Y0, HY0⟩ : ∃ Y, Hid (flatP [[Value.int .u64 v1], bytesL r1, c1.cells, [Value.slice none 0 0]] = Y) := ⟨_, rfl⟩
  rw [HY0.out] at BC
  have hY0s : Y0.size = 67 := by rw [← HY0.out, flatP_size]; simp [h32.out, h33.out]
  have HY01 : Hid (∀ v ∈ Y0, v.oneCell' = true) := by show ∀ v ∈ Y0, _; rw [← HY0.out]; exact atOne
  have HI0 : Hid ((Try.prog.info? 35).map (·.size) = some Y0.size) := by show _ = _; rw [hY0s]; kernel_rfl
  by_cases he : s4.e = 0
  case neg =>
    have hne : (s4.e != 0) = true := by simpa using he
    have HE := Lib.hid he; clear he
    obtain ⟨ER, HERR⟩ : ∃ e, Hid (s4.e = e) := ⟨_, rfl⟩
    go_enter Try.func61, Try.ntmps61
    go_wp2_with (first
      | ((with_reducible refine at_store (.tmp 19) ?_); refine wpList_store_dr1 rfl 33 (.tmp 19) (.tmp 18) rfl S5.out 3 66 (.slice lva lvl lvc) rfl rfl rfl rfl (by kernel_rfl) rfl rfl ?_; intro w6 U6' S'
         have S6 := Lib.hid S'; clear S'; have HU6 := Lib.hid U6'; clear U6'
         obtain ⟨X, HX⟩ : ∃ X, Hid (flatP [[Value.int .u64 v1], bytesL r1, c1.cells, [Value.slice lva lvl lvc]] = X) := ⟨_, rfl⟩
         have XB := Lib.hid ((show Blk w6 w3.heap.size (flatP [[Value.int .u64 v1], bytesL r1, c1.cells, [Value.slice lva lvl lvc]]) from S6.out.xv).to HX.out)
         have hX0 : X.size = 67 := by rw [← HX.out, flatP_size]; simp [h32.out, h33.out]
         have HX1 : Hid (∀ v ∈ X, v.oneCell' = true) := by show ∀ v ∈ X, _; rw [← HX.out]; exact atOne
         have HIX : Hid ((Try.prog.info? 35).map (·.size) = some X.size) := by show _ = _; rw [hX0]; kernel_rfl
         have HSX : Hid (Z.size = X.size) := by show _ = _; rw [hZ0, hX0]
         have hsl := S6.out.cell1 3 66 rfl rfl
         have hxne : w.heap.size < w3.heap.size := S3.out.rv.lt
         have hx34 : w3.heap.size < w4.heap.size := S4.out.xv.lt
         have HI6 := Lib.hid (HIN.out.upd HU6.out (fun z x y e => by have := HLO.out z x y e; omega))
         obtain ⟨p2, c0, c1', c2, c3, _⟩ := S6.out.q.rd.three)
      | (go_at_call 90; refine (D4.out _ S4.out.q.rd).mono ?_; rintro e w5 ⟨lv, ys, rfl, hi, hle, hls, hlo, hr, hg⟩; obtain ⟨lva, lvl, lvc, rfl⟩ := ints_shape hi; have S5 := Lib.hid (S4.out.read (s' := s4) hr hg); have HIN := Lib.hid hi; have HLS := Lib.hid hls; have HLO := Lib.hid (hlo : ∀ x a b, Value.slice lva lvl lvc = .slice (some x) a b → w4.heap.size ≤ x.block); clear hr hg hi hlo hls hle)
      | ((with_reducible refine at_build (some 16) ?_); refine wpList_build rfl 35 _ rfl #[(0, .int .u64 v1), (1, .agg (bytesV r1)), (2, .agg c1.cells.toArray)] (by simp [Act.eval, Act.put]) (.agg Y0) (BC.out _) ?_)
      | (go_at_call 89; refine (D3.out _ S2.out.rd).mono ?_; rintro e w3 ⟨rfl, hr, hg⟩; have S3 := Lib.hid (S2.out.read (s' := s3) hr hg); clear hr hg)
      | (go_at_call 88; refine (D2.out _ S1.out.rd).mono ?_; rintro e w2 ⟨rfl, hr, hg⟩; have S2 := Lib.hid (S1.out.read (s' := s2) hr hg); clear hr hg)
      | (go_at_call 59; refine (D1.out _ S0.out.rd).mono ?_; rintro e w1 ⟨rfl, hr, hg⟩; have S1 := Lib.hid (S0.out.read (s' := s1) hr hg); clear hr hg)
      | ((with_reducible refine at_store (.tmp 6) ?_); refine wpList_store_blk rfl 35 (.tmp 6) _ rfl w3.heap.size Y0 rfl rfl Z (Blk.new rfl) (by rw [hZ0, hY0s]) HI0.out HY01.out ?_; intro w4 U4 B4; have S4 := Lib.hid (S3.out.start (ls := [1, 32, 33, 1]) U4 (B4.to HY0.out.symm) (by simp [h32.out, h33.out])); clear U4 B4))
    have HBL := Lib.hid (grownBy_below S6.out.q.gro (Nat.le_succ _) (Nat.le_refl _))
    obtain ⟨x, hxx⟩ : ∃ x, w6.drew = x := ⟨_, rfl⟩
    have hrx : Hid (Rfs x (w.heap.size + 1) va vl vc bs s4) := by rw [← hxx]; exact (S6.out.q.rd).drewN 1
    have hbx : Hid (Blk x w.heap.size Z) := by rw [← hxx]; exact S6.out.q.rv
    have hBX : Hid (Below w.heap.size w x) := by rw [← hxx]; exact Below.drewN (n := 1) HBL.out
    have hcx : x.cell? ⟨w.heap.size + 1, 2, none⟩ = some (.int .i64 ER) := by rw [hrx.out.fp.three.2.2.1, HERR.out]
    refine wp_region_held_drew (S := fun u => u.cell? ⟨w.heap.size + 1, 2, none⟩ = some (.int .i64 ER)) (by kernel_rfl) (by rw [hxx]; exact hcx) (fun _ => ?_)
    rw [hxx]
    clear hxx
    (try simp only [Act.put, List.setIfInBounds_toArray, List.set_cons_zero, List.set_cons_succ])
    refine held_build 0 (oi := ⟨some 25, _, _, _, _, _⟩) rfl (by kernel_rfl) (by kernel_rfl) (by kernel_rfl) (fun _ _ _ _ h => h) rfl 35 #[] rfl #[] (by simp) (.agg Z) (build_zero HZZ.out Try.underlying35 (places := #[(0, 1), (1, 32), (33, 33), (66, 1)]) (fun w => by kernel_rfl)) hcx ?_
    (try simp only [Act.put, List.setIfInBounds_toArray, List.set_cons_zero, List.set_cons_succ])
    refine wpAnyH_take (i := 1) (oi := ⟨some 26, _, _, _, _, _⟩) (v := .pointer (some ⟨w.heap.size + 1, 0, none⟩)) rfl (by kernel_rfl) (by kernel_rfl) (by kernel_rfl) (fun _ _ _ h => h) (Or.inl ⟨by rfl, fun wz hz => ?_⟩) hcx ?_
    · clear hz; go_simp; first | done | with_reducible rfl | rfl
    (try simp only [Act.put, List.setIfInBounds_toArray, List.set_cons_zero, List.set_cons_succ])
    refine wpAnyH_take (i := 2) (oi := ⟨some 27, _, _, _, _, _⟩) (v := .pointer (some ⟨w.heap.size + 1, 0, none⟩)) rfl (by kernel_rfl) (by kernel_rfl) (by kernel_rfl) (fun _ _ _ h => h) (Or.inl ⟨by rfl, fun wz hz => ?_⟩) hcx ?_
    · clear hz; go_simp; first | done | with_reducible rfl | rfl
    (try simp only [Act.put, List.setIfInBounds_toArray, List.set_cons_zero, List.set_cons_succ])
    refine wpAnyH_take (i := 3) (oi := ⟨some 28, _, _, _, _, _⟩) (v := .pointer (some ⟨w.heap.size + 1, 2, none⟩)) rfl (by kernel_rfl) (by kernel_rfl) (by kernel_rfl) (fun _ _ _ h => h) (Or.inl ⟨by rfl, fun wz hz => ?_⟩) hcx ?_
    · clear hz; go_simp; first | done | with_reducible rfl | rfl
    (try simp only [Act.put, List.setIfInBounds_toArray, List.set_cons_zero, List.set_cons_succ])
    refine held_load1 4 (oi := ⟨some 29, _, _, _, _, _⟩) rfl (by kernel_rfl) (by kernel_rfl) (by kernel_rfl) (fun _ _ _ _ h => h) rfl 52 (.tmp 28) rfl (w.heap.size + 1) 2 rfl (.int .i64 ER) _ (fun u' hu => hu) Try.underlying52 rfl hcx ?_
    (try simp only [Act.put, List.setIfInBounds_toArray, List.set_cons_zero, List.set_cons_succ])
    refine wpAnyH_ready (rs := [5]) (by kernel_rfl) (by simp) ?_
    refine AllReadyH.cons rfl (fun K hK => ?_) AllReadyH.nil
    rw [if_pos (by rfl)]
    refine wp_store_blk 35 (.tmp 2) (.tmp 25) rfl w.heap.size Z rfl rfl Z hbx.out rfl HIZ.out HZ1.out ?_
    intro w9 U9 B9
    have hc6 : w9.cell? ⟨w.heap.size + 1, 2, none⟩ = some (.int .i64 ER) := by rw [← hcx]; simp only [World.cell?, U9.block (w.heap.size + 1) (by omega)]
    refine hK.out _ _ hc6 (fun _ => ?_)
    clear hK K
    (try simp only [Act.put, List.setIfInBounds_toArray, List.set_cons_zero, List.set_cons_succ])
    refine wpAnyH_ready (rs := [6]) (by kernel_rfl) (by simp) ?_
    refine AllReadyH.cons rfl (fun K hK => ?_) AllReadyH.nil
    go_simp
    refine hK.out _ _ hc6 (fun _ => ?_)
    clear hK K
    (try simp only [Act.put, List.setIfInBounds_toArray, List.set_cons_zero, List.set_cons_succ])
    refine wpAnyH_ready (rs := [7]) (by kernel_rfl) (by simp) ?_
    refine AllReadyH.cons rfl (fun K hK => ?_) AllReadyH.nil
    go_simp
    refine hK.out _ _ hc6 (fun _ => ?_)
    clear hK K
    (try simp only [Act.put, List.setIfInBounds_toArray, List.set_cons_zero, List.set_cons_succ])
    refine wpAnyH_done (by kernel_rfl) ?_ _
    clear hcx hc6
    go_wp2_with fail
    refine bodyPost_ret (res_cell_tmp2 rfl rfl rfl rfl B9 Try.underlying35 rfl HIZ.out) rfl ?_
    exact attF_err HE.out HERR.out HZ.out hBX.out U9 (Nat.le_refl _)
  case pos =>
    have hne : (s4.e != 0) = false := by simpa using he
    have HE := Lib.hid he; clear he
    obtain ⟨ve, HVE⟩ : ∃ ve, Hid (vlE ls 1024 = ve) := ⟨_, rfl⟩
    have HIL : Hid (∀ {u : World} {v : Value} {ys : List Int}, Ints .i64 u v ys → ys = ls → Ints .i64 u v ls) := fun h e => e ▸ h
    by_cases hv : ve = 0
    case neg =>
      have hvb : (ve != 0) = true := by simpa using hv
      have HVB : Hid ((ve == 0) = false) := by show _ = _; simpa using hv
      clear hv
      go_enter Try.func61, Try.ntmps61
      go_wp2_with (first
        | ((with_reducible refine at_store (.tmp 19) ?_); refine wpList_store_dr1 rfl 33 (.tmp 19) (.tmp 18) rfl S5.out 3 66 (.slice lva lvl lvc) rfl rfl rfl rfl (by kernel_rfl) rfl rfl ?_; intro w6 U6' S'
           have S6 := Lib.hid S'; clear S'; have HU6 := Lib.hid U6'; clear U6'
           obtain ⟨X, HX⟩ : ∃ X, Hid (flatP [[Value.int .u64 v1], bytesL r1, c1.cells, [Value.slice lva lvl lvc]] = X) := ⟨_, rfl⟩
           have XB := Lib.hid ((show Blk w6 w3.heap.size (flatP [[Value.int .u64 v1], bytesL r1, c1.cells, [Value.slice lva lvl lvc]]) from S6.out.xv).to HX.out)
           have hX0 : X.size = 67 := by rw [← HX.out, flatP_size]; simp [h32.out, h33.out]
           have HX1 : Hid (∀ v ∈ X, v.oneCell' = true) := by show ∀ v ∈ X, _; rw [← HX.out]; exact atOne
           have HIX : Hid ((Try.prog.info? 35).map (·.size) = some X.size) := by show _ = _; rw [hX0]; kernel_rfl
           have HSX : Hid (Z.size = X.size) := by show _ = _; rw [hZ0, hX0]
           have hsl := S6.out.cell1 3 66 rfl rfl
           have hxne : w.heap.size < w3.heap.size := S3.out.rv.lt
           have hx34 : w3.heap.size < w4.heap.size := S4.out.xv.lt
           have HI6 := Lib.hid (HIN.out.upd HU6.out (fun z x y e => by have := HLO.out z x y e; omega))
           obtain ⟨p2, c0, c1', c2, c3, _⟩ := S6.out.q.rd.three)
        | (go_at_call 90; refine (D4.out _ S4.out.q.rd).mono ?_; rintro e w5 ⟨lv, ys, rfl, hi, hle, hls, hlo, hr, hg⟩; obtain ⟨lva, lvl, lvc, rfl⟩ := ints_shape hi; have S5 := Lib.hid (S4.out.read (s' := s4) hr hg); have HIN := Lib.hid hi; have HLS := Lib.hid hls; have HLO := Lib.hid (hlo : ∀ x a b, Value.slice lva lvl lvc = .slice (some x) a b → w4.heap.size ≤ x.block); clear hr hg hi hlo hls hle)
        | ((with_reducible refine at_build (some 16) ?_); refine wpList_build rfl 35 _ rfl #[(0, .int .u64 v1), (1, .agg (bytesV r1)), (2, .agg c1.cells.toArray)] (by simp [Act.eval, Act.put]) (.agg Y0) (BC.out _) ?_)
        | (go_at_call 89; refine (D3.out _ S2.out.rd).mono ?_; rintro e w3 ⟨rfl, hr, hg⟩; have S3 := Lib.hid (S2.out.read (s' := s3) hr hg); clear hr hg)
        | (go_at_call 88; refine (D2.out _ S1.out.rd).mono ?_; rintro e w2 ⟨rfl, hr, hg⟩; have S2 := Lib.hid (S1.out.read (s' := s2) hr hg); clear hr hg)
        | (go_at_call 59; refine (D1.out _ S0.out.rd).mono ?_; rintro e w1 ⟨rfl, hr, hg⟩; have S1 := Lib.hid (S0.out.read (s' := s1) hr hg); clear hr hg)
        | ((with_reducible refine at_store (.tmp 6) ?_); refine wpList_store_blk rfl 35 (.tmp 6) _ rfl w3.heap.size Y0 rfl rfl Z (Blk.new rfl) (by rw [hZ0, hY0s]) HI0.out HY01.out ?_; intro w4 U4 B4; have S4 := Lib.hid (S3.out.start (ls := [1, 32, 33, 1]) U4 (B4.to HY0.out.symm) (by simp [h32.out, h33.out])); clear U4 B4)
        | (go_at_call 51; refine (rvlist_any _ ls 1024 _ ⟨HIL.out HI6.out (HLS.out HE.out), HRL.out⟩ (by omega) (by omega)).mono ?_; rintro e w7 ⟨rfl, hb7⟩; rw [HVE.out]; have S7 := Lib.hid (S6.out.below hb7); have HI7 := Lib.hid (HI6.out.below hb7); have XB7 := Lib.hid (XB.out.call hb7); clear hb7)
        | ((with_reducible refine at_build (some 34) ?_); refine wpList_build rfl 35 _ rfl #[] (by simp) (.agg Z) (build_zero HZZ.out Try.underlying35 (places := #[(0, 1), (1, 32), (33, 33), (66, 1)]) (fun w => by kernel_rfl) _) ?_)
        | ((with_reducible refine at_store (.tmp 2) ?_); refine wpList_store_blk rfl 35 (.tmp 2) _ rfl w.heap.size Z rfl rfl Z S7.out.q.rv rfl HIZ.out HZ1.out ?_; intro w9 U9 B9))
      have HBL := Lib.hid (grownBy_below S7.out.q.gro (Nat.le_succ _) (Nat.le_refl _))
      refine bodyPost_ret (res_cell_tmp2 rfl rfl rfl rfl B9 Try.underlying35 rfl HIZ.out) rfl ?_
      exact ⟨.slice lva lvl lvc, ys, false, (fin_form HE.out HZ.out HBL.out U9 (Nat.le_refl _)).1, fun _ => ⟨by rw [HVE.out, HVB.out], ⟨HI7.out.upd U9 (fun z x y e => by have := HLO.out z x y e; omega), fun z x y e _ => by have := HLO.out z x y e; omega⟩, HLS.out HE.out⟩, U9.below HBL.out (Nat.le_refl _)⟩
    case pos =>
      have hvb : (ve != 0) = false := by simpa using hv
      have HVB : Hid ((ve == 0) = true) := by show _ = _; simpa using hv
      clear hv
      go_enter Try.func61, Try.ntmps61
      go_wp2_with (first
        | ((with_reducible refine at_store (.tmp 19) ?_); refine wpList_store_dr1 rfl 33 (.tmp 19) (.tmp 18) rfl S5.out 3 66 (.slice lva lvl lvc) rfl rfl rfl rfl (by kernel_rfl) rfl rfl ?_; intro w6 U6' S'
           have S6 := Lib.hid S'; clear S'; have HU6 := Lib.hid U6'; clear U6'
           obtain ⟨X, HX⟩ : ∃ X, Hid (flatP [[Value.int .u64 v1], bytesL r1, c1.cells, [Value.slice lva lvl lvc]] = X) := ⟨_, rfl⟩
           have XB := Lib.hid ((show Blk w6 w3.heap.size (flatP [[Value.int .u64 v1], bytesL r1, c1.cells, [Value.slice lva lvl lvc]]) from S6.out.xv).to HX.out)
           have hX0 : X.size = 67 := by rw [← HX.out, flatP_size]; simp [h32.out, h33.out]
           have HX1 : Hid (∀ v ∈ X, v.oneCell' = true) := by show ∀ v ∈ X, _; rw [← HX.out]; exact atOne
           have HIX : Hid ((Try.prog.info? 35).map (·.size) = some X.size) := by show _ = _; rw [hX0]; kernel_rfl
           have HSX : Hid (Z.size = X.size) := by show _ = _; rw [hZ0, hX0]
           have hsl := S6.out.cell1 3 66 rfl rfl
           have hxne : w.heap.size < w3.heap.size := S3.out.rv.lt
           have hx34 : w3.heap.size < w4.heap.size := S4.out.xv.lt
           have HI6 := Lib.hid (HIN.out.upd HU6.out (fun z x y e => by have := HLO.out z x y e; omega))
           obtain ⟨p2, c0, c1', c2, c3, _⟩ := S6.out.q.rd.three)
        | (go_at_call 90; refine (D4.out _ S4.out.q.rd).mono ?_; rintro e w5 ⟨lv, ys, rfl, hi, hle, hls, hlo, hr, hg⟩; obtain ⟨lva, lvl, lvc, rfl⟩ := ints_shape hi; have S5 := Lib.hid (S4.out.read (s' := s4) hr hg); have HIN := Lib.hid hi; have HLS := Lib.hid hls; have HLO := Lib.hid (hlo : ∀ x a b, Value.slice lva lvl lvc = .slice (some x) a b → w4.heap.size ≤ x.block); clear hr hg hi hlo hls hle)
        | ((with_reducible refine at_build (some 16) ?_); refine wpList_build rfl 35 _ rfl #[(0, .int .u64 v1), (1, .agg (bytesV r1)), (2, .agg c1.cells.toArray)] (by simp [Act.eval, Act.put]) (.agg Y0) (BC.out _) ?_)
        | (go_at_call 89; refine (D3.out _ S2.out.rd).mono ?_; rintro e w3 ⟨rfl, hr, hg⟩; have S3 := Lib.hid (S2.out.read (s' := s3) hr hg); clear hr hg)
        | (go_at_call 88; refine (D2.out _ S1.out.rd).mono ?_; rintro e w2 ⟨rfl, hr, hg⟩; have S2 := Lib.hid (S1.out.read (s' := s2) hr hg); clear hr hg)
        | (go_at_call 59; refine (D1.out _ S0.out.rd).mono ?_; rintro e w1 ⟨rfl, hr, hg⟩; have S1 := Lib.hid (S0.out.read (s' := s1) hr hg); clear hr hg)
        | ((with_reducible refine at_store (.tmp 6) ?_); refine wpList_store_blk rfl 35 (.tmp 6) _ rfl w3.heap.size Y0 rfl rfl Z (Blk.new rfl) (by rw [hZ0, hY0s]) HI0.out HY01.out ?_; intro w4 U4 B4; have S4 := Lib.hid (S3.out.start (ls := [1, 32, 33, 1]) U4 (B4.to HY0.out.symm) (by simp [h32.out, h33.out])); clear U4 B4)
        | (go_at_call 51; refine (rvlist_any _ ls 1024 _ ⟨HIL.out HI6.out (HLS.out HE.out), HRL.out⟩ (by omega) (by omega)).mono ?_; rintro e w7 ⟨rfl, hb7⟩; rw [HVE.out]; have S7 := Lib.hid (S6.out.below hb7); have HI7 := Lib.hid (HI6.out.below hb7); have XB7 := Lib.hid (XB.out.call hb7); clear hb7))
      have HBL := Lib.hid (grownBy_below S7.out.q.gro (Nat.le_succ _) (Nat.le_refl _))
      obtain ⟨x, hxx⟩ : ∃ x, w7.drew = x := ⟨_, rfl⟩
      have hrx : Hid (Rfs x (w.heap.size + 1) va vl vc bs s4) := by rw [← hxx]; exact (S7.out.q.rd).drewN 1
      have hbx : Hid (Blk x w.heap.size Z) := by rw [← hxx]; exact S7.out.q.rv
      have hvx : Hid (Blk x w3.heap.size X) := by rw [← hxx]; exact XB7.out
      have hBX : Hid (Below w.heap.size w x) := by rw [← hxx]; exact Below.drewN (n := 1) HBL.out
      obtain ⟨L, HLX⟩ : ∃ L : List Value, Hid (X = L.toArray) := ⟨X.toList, by show _ = _; simp⟩
      obtain ⟨AT, HAT⟩ : ∃ AT : Nat, Hid (bs.length - s4.r.length = AT) := ⟨_, rfl⟩
      have HVL : Hid (Blk x w3.heap.size L.toArray) := by show Blk _ _ _; rw [← HLX.out]; exact hvx.out
      have HS : Hid (Blk x w3.heap.size L.toArray ∧ x.cell? ⟨w.heap.size + 1, 1, none⟩ = some (.int .i64 AT)) := ⟨HVL.out, by rw [← HAT.out]; exact hrx.out.fp.three.2.1⟩
      have HIL : Hid ((Try.prog.info? 35).map (·.size) = some L.length) := by have := HIX.out; rw [HLX.out] at this; show _ = _; simpa using this
      have HI8 : Hid (Ints .i64 x (.slice lva lvl lvc) ys) := by have h := HI7.out; rw [← hxx]; exact h
      refine wp_region_held_drew (S := fun u => Blk u w3.heap.size L.toArray ∧ u.cell? ⟨w.heap.size + 1, 1, none⟩ = some (.int .i64 AT)) (by kernel_rfl) (by rw [hxx]; exact HS.out) (fun _ => ?_)
      rw [hxx]
      clear hxx
      (try simp only [Act.put, List.setIfInBounds_toArray, List.set_cons_zero, List.set_cons_succ])
      refine held_load 0 (oi := ⟨some 35, _, _, _, _, _⟩) rfl (by kernel_rfl) (by kernel_rfl) (by kernel_rfl) (fun _ _ _ _ h => h) rfl 35 (.tmp 6) rfl w3.heap.size 0 rfl L _ (fun u' hu => by simpa using hu.1.range) Try.underlying35 rfl HIL.out HS.out ?_
      (try simp only [Act.put, List.setIfInBounds_toArray, List.set_cons_zero, List.set_cons_succ])
      refine wpAnyH_take (i := 1) (oi := ⟨some 36, _, _, _, _, _⟩) (v := .pointer (some ⟨w.heap.size + 1, 0, none⟩)) rfl (by kernel_rfl) (by kernel_rfl) (by kernel_rfl) (fun _ _ _ h => h) (Or.inl ⟨by rfl, fun wz hz => ?_⟩) HS.out ?_
      · clear hz; go_simp; first | done | with_reducible rfl | rfl
      (try simp only [Act.put, List.setIfInBounds_toArray, List.set_cons_zero, List.set_cons_succ])
      refine wpAnyH_take (i := 2) (oi := ⟨some 37, _, _, _, _, _⟩) (v := .pointer (some ⟨w.heap.size + 1, 0, none⟩)) rfl (by kernel_rfl) (by kernel_rfl) (by kernel_rfl) (fun _ _ _ h => h) (Or.inl ⟨by rfl, fun wz hz => ?_⟩) HS.out ?_
      · clear hz; go_simp; first | done | with_reducible rfl | rfl
      (try simp only [Act.put, List.setIfInBounds_toArray, List.set_cons_zero, List.set_cons_succ])
      refine wpAnyH_take (i := 3) (oi := ⟨some 38, _, _, _, _, _⟩) (v := .pointer (some ⟨w.heap.size + 1, 1, none⟩)) rfl (by kernel_rfl) (by kernel_rfl) (by kernel_rfl) (fun _ _ _ h => h) (Or.inl ⟨by rfl, fun wz hz => ?_⟩) HS.out ?_
      · clear hz; go_simp; first | done | with_reducible rfl | rfl
      (try simp only [Act.put, List.setIfInBounds_toArray, List.set_cons_zero, List.set_cons_succ])
      refine held_load1 4 (oi := ⟨some 39, _, _, _, _, _⟩) rfl (by kernel_rfl) (by kernel_rfl) (by kernel_rfl) (fun _ _ _ _ h => h) rfl 3 (.tmp 38) rfl (w.heap.size + 1) 1 rfl (.int .i64 AT) _ (fun u' hu => hu.2) Try.underlying3 rfl HS.out ?_
      (try simp only [Act.put, List.setIfInBounds_toArray, List.set_cons_zero, List.set_cons_succ])
      refine wpAnyH_ready (rs := [5]) (by kernel_rfl) (by simp) ?_
      refine AllReadyH.cons rfl (fun K hK => ?_) AllReadyH.nil
      rw [if_pos (by rfl)]
      refine wp_store_blk 35 (.tmp 2) (.tmp 35) rfl w.heap.size L.toArray rfl rfl Z hbx.out (by have := HSX.out; rw [HLX.out] at this; exact this) (by simpa using HIL.out) (by rw [← HLX.out]; exact HX1.out) ?_
      intro w9 U9 B9
      have hc6 : Hid (Blk w9 w3.heap.size L.toArray ∧ w9.cell? ⟨w.heap.size + 1, 1, none⟩ = some (.int .i64 AT)) := ⟨U9.blk HVL.out (by omega), by rw [← HS.out.2]; simp only [World.cell?, U9.block (w.heap.size + 1) (by omega)]⟩
      refine hK.out _ _ hc6.out (fun _ => ?_)
      clear hK K
      (try simp only [Act.put, List.setIfInBounds_toArray, List.set_cons_zero, List.set_cons_succ])
      refine wpAnyH_ready (rs := [6]) (by kernel_rfl) (by simp) ?_
      refine AllReadyH.cons rfl (fun K hK => ?_) AllReadyH.nil
      go_simp
      refine hK.out _ _ hc6.out (fun _ => ?_)
      clear hK K
      (try simp only [Act.put, List.setIfInBounds_toArray, List.set_cons_zero, List.set_cons_succ])
      refine wpAnyH_ready (rs := [7]) (by kernel_rfl) (by simp) ?_
      refine AllReadyH.cons rfl (fun K hK => ?_) AllReadyH.nil
      go_simp
      refine hK.out _ _ hc6.out (fun _ => ?_)
      clear hK K
      (try simp only [Act.put, List.setIfInBounds_toArray, List.set_cons_zero, List.set_cons_succ])
      refine wpAnyH_done (by kernel_rfl) ?_ _
      rw [← HLX.out] at B9
      go_wp2_with fail
      refine bodyPost_ret (res_cell_tmp2 rfl rfl rfl rfl B9 Try.underlying35 rfl HIX.out) rfl ?_
      exact ⟨.slice lva lvl lvc, ys, true, by rw [HED.out, HX.out]; exact (fin_ok HE.out hBX.out U9 (Nat.le_refl _) (by have h1 := S7.out.q.rd.rlen; have h2 := HAT.out; omega)).1, fun _ => ⟨by rw [HVE.out, HVB.out], ⟨HI8.out.upd U9 (fun z x y e => by have := HLO.out z x y e; omega), fun z x y e _ => by have := HLO.out z x y e; omega⟩, HLS.out HE.out⟩, U9.below hBX.out (Nat.le_refl _)⟩
end

/-! RdS -/
section
set_option linter.unusedVariables false
set_option linter.unusedSimpArgs false
open Go.RowKit

/-- What the reference's DecodeSlashing gives. -/
def SlaF (w : World) (d1 d2 : Value → ClD) (l m : List Int) (s : RS) (N : Nat) (en : Ending) (w' : World) : Prop :=
  ∃ lv mv ys zs b, en = .returned (.tuple #[.agg (finX s.e b (flatP [(d1 lv).cells, (d2 mv).cells]) (flatP [zCl.cells, zCl.cells])), .int .i64 (finU s.e b ((N : Int) - (s.r.length : Nat))), .int .i64 (finE s.e b)]) ∧ (s.e = 0 → b = (vlsE [l, m] == 0) ∧ (Ints .i64 w' lv ys ∧ New w.heap.size lv) ∧ ys = l ∧ (Ints .i64 w' mv zs ∧ New w.heap.size mv) ∧ zs = m) ∧ Below w.heap.size w w'

theorem slaF_err {w u w6 : World} {s : RS} {e : Int} {d1 d2 : Value → ClD} {l m : List Int} {Z : Array Value} {N rr : Nat} (he : s.e ≠ 0) (hee : s.e = e) (hZ : Z = flatP [zCl.cells, zCl.cells]) (hB : Below w.heap.size w u) (hU : Upd rr u w6) (hr : w.heap.size ≤ rr) : SlaF w d1 d2 l m s N (.returned (.tuple #[.agg Z, .int .i64 0, .int .i64 e])) w6 := by
  subst hee
  exact ⟨.slice none 0 0, .slice none 0 0, [], [], true, (fin_err he hZ hB hU hr).1, fun h => absurd h he, hU.below hB hr⟩

theorem clS_err {s : RS} (h : s.e ≠ 0) : clS s = s := by
  have h2 : cl2 s = s := by unfold cl2; rw [nU_err h, nU_err h]
  unfold clS; rw [h2, nW_err h, lsN_err h]

theorem slOne {x y : ClD} (hx : ∃ a l c, x.v = .slice a l c) (hy : ∃ a l c, y.v = .slice a l c) : ∀ v ∈ flatP [x.cells, y.cells], v.oneCell' = true := by
  obtain ⟨_, _, _, hx⟩ := hx
  obtain ⟨_, _, _, hy⟩ := hy
  refine flatP_one fun p hp v hv => ?_
  simp only [List.mem_cons, List.not_mem_nil, or_false] at hp
  rcases hp with rfl | rfl
  · exact ClD.one _ (by rw [hx]; rfl) v hv
  · exact ClD.one _ (by rw [hy]; rfl) v hv

set_option maxRecDepth 100000 in
set_option maxHeartbeats 16000000 in
theorem rdsla_any (v : Value) (bs : List Int) (w : World) (h : Byt w v bs) :
    Calls Try.prog 62 #[v] w (SlaF w (clD ⟨bs, 0⟩) (clD (clS ⟨bs, 0⟩)) (clL ⟨bs, 0⟩) (clL (clS ⟨bs, 0⟩)) (clS (clS ⟨bs, 0⟩)) bs.length) := by
  obtain ⟨va, vl, vc, rfl⟩ := h.shape
  have hby : byteL bs := h.rng
  have hblt := h.blk_lt
  have hfits := h.fits _ _ _ rfl
  have hln : bs.length = vl := by obtain ⟨_, _, _, e', hl, _⟩ := h.ints; cases e'; exact hl
  unfold maxLen at hfits
  obtain ⟨Z, hZ⟩ : ∃ Z, Z = flatP [zCl.cells, zCl.cells] := ⟨_, rfl⟩
  have hZ0 : Z.size = 70 := by rw [hZ]; rfl
  obtain ⟨hzz, hst⟩ := zero_array (P := Try.prog) (t := 39) (n := 70) Z (by rw [hZ]; kernel_rfl) hZ0 (by rw [hZ]; kernel_rfl)
  have HZZ := Lib.hid hzz
  have HZ1 : Hid (∀ v ∈ Z, v.oneCell' = true) := fun v hv => (Array.all_eq_true_iff_forall_mem.1 (show Z.all (·.oneCell') = true by rw [hZ]; kernel_rfl)) v hv
  have HIZ : Hid ((Try.prog.info? 39).map (·.size) = some Z.size) := by show _ = _; rw [hZ0]; kernel_rfl
  have HZ := Lib.hid hZ; clear hZ
  have hba := ((Below.refl w.heap.size w).alloc (Nat.le_refl _) (.cells Z 39)).alloc (by simp) (.cells #[.slice va vl vc, .int .i64 0, .int .i64 0] 103)
  have S0 : Hid (DQ (w.heap.size + 1) va vl vc bs w.heap.size Z w ((w.alloc (.cells Z 39)).alloc (.cells #[.slice va vl vc, .int .i64 0, .int .i64 0] 103)) ⟨bs, 0⟩) :=
    ⟨Rfs.mk' (p := 0) ⟨Blk.new (by simp), h.below hba, Nat.zero_le _, fun x hx h0 => by have := hblt x hx h0; omega⟩ (by simp), (Blk.new rfl).alloc _, grownBy_of_below hba, by omega, Nat.le_refl _, fun x hx h0 => by have := hblt x hx h0; omega⟩
  have HLN := Lib.hid hln
  clear hba h hln
  obtain ⟨s0, hs0⟩ : ∃ s0 : RS, (⟨bs, 0⟩ : RS) = s0 := ⟨_, rfl⟩
  have hby0 : byteL s0.r := by rw [← hs0]; exact hby
  rw [hs0] at S0 ⊢
  obtain ⟨s1, hs1⟩ : ∃ s1, clS s0 = s1 := ⟨_, rfl⟩
  obtain ⟨s2, hs2⟩ : ∃ s2, clS s1 = s2 := ⟨_, rfl⟩
  rw [hs1, hs2]
  have hby1 : byteL s1.r := hs1 ▸ clS_byte hby0
  have HR1 := Lib.hid (clL_rng hby0)
  have HR2 := Lib.hid (clL_rng hby1)
  have HO1 := Lib.hid (fun lv => clD_ok hby0 lv)
  have HO2 := Lib.hid (fun lv => clD_ok hby1 lv)
  have HV1 : Hid (∀ lv, (clD s0 lv).v = lv) := fun _ => rfl
  have HV2 : Hid (∀ lv, (clD s1 lv).v = lv) := fun _ => rfl
  have HES : Hid (s2.e = 0 → s1.e = 0) := fun h => Classical.byContradiction fun hn => by rw [← hs2, clS_err hn] at h; exact hn h
  have D1 : Hid (∀ u, Rfs u (w.heap.size + 1) va vl vc bs s0 → Calls Try.prog 91 #[.pointer (some ⟨w.heap.size + 1, 0, none⟩)] u (RfC u (w.heap.size + 1) va vl vc bs (clD s0) (clL s0) s1)) := fun u h => by
    have := rfclm_any _ va vl vc bs _ u h
    rw [← hs1]; exact this
  have D2 : Hid (∀ u, Rfs u (w.heap.size + 1) va vl vc bs s1 → Calls Try.prog 91 #[.pointer (some ⟨w.heap.size + 1, 0, none⟩)] u (RfC u (w.heap.size + 1) va vl vc bs (clD s1) (clL s1) s2)) := fun u h => by
    have := rfclm_any _ va vl vc bs _ u h
    rw [← hs2]; exact this
  clear hs0 hs1 hs2 hby hby0 hby1
  generalize clD s0 = d1 at *
  generalize clD s1 = d2 at *
  generalize clL s0 = l at *
  generalize clL s1 = m at *
  have HW0 : Hid (((w.alloc (.cells Z 39)).alloc (.cells #[.slice va vl vc, .int .i64 0, .int .i64 0] 103)).heap.size = w.heap.size + 2) := by show _ = _; simp
  by_cases he : s2.e = 0
  case neg =>
    have hne : (s2.e != 0) = true := by simpa using he
    have HE := Lib.hid he; clear he
    obtain ⟨ER, HERR⟩ : ∃ e, Hid (s2.e = e) := ⟨_, rfl⟩
    go_enter Try.func62, Try.ntmps62
    go_wp2_with (first
      | (go_at_call 91; refine (D2.out _ S1.out.rd).mono ?_; rintro e w2 ⟨mv, zs, rfl, hi, hle, hls, hlo, hr, hg⟩; obtain ⟨ma, mn, mc, rfl⟩ := ints_shape hi; have S2 := Lib.hid (S1.out.read (s' := s2) hr hg)
         have HIM := Lib.hid hi; have HMS := Lib.hid hls; have HMO := Lib.hid (hlo : ∀ x a b, Value.slice ma mn mc = .slice (some x) a b → w1.heap.size ≤ x.block); have HML := Lib.hid hle
         have HIN2 := Lib.hid (HIN.out.grown hg (fun z x y e => by have h1 := HLO.out z x y e; have h2 := HW0.out; omega))
         have hsz1 : w.heap.size + 2 ≤ w1.heap.size := by have h1 := HG1.out.size; rw [HW0.out] at h1; exact h1
         clear hr hg hi hlo hls hle
         obtain ⟨X, HX⟩ : ∃ X, Hid (flatP [(d1 (.slice la ln lc)).cells, (d2 (.slice ma mn mc)).cells] = X) := ⟨_, rfl⟩
         have BC := Lib.hid (build_sl _ _ (HO1.out (.slice la ln lc)) (HO2.out (.slice ma mn mc)))
         rw [HX.out] at BC
         have hX0 : X.size = 70 := by rw [← HX.out, flatP_size]; simp [ClD.len (HO1.out _), ClD.len (HO2.out _)]
         have HX1 : Hid (∀ v ∈ X, v.oneCell' = true) := by show ∀ v ∈ X, _; rw [← HX.out]; exact slOne ⟨_, _, _, HV1.out _⟩ ⟨_, _, _, HV2.out _⟩
         have HIX : Hid ((Try.prog.info? 39).map (·.size) = some X.size) := by show _ = _; rw [hX0]; kernel_rfl
         have HSX : Hid (Z.size = X.size) := by show _ = _; rw [hZ0, hX0])
      | (go_at_call 91; refine (D1.out _ S0.out.rd).mono ?_; rintro e w1 ⟨lv, ys, rfl, hi, hle, hls, hlo, hr, hg⟩; obtain ⟨la, ln, lc, rfl⟩ := ints_shape hi; have S1 := Lib.hid (S0.out.read (s' := s1) hr hg); have HIN := Lib.hid hi; have HLS := Lib.hid hls; have HLO := Lib.hid hlo; have HLL := Lib.hid hle; have HG1 := Lib.hid hg; clear hr hg hi hlo hls hle)
      | ((with_reducible refine at_build (some 16) ?_); refine wpList_build rfl 39 _ rfl #[(0, .agg (d1 (.slice la ln lc)).cells.toArray), (1, .agg (d2 (.slice ma mn mc)).cells.toArray)] (by simp [Act.eval, Act.put]) (.agg X) (BC.out _) ?_)
      | ((with_reducible refine at_store (.tmp 6) ?_); refine wpList_store_blk rfl 39 (.tmp 6) _ rfl w2.heap.size X rfl rfl Z (Blk.new rfl) HSX.out HIX.out HX1.out ?_; intro w4 U4 B4
         have hb2 : Below w2.heap.size w2 w4 := U4.below ((Below.refl _ w2).alloc (Nat.le_refl _) _) (Nat.le_refl _)
         have S4 := Lib.hid (S2.out.below hb2)
         obtain ⟨p2, c0, c1, c2, c3, _⟩ := S4.out.rd.three
         have XB := Lib.hid B4
         have HI4 := Lib.hid (HIN2.out.below hb2)
         have HM4 := Lib.hid (HIM.out.below hb2)
         have hxne : w.heap.size < w2.heap.size := S2.out.rv.lt
         clear hb2 U4 B4))
    have HBL := Lib.hid (grownBy_below S4.out.gro (Nat.le_succ _) (Nat.le_refl _))
    obtain ⟨x, hxx⟩ : ∃ x, w4.drew = x := ⟨_, rfl⟩
    have hrx : Hid (Rfs x (w.heap.size + 1) va vl vc bs s2) := by rw [← hxx]; exact (S4.out.rd).drewN 1
    have hbx : Hid (Blk x w.heap.size Z) := by rw [← hxx]; exact S4.out.rv
    have hBX : Hid (Below w.heap.size w x) := by rw [← hxx]; exact Below.drewN (n := 1) HBL.out
    have hcx : x.cell? ⟨w.heap.size + 1, 2, none⟩ = some (.int .i64 ER) := by rw [hrx.out.fp.three.2.2.1, HERR.out]
    refine wp_region_held_drew (S := fun u => u.cell? ⟨w.heap.size + 1, 2, none⟩ = some (.int .i64 ER)) (by kernel_rfl) (by rw [hxx]; exact hcx) (fun _ => ?_)
    rw [hxx]
    clear hxx
    (try simp only [Act.put, List.setIfInBounds_toArray, List.set_cons_zero, List.set_cons_succ])
    refine held_build 0 (oi := ⟨some 22, _, _, _, _, _⟩) rfl (by kernel_rfl) (by kernel_rfl) (by kernel_rfl) (fun _ _ _ _ h => h) rfl 39 #[] rfl #[] (by simp) (.agg Z) (build_zero HZZ.out Try.underlying39 (places := #[(0, 35), (35, 35)]) (fun w => by kernel_rfl)) hcx ?_
    (try simp only [Act.put, List.setIfInBounds_toArray, List.set_cons_zero, List.set_cons_succ])
    refine wpAnyH_take (i := 1) (oi := ⟨some 23, _, _, _, _, _⟩) (v := .pointer (some ⟨w.heap.size + 1, 0, none⟩)) rfl (by kernel_rfl) (by kernel_rfl) (by kernel_rfl) (fun _ _ _ h => h) (Or.inl ⟨by rfl, fun wz hz => ?_⟩) hcx ?_
    · clear hz; go_simp; first | done | with_reducible rfl | rfl
    (try simp only [Act.put, List.setIfInBounds_toArray, List.set_cons_zero, List.set_cons_succ])
    refine wpAnyH_take (i := 2) (oi := ⟨some 24, _, _, _, _, _⟩) (v := .pointer (some ⟨w.heap.size + 1, 0, none⟩)) rfl (by kernel_rfl) (by kernel_rfl) (by kernel_rfl) (fun _ _ _ h => h) (Or.inl ⟨by rfl, fun wz hz => ?_⟩) hcx ?_
    · clear hz; go_simp; first | done | with_reducible rfl | rfl
    (try simp only [Act.put, List.setIfInBounds_toArray, List.set_cons_zero, List.set_cons_succ])
    refine wpAnyH_take (i := 3) (oi := ⟨some 25, _, _, _, _, _⟩) (v := .pointer (some ⟨w.heap.size + 1, 2, none⟩)) rfl (by kernel_rfl) (by kernel_rfl) (by kernel_rfl) (fun _ _ _ h => h) (Or.inl ⟨by rfl, fun wz hz => ?_⟩) hcx ?_
    · clear hz; go_simp; first | done | with_reducible rfl | rfl
    (try simp only [Act.put, List.setIfInBounds_toArray, List.set_cons_zero, List.set_cons_succ])
    refine held_load1 4 (oi := ⟨some 26, _, _, _, _, _⟩) rfl (by kernel_rfl) (by kernel_rfl) (by kernel_rfl) (fun _ _ _ _ h => h) rfl 52 (.tmp 25) rfl (w.heap.size + 1) 2 rfl (.int .i64 ER) _ (fun u' hu => hu) Try.underlying52 rfl hcx ?_
    (try simp only [Act.put, List.setIfInBounds_toArray, List.set_cons_zero, List.set_cons_succ])
    refine wpAnyH_ready (rs := [5]) (by kernel_rfl) (by simp) ?_
    refine AllReadyH.cons rfl (fun K hK => ?_) AllReadyH.nil
    rw [if_pos (by rfl)]
    refine wp_store_blk 39 (.tmp 2) (.tmp 22) rfl w.heap.size Z rfl rfl Z hbx.out rfl HIZ.out HZ1.out ?_
    intro w9 U9 B9
    have hc6 : w9.cell? ⟨w.heap.size + 1, 2, none⟩ = some (.int .i64 ER) := by rw [← hcx]; simp only [World.cell?, U9.block (w.heap.size + 1) (by omega)]
    refine hK.out _ _ hc6 (fun _ => ?_)
    clear hK K
    (try simp only [Act.put, List.setIfInBounds_toArray, List.set_cons_zero, List.set_cons_succ])
    refine wpAnyH_ready (rs := [6]) (by kernel_rfl) (by simp) ?_
    refine AllReadyH.cons rfl (fun K hK => ?_) AllReadyH.nil
    go_simp
    refine hK.out _ _ hc6 (fun _ => ?_)
    clear hK K
    (try simp only [Act.put, List.setIfInBounds_toArray, List.set_cons_zero, List.set_cons_succ])
    refine wpAnyH_ready (rs := [7]) (by kernel_rfl) (by simp) ?_
    refine AllReadyH.cons rfl (fun K hK => ?_) AllReadyH.nil
    go_simp
    refine hK.out _ _ hc6 (fun _ => ?_)
    clear hK K
    (try simp only [Act.put, List.setIfInBounds_toArray, List.set_cons_zero, List.set_cons_succ])
    refine wpAnyH_done (by kernel_rfl) ?_ _
    clear hcx hc6
    go_wp2_with fail
    refine bodyPost_ret (res_cell_tmp2 rfl rfl rfl rfl B9 Try.underlying39 rfl HIZ.out) rfl ?_
    exact slaF_err HE.out HERR.out HZ.out hBX.out U9 (Nat.le_refl _)
  case pos =>
    have hne : (s2.e != 0) = false := by simpa using he
    have HE := Lib.hid he; clear he
    obtain ⟨ve, HVE⟩ : ∃ ve, Hid (vlsE [l, m] = ve) := ⟨_, rfl⟩
    have HIL : Hid (∀ {u : World} {v : Value} {ys ls : List Int}, Ints .i64 u v ys → ys = ls → Ints .i64 u v ls) := fun h e => e ▸ h
    by_cases hv : ve = 0
    case neg =>
      have hvb : (ve != 0) = true := by simpa using hv
      have HVB : Hid ((ve == 0) = false) := by show _ = _; simpa using hv
      clear hv
      go_enter Try.func62, Try.ntmps62
      go_wp2_with (first
        | (go_at_call 91; refine (D2.out _ S1.out.rd).mono ?_; rintro e w2 ⟨mv, zs, rfl, hi, hle, hls, hlo, hr, hg⟩; obtain ⟨ma, mn, mc, rfl⟩ := ints_shape hi; have S2 := Lib.hid (S1.out.read (s' := s2) hr hg)
           have HIM := Lib.hid hi; have HMS := Lib.hid hls; have HMO := Lib.hid (hlo : ∀ x a b, Value.slice ma mn mc = .slice (some x) a b → w1.heap.size ≤ x.block); have HML := Lib.hid hle
           have HIN2 := Lib.hid (HIN.out.grown hg (fun z x y e => by have h1 := HLO.out z x y e; have h2 := HW0.out; omega))
           have hsz1 : w.heap.size + 2 ≤ w1.heap.size := by have h1 := HG1.out.size; rw [HW0.out] at h1; exact h1
           clear hr hg hi hlo hls hle
           obtain ⟨X, HX⟩ : ∃ X, Hid (flatP [(d1 (.slice la ln lc)).cells, (d2 (.slice ma mn mc)).cells] = X) := ⟨_, rfl⟩
           have BC := Lib.hid (build_sl _ _ (HO1.out (.slice la ln lc)) (HO2.out (.slice ma mn mc)))
           rw [HX.out] at BC
           have hX0 : X.size = 70 := by rw [← HX.out, flatP_size]; simp [ClD.len (HO1.out _), ClD.len (HO2.out _)]
           have HX1 : Hid (∀ v ∈ X, v.oneCell' = true) := by show ∀ v ∈ X, _; rw [← HX.out]; exact slOne ⟨_, _, _, HV1.out _⟩ ⟨_, _, _, HV2.out _⟩
           have HIX : Hid ((Try.prog.info? 39).map (·.size) = some X.size) := by show _ = _; rw [hX0]; kernel_rfl
           have HSX : Hid (Z.size = X.size) := by show _ = _; rw [hZ0, hX0])
        | (go_at_call 91; refine (D1.out _ S0.out.rd).mono ?_; rintro e w1 ⟨lv, ys, rfl, hi, hle, hls, hlo, hr, hg⟩; obtain ⟨la, ln, lc, rfl⟩ := ints_shape hi; have S1 := Lib.hid (S0.out.read (s' := s1) hr hg); have HIN := Lib.hid hi; have HLS := Lib.hid hls; have HLO := Lib.hid hlo; have HLL := Lib.hid hle; have HG1 := Lib.hid hg; clear hr hg hi hlo hls hle)
        | ((with_reducible refine at_build (some 16) ?_); refine wpList_build rfl 39 _ rfl #[(0, .agg (d1 (.slice la ln lc)).cells.toArray), (1, .agg (d2 (.slice ma mn mc)).cells.toArray)] (by simp [Act.eval, Act.put]) (.agg X) (BC.out _) ?_)
        | ((with_reducible refine at_store (.tmp 6) ?_); refine wpList_store_blk rfl 39 (.tmp 6) _ rfl w2.heap.size X rfl rfl Z (Blk.new rfl) HSX.out HIX.out HX1.out ?_; intro w4 U4 B4
           have hb2 : Below w2.heap.size w2 w4 := U4.below ((Below.refl _ w2).alloc (Nat.le_refl _) _) (Nat.le_refl _)
           have S4 := Lib.hid (S2.out.below hb2)
           obtain ⟨p2, c0, c1, c2, c3, _⟩ := S4.out.rd.three
           have XB := Lib.hid B4
           have HI4 := Lib.hid (HIN2.out.below hb2)
           have HM4 := Lib.hid (HIM.out.below hb2)
           have hxne : w.heap.size < w2.heap.size := S2.out.rv.lt
           clear hb2 U4 B4)
        | ((with_reducible refine at_load (.tmp 6) ?_); refine wpList_load_blk rfl 39 (.tmp 6) rfl w2.heap.size rfl X _ XB.out Try.underlying39 rfl HIX.out ?_)
        | (go_at_call 29; refine (HX.out ▸ resla_any (d1 (.slice la ln lc)) (d2 (.slice ma mn mc)) l m w4 ⟨HO1.out _, ⟨(HV1.out _).symm ▸ HIL.out HI4.out (HLS.out (HES.out HE.out)), HR1.out⟩, by rw [← HLS.out (HES.out HE.out)]; have := HLL.out; omega⟩ ⟨HO2.out _, ⟨(HV2.out _).symm ▸ HIL.out HM4.out (HMS.out HE.out), HR2.out⟩, by rw [← HMS.out HE.out]; have := HML.out; omega⟩).mono ?_; rintro e w7 ⟨v7, rfl, _, hb7⟩; rw [HVE.out]; have S7 := Lib.hid (S4.out.below hb7); have HI7 := Lib.hid (HI4.out.below hb7); have HM7 := Lib.hid (HM4.out.below hb7); have XB7 := Lib.hid (XB.out.call hb7); clear hb7)
        | ((with_reducible refine at_build (some 34) ?_); refine wpList_build rfl 39 _ rfl #[] (by simp) (.agg Z) (build_zero HZZ.out Try.underlying39 (places := #[(0, 35), (35, 35)]) (fun w => by kernel_rfl) _) ?_)
        | ((with_reducible refine at_store (.tmp 2) ?_); refine wpList_store_blk rfl 39 (.tmp 2) _ rfl w.heap.size Z rfl rfl Z S7.out.rv rfl HIZ.out HZ1.out ?_; intro w9 U9 B9))
      have HBL := Lib.hid (grownBy_below S7.out.gro (Nat.le_succ _) (Nat.le_refl _))
      refine bodyPost_ret (res_cell_tmp2 rfl rfl rfl rfl B9 Try.underlying39 rfl HIZ.out) rfl ?_
      exact ⟨.slice la ln lc, .slice ma mn mc, ys, zs, false, (fin_form HE.out HZ.out HBL.out U9 (Nat.le_refl _)).1, fun _ => ⟨by rw [HVE.out, HVB.out], ⟨HI7.out.upd U9 (fun z x y e => by have := HLO.out z x y e; have h2 := HW0.out; omega), fun z x y e _ => by have := HLO.out z x y e; have h2 := HW0.out; omega⟩, HLS.out (HES.out HE.out), ⟨HM7.out.upd U9 (fun z x y e => by have := HMO.out z x y e; omega), fun z x y e _ => by have := HMO.out z x y e; have h2 := HW0.out; omega⟩, HMS.out HE.out⟩, U9.below HBL.out (Nat.le_refl _)⟩
    case pos =>
      have hvb : (ve != 0) = false := by simpa using hv
      have HVB : Hid ((ve == 0) = true) := by show _ = _; simpa using hv
      clear hv
      go_enter Try.func62, Try.ntmps62
      go_wp2_with (first
        | (go_at_call 91; refine (D2.out _ S1.out.rd).mono ?_; rintro e w2 ⟨mv, zs, rfl, hi, hle, hls, hlo, hr, hg⟩; obtain ⟨ma, mn, mc, rfl⟩ := ints_shape hi; have S2 := Lib.hid (S1.out.read (s' := s2) hr hg)
           have HIM := Lib.hid hi; have HMS := Lib.hid hls; have HMO := Lib.hid (hlo : ∀ x a b, Value.slice ma mn mc = .slice (some x) a b → w1.heap.size ≤ x.block); have HML := Lib.hid hle
           have HIN2 := Lib.hid (HIN.out.grown hg (fun z x y e => by have h1 := HLO.out z x y e; have h2 := HW0.out; omega))
           have hsz1 : w.heap.size + 2 ≤ w1.heap.size := by have h1 := HG1.out.size; rw [HW0.out] at h1; exact h1
           clear hr hg hi hlo hls hle
           obtain ⟨X, HX⟩ : ∃ X, Hid (flatP [(d1 (.slice la ln lc)).cells, (d2 (.slice ma mn mc)).cells] = X) := ⟨_, rfl⟩
           have BC := Lib.hid (build_sl _ _ (HO1.out (.slice la ln lc)) (HO2.out (.slice ma mn mc)))
           rw [HX.out] at BC
           have hX0 : X.size = 70 := by rw [← HX.out, flatP_size]; simp [ClD.len (HO1.out _), ClD.len (HO2.out _)]
           have HX1 : Hid (∀ v ∈ X, v.oneCell' = true) := by show ∀ v ∈ X, _; rw [← HX.out]; exact slOne ⟨_, _, _, HV1.out _⟩ ⟨_, _, _, HV2.out _⟩
           have HIX : Hid ((Try.prog.info? 39).map (·.size) = some X.size) := by show _ = _; rw [hX0]; kernel_rfl
           have HSX : Hid (Z.size = X.size) := by show _ = _; rw [hZ0, hX0])
        | (go_at_call 91; refine (D1.out _ S0.out.rd).mono ?_; rintro e w1 ⟨lv, ys, rfl, hi, hle, hls, hlo, hr, hg⟩; obtain ⟨la, ln, lc, rfl⟩ := ints_shape hi; have S1 := Lib.hid (S0.out.read (s' := s1) hr hg); have HIN := Lib.hid hi; have HLS := Lib.hid hls; have HLO := Lib.hid hlo; have HLL := Lib.hid hle; have HG1 := Lib.hid hg; clear hr hg hi hlo hls hle)
        | ((with_reducible refine at_build (some 16) ?_); refine wpList_build rfl 39 _ rfl #[(0, .agg (d1 (.slice la ln lc)).cells.toArray), (1, .agg (d2 (.slice ma mn mc)).cells.toArray)] (by simp [Act.eval, Act.put]) (.agg X) (BC.out _) ?_)
        | ((with_reducible refine at_store (.tmp 6) ?_); refine wpList_store_blk rfl 39 (.tmp 6) _ rfl w2.heap.size X rfl rfl Z (Blk.new rfl) HSX.out HIX.out HX1.out ?_; intro w4 U4 B4
           have hb2 : Below w2.heap.size w2 w4 := U4.below ((Below.refl _ w2).alloc (Nat.le_refl _) _) (Nat.le_refl _)
           have S4 := Lib.hid (S2.out.below hb2)
           obtain ⟨p2, c0, c1, c2, c3, _⟩ := S4.out.rd.three
           have XB := Lib.hid B4
           have HI4 := Lib.hid (HIN2.out.below hb2)
           have HM4 := Lib.hid (HIM.out.below hb2)
           have hxne : w.heap.size < w2.heap.size := S2.out.rv.lt
           clear hb2 U4 B4)
        | ((with_reducible refine at_load (.tmp 6) ?_); refine wpList_load_blk rfl 39 (.tmp 6) rfl w2.heap.size rfl X _ XB.out Try.underlying39 rfl HIX.out ?_)
        | (go_at_call 29; refine (HX.out ▸ resla_any (d1 (.slice la ln lc)) (d2 (.slice ma mn mc)) l m w4 ⟨HO1.out _, ⟨(HV1.out _).symm ▸ HIL.out HI4.out (HLS.out (HES.out HE.out)), HR1.out⟩, by rw [← HLS.out (HES.out HE.out)]; have := HLL.out; omega⟩ ⟨HO2.out _, ⟨(HV2.out _).symm ▸ HIL.out HM4.out (HMS.out HE.out), HR2.out⟩, by rw [← HMS.out HE.out]; have := HML.out; omega⟩).mono ?_; rintro e w7 ⟨v7, rfl, _, hb7⟩; rw [HVE.out]; have S7 := Lib.hid (S4.out.below hb7); have HI7 := Lib.hid (HI4.out.below hb7); have HM7 := Lib.hid (HM4.out.below hb7); have XB7 := Lib.hid (XB.out.call hb7); clear hb7))
      have HBL := Lib.hid (grownBy_below S7.out.gro (Nat.le_succ _) (Nat.le_refl _))
      obtain ⟨x, hxx⟩ : ∃ x, w7.drew = x := ⟨_, rfl⟩
      have hrx : Hid (Rfs x (w.heap.size + 1) va vl vc bs s2) := by rw [← hxx]; exact (S7.out.rd).drewN 1
      have hbx : Hid (Blk x w.heap.size Z) := by rw [← hxx]; exact S7.out.rv
      have hvx : Hid (Blk x w2.heap.size X) := by rw [← hxx]; exact XB7.out
      have hBX : Hid (Below w.heap.size w x) := by rw [← hxx]; exact Below.drewN (n := 1) HBL.out
      obtain ⟨L, HLX⟩ : ∃ L : List Value, Hid (X = L.toArray) := ⟨X.toList, by show _ = _; simp⟩
      obtain ⟨AT, HAT⟩ : ∃ AT : Nat, Hid (bs.length - s2.r.length = AT) := ⟨_, rfl⟩
      have HVL : Hid (Blk x w2.heap.size L.toArray) := by show Blk _ _ _; rw [← HLX.out]; exact hvx.out
      have HS : Hid (Blk x w2.heap.size L.toArray ∧ x.cell? ⟨w.heap.size + 1, 1, none⟩ = some (.int .i64 AT)) := ⟨HVL.out, by rw [← HAT.out]; exact hrx.out.fp.three.2.1⟩
      have HIL : Hid ((Try.prog.info? 39).map (·.size) = some L.length) := by have := HIX.out; rw [HLX.out] at this; show _ = _; simpa using this
      have HI8 : Hid (Ints .i64 x (.slice la ln lc) ys) := by have h := HI7.out; rw [← hxx]; exact h
      have HM8 : Hid (Ints .i64 x (.slice ma mn mc) zs) := by have h := HM7.out; rw [← hxx]; exact h
      refine wp_region_held_drew (S := fun u => Blk u w2.heap.size L.toArray ∧ u.cell? ⟨w.heap.size + 1, 1, none⟩ = some (.int .i64 AT)) (by kernel_rfl) (by rw [hxx]; exact HS.out) (fun _ => ?_)
      rw [hxx]
      clear hxx
      (try simp only [Act.put, List.setIfInBounds_toArray, List.set_cons_zero, List.set_cons_succ])
      refine held_load 0 (oi := ⟨some 35, _, _, _, _, _⟩) rfl (by kernel_rfl) (by kernel_rfl) (by kernel_rfl) (fun _ _ _ _ h => h) rfl 39 (.tmp 6) rfl w2.heap.size 0 rfl L _ (fun u' hu => by simpa using hu.1.range) Try.underlying39 rfl HIL.out HS.out ?_
      (try simp only [Act.put, List.setIfInBounds_toArray, List.set_cons_zero, List.set_cons_succ])
      refine wpAnyH_take (i := 1) (oi := ⟨some 36, _, _, _, _, _⟩) (v := .pointer (some ⟨w.heap.size + 1, 0, none⟩)) rfl (by kernel_rfl) (by kernel_rfl) (by kernel_rfl) (fun _ _ _ h => h) (Or.inl ⟨by rfl, fun wz hz => ?_⟩) HS.out ?_
      · clear hz; go_simp; first | done | with_reducible rfl | rfl
      (try simp only [Act.put, List.setIfInBounds_toArray, List.set_cons_zero, List.set_cons_succ])
      refine wpAnyH_take (i := 2) (oi := ⟨some 37, _, _, _, _, _⟩) (v := .pointer (some ⟨w.heap.size + 1, 0, none⟩)) rfl (by kernel_rfl) (by kernel_rfl) (by kernel_rfl) (fun _ _ _ h => h) (Or.inl ⟨by rfl, fun wz hz => ?_⟩) HS.out ?_
      · clear hz; go_simp; first | done | with_reducible rfl | rfl
      (try simp only [Act.put, List.setIfInBounds_toArray, List.set_cons_zero, List.set_cons_succ])
      refine wpAnyH_take (i := 3) (oi := ⟨some 38, _, _, _, _, _⟩) (v := .pointer (some ⟨w.heap.size + 1, 1, none⟩)) rfl (by kernel_rfl) (by kernel_rfl) (by kernel_rfl) (fun _ _ _ h => h) (Or.inl ⟨by rfl, fun wz hz => ?_⟩) HS.out ?_
      · clear hz; go_simp; first | done | with_reducible rfl | rfl
      (try simp only [Act.put, List.setIfInBounds_toArray, List.set_cons_zero, List.set_cons_succ])
      refine held_load1 4 (oi := ⟨some 39, _, _, _, _, _⟩) rfl (by kernel_rfl) (by kernel_rfl) (by kernel_rfl) (fun _ _ _ _ h => h) rfl 3 (.tmp 38) rfl (w.heap.size + 1) 1 rfl (.int .i64 AT) _ (fun u' hu => hu.2) Try.underlying3 rfl HS.out ?_
      (try simp only [Act.put, List.setIfInBounds_toArray, List.set_cons_zero, List.set_cons_succ])
      refine wpAnyH_ready (rs := [5]) (by kernel_rfl) (by simp) ?_
      refine AllReadyH.cons rfl (fun K hK => ?_) AllReadyH.nil
      rw [if_pos (by rfl)]
      refine wp_store_blk 39 (.tmp 2) (.tmp 35) rfl w.heap.size L.toArray rfl rfl Z hbx.out (by have := HSX.out; rw [HLX.out] at this; exact this) (by simpa using HIL.out) (by rw [← HLX.out]; exact HX1.out) ?_
      intro w9 U9 B9
      have hc6 : Hid (Blk w9 w2.heap.size L.toArray ∧ w9.cell? ⟨w.heap.size + 1, 1, none⟩ = some (.int .i64 AT)) := ⟨U9.blk HVL.out (by omega), by rw [← HS.out.2]; simp only [World.cell?, U9.block (w.heap.size + 1) (by omega)]⟩
      refine hK.out _ _ hc6.out (fun _ => ?_)
      clear hK K
      (try simp only [Act.put, List.setIfInBounds_toArray, List.set_cons_zero, List.set_cons_succ])
      refine wpAnyH_ready (rs := [6]) (by kernel_rfl) (by simp) ?_
      refine AllReadyH.cons rfl (fun K hK => ?_) AllReadyH.nil
      go_simp
      refine hK.out _ _ hc6.out (fun _ => ?_)
      clear hK K
      (try simp only [Act.put, List.setIfInBounds_toArray, List.set_cons_zero, List.set_cons_succ])
      refine wpAnyH_ready (rs := [7]) (by kernel_rfl) (by simp) ?_
      refine AllReadyH.cons rfl (fun K hK => ?_) AllReadyH.nil
      go_simp
      refine hK.out _ _ hc6.out (fun _ => ?_)
      clear hK K
      (try simp only [Act.put, List.setIfInBounds_toArray, List.set_cons_zero, List.set_cons_succ])
      refine wpAnyH_done (by kernel_rfl) ?_ _
      rw [← HLX.out] at B9
      go_wp2_with fail
      refine bodyPost_ret (res_cell_tmp2 rfl rfl rfl rfl B9 Try.underlying39 rfl HIX.out) rfl ?_
      exact ⟨.slice la ln lc, .slice ma mn mc, ys, zs, true, by rw [HX.out]; exact (fin_ok HE.out hBX.out U9 (Nat.le_refl _) (by have h1 := S7.out.rd.rlen; have h2 := HAT.out; omega)).1, fun _ => ⟨by rw [HVE.out, HVB.out], ⟨HI8.out.upd U9 (fun z x y e => by have := HLO.out z x y e; have h2 := HW0.out; omega), fun z x y e _ => by have := HLO.out z x y e; have h2 := HW0.out; omega⟩, HLS.out (HES.out HE.out), ⟨HM8.out.upd U9 (fun z x y e => by have := HMO.out z x y e; omega), fun z x y e _ => by have := HMO.out z x y e; have h2 := HW0.out; omega⟩, HMS.out HE.out⟩, U9.below hBX.out (Nat.le_refl _)⟩
end

/-! RdY -/
section
set_option linter.unusedVariables false
set_option linter.unusedSimpArgs false
open Go.RowKit

def T3 (X : Array Value) (n e : Int) : Value := .tuple #[.agg X, .int .i64 n, .int .i64 e]

theorem ints_nil (k : IntKind) (w : World) : Ints k w (.slice none 0 0) [] := ⟨none, 0, 0, rfl, rfl, Nat.zero_le _, .inl rfl⟩
theorem intsV_nil (w : World) : IntsV w (.slice none 0 0) [] := ⟨ints_nil _ w, by simp⟩
theorem numsV_nil (w : World) : NumsV w (.slice none 0 0) [] := ⟨ints_nil _ w, by simp⟩
theorem zCp_ok : zCp.ok := ⟨by show (0 : Int) ≤ 0; omega, by show (0 : Int) ≤ _; omega, zeroR_is⟩
theorem zCl_ok : zCl.ok := ⟨⟨by show (0 : Int) ≤ 0; omega, by show (0 : Int) ≤ _; omega⟩, ⟨by show (0 : Int) ≤ 0; omega, by show (0 : Int) ≤ _; omega⟩, zeroR_is⟩

theorem finE_err {e : Int} (b : Bool) (h : e ≠ 0) : finE e b = e := by unfold finE; rw [if_pos h]
theorem finX_err {e : Int} (b : Bool) {X Z : Array Value} (h : e ≠ 0) : finX e b X Z = Z := by unfold finX; rw [finE_err b h, if_neg h]
theorem finU_err {e n : Int} (b : Bool) (h : e ≠ 0) : finU e b n = 0 := by unfold finU; rw [finE_err b h, if_neg h]
theorem finX_two {e : Int} {b : Bool} {X Z : Array Value} : finX e b X Z = Z ∨ (e = 0 ∧ b = true ∧ finX e b X Z = X) := by
  by_cases h : e = 0
  · subst h
    cases b
    · exact .inl rfl
    · exact .inr ⟨rfl, rfl, rfl⟩
  · exact .inl (finX_err b h)

/-! ### Attestations -/
def SAtt (w : World) (X Y : Array Value) : Prop := ∃ s r c v1 v2 l, X = flatP [[.int .u64 s], bytesL r, CpD.cells c, [v1]] ∧ Y = flatP [[.int .u64 s], bytesL r, CpD.cells c, [v2]] ∧ (0 ≤ s ∧ s ≤ 18446744073709551615) ∧ IsBytes 32 r ∧ CpD.ok c ∧ IntsV w v1 l ∧ IntsV w v2 l
theorem satt_pair {w : World} {X Y : Array Value} (h : SAtt w X Y) : Calls Try.prog 32 #[.agg X, .agg Y] w fun e w' => e = .returned (.bool true) ∧ Below w.heap.size w w' := by
  obtain ⟨s, r, c, v1, v2, l, rfl, rfl, h1, h2, h3, h4, h5⟩ := h
  exact satt_any s r c v1 v2 l w h1 h2 h3 h4 h5
theorem SAtt.below {w w' : World} {X Y : Array Value} (h : SAtt w X Y) (hb : Below w.heap.size w w') : SAtt w' X Y := by
  obtain ⟨s, r, c, v1, v2, l, e1, e2, h1, h2, h3, h4, h5⟩ := h
  exact ⟨s, r, c, v1, v2, l, e1, e2, h1, h2, h3, h4.below hb, h5.below hb⟩

def AttK (w : World) (s0 : RS) (N : Nat) (X : Array Value) (n e : Int) : Prop :=
  ∃ lv b, X = finX (atS s0).e b (flatP (atD s0 lv).parts) (flatP zAt.parts) ∧ n = finU (atS s0).e b ((N : Int) - ((atS s0).r.length : Nat)) ∧ e = finE (atS s0).e b ∧ b = (vlE (atL s0) 1024 == 0) ∧ Ints .i64 w lv (atL s0)
theorem AttK.below {w w' : World} {s0 : RS} {N : Nat} {X : Array Value} {n e : Int} (h : AttK w s0 N X n e) (hb : Below w.heap.size w w') : AttK w' s0 N X n e := by
  obtain ⟨lv, b, h1, h2, h3, h4, h5⟩ := h
  exact ⟨lv, b, h1, h2, h3, h4, h5.below hb⟩
theorem att_code {w w1 : World} {s0 : RS} {N : Nat} {en : Ending} (h : AttA w (atD s0) (atL s0) (atS s0) N en w1) : ∃ X n e, en = .returned (T3 X n e) ∧ AttK w1 s0 N X n e ∧ Below w.heap.size w w1 := by
  obtain ⟨lv, b, h1, h2, h3, h4⟩ := h
  exact ⟨_, _, _, h1, ⟨lv, b, rfl, rfl, rfl, h2, h3.1⟩, h4⟩

theorem at_parts (s0 : RS) (lv : Value) : (atD s0 lv).parts = [[.int .u64 (vU mxU s0)], bytesL (vW (nU mxU s0)), (vCD (nW (nU mxU s0))).cells, [lv]] := rfl
theorem at_shape {s0 : RS} (hb : byteL s0.r) (lv : Value) (b : Bool) (hl : ∃ a l c, lv = .slice a l c) : (finX (atS s0).e b (flatP (atD s0 lv).parts) (flatP zAt.parts)).size = 67 ∧ ∀ v ∈ finX (atS s0).e b (flatP (atD s0 lv).parts) (flatP zAt.parts), v.oneCell' = true := by
  obtain ⟨a, l, c, rfl⟩ := hl
  have h1 : byteL (nU mxU s0).r := nU_byte hb
  rcases finX_two (e := (atS s0).e) (b := b) (X := flatP (atD s0 (.slice a l c)).parts) (Z := flatP zAt.parts) with h | ⟨_, _, h⟩
  · rw [h]; exact ⟨rfl, AtD.one0⟩
  · rw [h, at_parts]
    exact ⟨by rw [flatP_size]; simp [bytesL_len (vW_is h1), CpD.len (vCD_ok (nW_byte h1))], atOne⟩

theorem att_ref {u w2 : World} {s0 : RS} {N : Nat} {X : Array Value} {n e : Int} {en : Ending} (hb : byteL s0.r) (hk : AttK w2 s0 N X n e) (h : AttF u (atD s0) (atL s0) (atS s0) N en w2) :
    ∃ Y, en = .returned (T3 Y n e) ∧ Y.size = 67 ∧ (∀ v ∈ Y, v.oneCell' = true) ∧ SAtt w2 X Y ∧ Below u.heap.size u w2 := by
  obtain ⟨lv, b, hX, hn, he, hbb, hI⟩ := hk
  obtain ⟨mv, ys, b2, h1, h2, h3⟩ := h
  have hZ : SAtt w2 (flatP zAt.parts) (flatP zAt.parts) := ⟨0, zeroR, zCp, _, _, [], rfl, rfl, by omega, zeroR_is, zCp_ok, intsV_nil _, intsV_nil _⟩
  by_cases h0 : (atS s0).e = 0
  · obtain ⟨h4, ⟨h5, _⟩, h6⟩ := h2 h0
    subst h6
    have ebb : b2 = b := by rw [h4, hbb]
    rw [ebb] at h1
    refine ⟨_, by rw [h1, hn, he]; rfl, (at_shape hb mv b (ints_shape h5)).1, (at_shape hb mv b (ints_shape h5)).2, ?_, h3⟩
    rw [hX]
    cases b
    · rw [h0]; exact hZ
    · rw [h0]
      have b1 : byteL (nU mxU s0).r := nU_byte hb
      have hr := lsV_rng (s := atS3 s0) (nC_byte (nW_byte b1))
      exact ⟨_, _, _, _, _, _, rfl, rfl, vU_rng hb (by unfold mxU; omega), vW_is b1, vCD_ok (nW_byte b1), ⟨hI, hr⟩, ⟨h5, hr⟩⟩
  · rw [finX_err _ h0, finU_err _ h0, finE_err _ h0] at h1
    rw [finX_err _ h0] at hX
    rw [finU_err _ h0] at hn
    rw [finE_err _ h0] at he
    refine ⟨_, by rw [h1, hn, he]; rfl, rfl, AtD.one0, by rw [hX]; exact hZ, h3⟩

/-! ### Slashings -/
def SSla (w : World) (X Y : Array Value) : Prop := ∃ (x y : ClD) (v1 v2 : Value) (l m : List Int), X = flatP [x.cells, y.cells] ∧ Y = flatP [(⟨x.source, x.target, x.root, v1⟩ : ClD).cells, (⟨y.source, y.target, y.root, v2⟩ : ClD).cells] ∧ x.ok ∧ y.ok ∧ IntsV w x.v l ∧ IntsV w y.v m ∧ IntsV w v1 l ∧ IntsV w v2 m
theorem ssla_pair {w : World} {X Y : Array Value} (h : SSla w X Y) : Calls Try.prog 33 #[.agg X, .agg Y] w fun e w' => e = .returned (.bool true) ∧ Below w.heap.size w w' := by
  obtain ⟨x, y, v1, v2, l, m, rfl, rfl, h1, h2, h3, h4, h5, h6⟩ := h
  exact ssl_any x y v1 v2 l m w h1 h2 h3 h4 h5 h6
theorem SSla.below {w w' : World} {X Y : Array Value} (h : SSla w X Y) (hb : Below w.heap.size w w') : SSla w' X Y := by
  obtain ⟨x, y, v1, v2, l, m, e1, e2, h1, h2, h3, h4, h5, h6⟩ := h
  exact ⟨x, y, v1, v2, l, m, e1, e2, h1, h2, h3.below hb, h4.below hb, h5.below hb, h6.below hb⟩

def SlaK (w : World) (s0 : RS) (N : Nat) (X : Array Value) (n e : Int) : Prop :=
  ∃ lv mv b, X = finX (clS (clS s0)).e b (flatP [(clD s0 lv).cells, (clD (clS s0) mv).cells]) (flatP [zCl.cells, zCl.cells]) ∧ n = finU (clS (clS s0)).e b ((N : Int) - ((clS (clS s0)).r.length : Nat)) ∧ e = finE (clS (clS s0)).e b ∧ b = (vlsE [clL s0, clL (clS s0)] == 0) ∧ Ints .i64 w lv (clL s0) ∧ Ints .i64 w mv (clL (clS s0))
theorem SlaK.below {w w' : World} {s0 : RS} {N : Nat} {X : Array Value} {n e : Int} (h : SlaK w s0 N X n e) (hb : Below w.heap.size w w') : SlaK w' s0 N X n e := by
  obtain ⟨lv, mv, b, h1, h2, h3, h4, h5, h6⟩ := h
  exact ⟨lv, mv, b, h1, h2, h3, h4, h5.below hb, h6.below hb⟩
theorem sla_code {w w1 : World} {s0 : RS} {N : Nat} {en : Ending} (h : SlaA w (clD s0) (clD (clS s0)) (clL s0) (clL (clS s0)) (clS (clS s0)) N en w1) : ∃ X n e, en = .returned (T3 X n e) ∧ SlaK w1 s0 N X n e ∧ Below w.heap.size w w1 := by
  obtain ⟨lv, mv, b, h1, h2, h3, h4, h5⟩ := h
  exact ⟨_, _, _, h1, ⟨lv, mv, b, rfl, rfl, rfl, h2, h3.1, h4.1⟩, h5⟩

theorem sl_shape {s0 : RS} (hb : byteL s0.r) (lv mv : Value) (b : Bool) (hl : ∃ a l c, lv = .slice a l c) (hm : ∃ a l c, mv = .slice a l c) :
    (finX (clS (clS s0)).e b (flatP [(clD s0 lv).cells, (clD (clS s0) mv).cells]) (flatP [zCl.cells, zCl.cells])).size = 70 ∧ ∀ v ∈ finX (clS (clS s0)).e b (flatP [(clD s0 lv).cells, (clD (clS s0) mv).cells]) (flatP [zCl.cells, zCl.cells]), v.oneCell' = true := by
  rcases finX_two (e := (clS (clS s0)).e) (b := b) (X := flatP [(clD s0 lv).cells, (clD (clS s0) mv).cells]) (Z := flatP [zCl.cells, zCl.cells]) with h | ⟨_, _, h⟩
  · rw [h]; exact ⟨rfl, SlD.one0⟩
  · rw [h]
    exact ⟨by rw [flatP_size]; simp [ClD.len (clD_ok hb lv), ClD.len (clD_ok (clS_byte hb) mv)], slOne hl hm⟩

theorem sla_ref {u w2 : World} {s0 : RS} {N : Nat} {X : Array Value} {n e : Int} {en : Ending} (hb : byteL s0.r) (hk : SlaK w2 s0 N X n e) (h : SlaF u (clD s0) (clD (clS s0)) (clL s0) (clL (clS s0)) (clS (clS s0)) N en w2) :
    ∃ Y, en = .returned (T3 Y n e) ∧ Y.size = 70 ∧ (∀ v ∈ Y, v.oneCell' = true) ∧ SSla w2 X Y ∧ Below u.heap.size u w2 := by
  obtain ⟨lv, mv, b, hX, hn, he, hbb, hI, hJ⟩ := hk
  obtain ⟨lv', mv', ys, zs, b2, h1, h2, h3⟩ := h
  have hZ : SSla w2 (flatP [zCl.cells, zCl.cells]) (flatP [zCl.cells, zCl.cells]) := ⟨zCl, zCl, _, _, [], [], rfl, rfl, zCl_ok, zCl_ok, intsV_nil _, intsV_nil _, intsV_nil _, intsV_nil _⟩
  by_cases h0 : (clS (clS s0)).e = 0
  · obtain ⟨h4, ⟨h5, _⟩, h6, ⟨h7, _⟩, h8⟩ := h2 h0
    subst h6
    subst h8
    have ebb : b2 = b := by rw [h4, hbb]
    rw [ebb] at h1
    have hsh := sl_shape hb lv' mv' b (ints_shape h5) (ints_shape h7)
    refine ⟨_, by rw [h1, hn, he]; rfl, hsh.1, hsh.2, ?_, h3⟩
    rw [hX]
    cases b
    · rw [h0]; exact hZ
    · rw [h0]
      have hr1 := clL_rng hb
      have hr2 := clL_rng (clS_byte hb)
      exact ⟨clD s0 lv, clD (clS s0) mv, lv', mv', _, _, rfl, rfl, clD_ok hb lv, clD_ok (clS_byte hb) mv, ⟨hI, hr1⟩, ⟨hJ, hr2⟩, ⟨h5, hr1⟩, ⟨h7, hr2⟩⟩
  · rw [finX_err _ h0, finU_err _ h0, finE_err _ h0] at h1
    rw [finX_err _ h0] at hX
    rw [finU_err _ h0] at hn
    rw [finE_err _ h0] at he
    refine ⟨_, by rw [h1, hn, he]; rfl, rfl, SlD.one0, by rw [hX]; exact hZ, h3⟩

/-! ### Tables -/
def STab (w : World) (X Y : Array Value) : Prop := ∃ (c : CpD) (v1 v2 : Value) (l : List Int), X = flatP [c.cells, [v1]] ∧ Y = flatP [c.cells, [v2]] ∧ c.ok ∧ NumsV w v1 l ∧ NumsV w v2 l
theorem stab_pair {w : World} {X Y : Array Value} (h : STab w X Y) : Calls Try.prog 34 #[.agg X, .agg Y] w fun e w' => e = .returned (.bool true) ∧ Below w.heap.size w w' := by
  obtain ⟨c, v1, v2, l, rfl, rfl, h1, h2, h3⟩ := h
  exact stab_any c v1 v2 l w h1 h2 h3
theorem STab.below {w w' : World} {X Y : Array Value} (h : STab w X Y) (hb : Below w.heap.size w w') : STab w' X Y := by
  obtain ⟨c, v1, v2, l, e1, e2, h1, h2, h3⟩ := h
  exact ⟨c, v1, v2, l, e1, e2, h1, h2.below hb, h3.below hb⟩

theorem td_rt (s : RS) : (tdS s).e = (tbN (rt2 s)).e ∧ ((tdS s).e = 0 → vCD s = rtC s ∧ tdL s = tbV (rt2 s) ∧ tdS s = tbN (rt2 s)) := by
  have hE : cpE s.r s.e = (rt2 s).e := rfl
  by_cases h : cpE s.r s.e = 0
  · have h1 : nC s = rt2 s := by unfold nC cpR; rw [if_pos h]; rfl
    have h2 : vCD s = rtC s := by unfold vCD; rw [if_pos h]; rfl
    unfold tdS tdL
    rw [h1]
    exact ⟨rfl, fun _ => ⟨h2, rfl, rfl⟩⟩
  · have h1 : (nC s).e ≠ 0 := h
    have h2 : (rt2 s).e ≠ 0 := h
    unfold tdS
    rw [tbN_err h1, tbN_err h2]
    exact ⟨rfl, fun h0 => absurd h0 h1⟩

def TabK (w : World) (s0 : RS) (N : Nat) (X : Array Value) (n e : Int) : Prop :=
  ∃ lv, X = finX (tdS s0).e true (flatP [(vCD s0).cells, [lv]]) (flatP zTb.parts) ∧ n = finU (tdS s0).e true ((N : Int) - ((tdS s0).r.length : Nat)) ∧ e = finE (tdS s0).e true ∧ Ints .u64 w lv (tdL s0)
theorem TabK.below {w w' : World} {s0 : RS} {N : Nat} {X : Array Value} {n e : Int} (h : TabK w s0 N X n e) (hb : Below w.heap.size w w') : TabK w' s0 N X n e := by
  obtain ⟨lv, h1, h2, h3, h5⟩ := h
  exact ⟨lv, h1, h2, h3, h5.below hb⟩
theorem tab_code {w w1 : World} {s0 : RS} {N : Nat} {en : Ending} (h : TabR w (vCD s0) (tdL s0) (tdS s0) N en w1) : ∃ X n e, en = .returned (T3 X n e) ∧ TabK w1 s0 N X n e ∧ Below w.heap.size w w1 := by
  obtain ⟨lv, h1, h2, h3⟩ := h
  exact ⟨_, _, _, h1, ⟨lv, rfl, rfl, rfl, h2.1⟩, h3⟩

theorem tdL_rng {s : RS} (h : byteL s.r) : ∀ x ∈ tdL s, 0 ≤ x ∧ x ≤ 18446744073709551615 := by
  intro x hx
  unfold tdL tbV at hx
  obtain ⟨i, _, rfl⟩ := List.mem_map.1 hx
  exact vU_rng (stK_byte (nU_byte (nC_byte h)) i) (by unfold mxU; omega)
theorem tbOne0 : ∀ v ∈ flatP zTb.parts, v.oneCell' = true := fun v hv => (Array.all_eq_true_iff_forall_mem.1 (show (flatP zTb.parts).all (·.oneCell') = true by kernel_rfl)) v hv
theorem tb_shape {s0 : RS} (hb : byteL s0.r) (lv : Value) (hl : ∃ a l c, lv = .slice a l c) : (finX (tdS s0).e true (flatP [(vCD s0).cells, [lv]]) (flatP zTb.parts)).size = 34 ∧ ∀ v ∈ finX (tdS s0).e true (flatP [(vCD s0).cells, [lv]]) (flatP zTb.parts), v.oneCell' = true := by
  obtain ⟨a, l, c, rfl⟩ := hl
  rcases finX_two (e := (tdS s0).e) (b := true) (X := flatP [(vCD s0).cells, [.slice a l c]]) (Z := flatP zTb.parts) with h | ⟨_, _, h⟩
  · rw [h]; exact ⟨rfl, tbOne0⟩
  · rw [h]
    exact ⟨by rw [flatP_size]; simp [CpD.len (vCD_ok hb)], tbOne _ _ _ _⟩

theorem tab_ref {u w2 : World} {s0 : RS} {N : Nat} {X : Array Value} {n e : Int} {en : Ending} (hb : byteL s0.r) (hk : TabK w2 s0 N X n e) (h : TabF u (rtC s0) (tbV (rt2 s0)) (tbN (rt2 s0)) N en w2) :
    ∃ Y, en = .returned (T3 Y n e) ∧ Y.size = 34 ∧ (∀ v ∈ Y, v.oneCell' = true) ∧ STab w2 X Y ∧ Below u.heap.size u w2 := by
  obtain ⟨lv, hX, hn, he, hI⟩ := hk
  obtain ⟨mv, ys, h1, h2, _, h3⟩ := h
  obtain ⟨t1, t2⟩ := td_rt s0
  have hZ : STab w2 (flatP zTb.parts) (flatP zTb.parts) := ⟨zCp, _, _, [], rfl, rfl, zCp_ok, numsV_nil _, numsV_nil _⟩
  by_cases h0 : (tdS s0).e = 0
  · obtain ⟨k1, k2, k3⟩ := t2 h0
    rw [← k1, ← k3] at h1
    rw [← k3, ← k2] at h2
    obtain ⟨⟨h5, _⟩, h6⟩ := h2 h0
    subst h6
    have hsh := tb_shape hb mv (ints_shape h5)
    refine ⟨_, by rw [h1, hn, he]; rfl, hsh.1, hsh.2, ?_, h3⟩
    rw [hX, h0]
    have hr := tdL_rng hb
    exact ⟨_, _, _, _, rfl, rfl, vCD_ok hb, ⟨hI, hr⟩, ⟨h5, hr⟩⟩
  · have h0' : (tbN (rt2 s0)).e ≠ 0 := by rw [← t1]; exact h0
    rw [finX_err _ h0', finU_err _ h0', finE_err _ h0', ← t1] at h1
    rw [finX_err _ h0] at hX
    rw [finU_err _ h0] at hn
    rw [finE_err _ h0] at he
    refine ⟨_, by rw [h1, hn, he]; rfl, rfl, tbOne0, by rw [hX]; exact hZ, h3⟩

/-! ### Blocks and verdicts -/
theorem zBk_ok : zBk.ok := ⟨zCp_ok, zCp_ok, ⟨by show (0 : Int) ≤ 0; omega, by show (0 : Int) ≤ _; omega⟩, zeroR_is, zeroR_is, zeroR_is, by show W256 0; unfold W256; omega, by show W256 0; unfold W256; omega, zCp_ok, zCp_ok⟩
theorem zVd_ok : zVd.ok := ⟨⟨by show (0 : Int) ≤ 0; omega, by show (0 : Int) ≤ _; omega⟩, ⟨by show _ ≤ (0 : Int); omega, by show (0 : Int) ≤ _; omega⟩, zeroR_is⟩
theorem vdD_ok {s : RS} (h : byteL s.r) : (vdD s).ok := by
  have b1 : byteL (nU mxU s).r := nU_byte h
  have h2 := vU_rng (m := 4) b1 (by omega)
  exact ⟨vU_rng h (by unfold mxU; omega), ⟨by show _ ≤ vU 4 (nU mxU s); omega, by show vU 4 (nU mxU s) ≤ _; omega⟩, vW_is (nU_byte b1)⟩

theorem blk_res {s0 : RS} (hb : byteL s0.r) : ∃ x : BkD, x.ok ∧ finX (bk11 s0).e true (flatP (bkV s0).parts) (flatP zBk.parts) = flatP x.parts := by
  rcases finX_two (e := (bk11 s0).e) (b := true) (X := flatP (bkV s0).parts) (Z := flatP zBk.parts) with h | ⟨_, _, h⟩
  · exact ⟨zBk, zBk_ok, h⟩
  · exact ⟨bkV s0, bkV_ok hb, h⟩
theorem vd_res {s0 : RS} (hb : byteL s0.r) (b : Bool) : ∃ x : VdD, x.ok ∧ finX (vdS s0).e b (flatP (vdD s0).parts) (flatP zVd.parts) = flatP x.parts := by
  rcases finX_two (e := (vdS s0).e) (b := b) (X := flatP (vdD s0).parts) (Z := flatP zVd.parts) with h | ⟨_, _, h⟩
  · exact ⟨zVd, zVd_ok, h⟩
  · exact ⟨vdD s0, vdD_ok hb, h⟩

theorem att_size {w : World} {s0 : RS} {N : Nat} {X : Array Value} {n e : Int} (hb : byteL s0.r) (h : AttK w s0 N X n e) : X.size = 67 ∧ ∀ v ∈ X, v.oneCell' = true := by
  obtain ⟨lv, b, h1, _, _, _, h5⟩ := h
  rw [h1]; exact at_shape hb lv b (ints_shape h5)
theorem sla_size {w : World} {s0 : RS} {N : Nat} {X : Array Value} {n e : Int} (hb : byteL s0.r) (h : SlaK w s0 N X n e) : X.size = 70 ∧ ∀ v ∈ X, v.oneCell' = true := by
  obtain ⟨lv, mv, b, h1, _, _, _, h5, h6⟩ := h
  rw [h1]; exact sl_shape hb lv mv b (ints_shape h5) (ints_shape h6)
theorem tab_size {w : World} {s0 : RS} {N : Nat} {X : Array Value} {n e : Int} (hb : byteL s0.r) (h : TabK w s0 N X n e) : X.size = 34 ∧ ∀ v ∈ X, v.oneCell' = true := by
  obtain ⟨lv, h1, _, _, h5⟩ := h
  rw [h1]; exact tb_shape hb lv (ints_shape h5)
theorem att_below {w w' : World} {d : Value → AtD} {ls : List Int} {s : RS} {N : Nat} {en : Ending} (h : AttF w d ls s N en w') : Below w.heap.size w w' := by obtain ⟨_, _, _, _, _, h⟩ := h; exact h
theorem sla_below {w w' : World} {d1 d2 : Value → ClD} {l m : List Int} {s : RS} {N : Nat} {en : Ending} (h : SlaF w d1 d2 l m s N en w') : Below w.heap.size w w' := by obtain ⟨_, _, _, _, _, _, _, h⟩ := h; exact h
theorem tab_below {w w' : World} {cp : CpD} {ls : List Int} {s : RS} {N : Nat} {en : Ending} (h : TabF w cp ls s N en w') : Below w.heap.size w w' := by obtain ⟨_, _, _, _, _, h⟩ := h; exact h
end

end Go.Proofs.Ytmnojgdfbhdkhaa
