/- DecodeBlock. -/
import Derived.Test.YtgcgjnjbhdhhgaaRcH
set_option linter.unusedVariables false
set_option linter.unusedSimpArgs false
namespace Go.Proofs.Ytgcgjnjbhdhhgaa
open Go.RowKit

theorem BkD.one (x : BkD) : ∀ v ∈ flatP x.parts, v.oneCell' = true := by
  refine flatP_one fun p hp v hv => ?_
  simp only [BkD.parts, List.mem_cons, List.not_mem_nil, or_false] at hp
  rcases hp with rfl | rfl | rfl | rfl | rfl | rfl | rfl | rfl | rfl | rfl | rfl
  · exact CpD.one _ v hv
  · exact CpD.one _ v hv
  · rw [List.mem_singleton.1 hv]; rfl
  · exact bytesL_one _ v hv
  · exact bytesL_one _ v hv
  · exact bytesL_one _ v hv
  · exact wideL_one _ v hv
  · exact wideL_one _ v hv
  · exact CpD.one _ v hv
  · exact CpD.one _ v hv
  · rw [List.mem_singleton.1 hv]; rfl

theorem nB_len (s : RS) : (nB s).r.length ≤ s.r.length := by
  unfold nB bR
  split
  · simp
  · exact Nat.le_refl _

theorem bkV_ok {s : RS} (h : byteL s.r) : (bkV s).ok := by
  have b1 : byteL (bk1 s).r := nU_byte h
  have b2 : byteL (bk2 s).r := nW_byte b1
  have b3 : byteL (bk3 s).r := nW_byte b2
  have b4 : byteL (bk4 s).r := nW_byte b3
  have b5 : byteL (bk5 s).r := nW_byte b4
  have b6 : byteL (bk6 s).r := nW_byte b5
  have b7 : byteL (bk7 s).r := nC_byte b6
  have b8 : byteL (bk8 s).r := nC_byte b7
  have b9 : byteL (bk9 s).r := nC_byte b8
  exact ⟨vCD_ok b8, vCD_ok b9, vU_rng h (by unfold mxU; omega), vW_is b1, vW_is b2, vW_is b3, (numOf_ok (vW_is b4)).1, (numOf_ok (vW_is b5)).1, vCD_ok b6, vCD_ok b7⟩

set_option maxRecDepth 100000 in
set_option maxHeartbeats 16000000 in
theorem dblk_any (v : Value) (bs : List Int) (w : World) (h : Byt w v bs) (hb : bs.length ≤ 20604) :
    Calls Try.prog 14 #[v] w (Fin w (finX (bk11 ⟨bs, 0⟩).e true (flatP (bkV ⟨bs, 0⟩).parts) (flatP zBk.parts)) (finU (bk11 ⟨bs, 0⟩).e true ((bs.length : Int) - ((bk11 ⟨bs, 0⟩).r.length : Nat))) (finE (bk11 ⟨bs, 0⟩).e true)) := by
  obtain ⟨va, vl, vc, rfl⟩ := h.shape
  have hby : byteL bs := h.rng
  obtain ⟨s0, hs0⟩ : ∃ s0 : RS, s0 = ⟨bs, 0⟩ := ⟨_, rfl⟩
  have hby0 : byteL s0.r := by rw [hs0]; exact hby
  have hln0 : s0.r.length = bs.length := by rw [hs0]
  rw [← hs0]
  have hok := bkV_ok hby0
  have hlens := BkD.lens hok
  obtain ⟨s1, hs1⟩ : ∃ s, bk1 s0 = s := ⟨_, rfl⟩
  have e1 : nU mxU s0 = s1 := by rw [← hs1]; rfl
  have hby1 : byteL s1.r := e1 ▸ nU_byte hby0
  have hln1 : s1.r.length ≤ bs.length := by have := nU_len mxU s0; rw [e1] at this; omega
  obtain ⟨s2, hs2⟩ : ∃ s, bk2 s0 = s := ⟨_, rfl⟩
  have e2 : nW s1 = s2 := by rw [← hs2, ← hs1]; rfl
  have hby2 : byteL s2.r := e2 ▸ nW_byte hby1
  have hln2 : s2.r.length ≤ bs.length := by have := nW_len s1; rw [e2] at this; omega
  obtain ⟨s3, hs3⟩ : ∃ s, bk3 s0 = s := ⟨_, rfl⟩
  have e3 : nW s2 = s3 := by rw [← hs3, ← hs2]; rfl
  have hby3 : byteL s3.r := e3 ▸ nW_byte hby2
  have hln3 : s3.r.length ≤ bs.length := by have := nW_len s2; rw [e3] at this; omega
  obtain ⟨s4, hs4⟩ : ∃ s, bk4 s0 = s := ⟨_, rfl⟩
  have e4 : nW s3 = s4 := by rw [← hs4, ← hs3]; rfl
  have hby4 : byteL s4.r := e4 ▸ nW_byte hby3
  have hln4 : s4.r.length ≤ bs.length := by have := nW_len s3; rw [e4] at this; omega
  obtain ⟨s5, hs5⟩ : ∃ s, bk5 s0 = s := ⟨_, rfl⟩
  have e5 : nW s4 = s5 := by rw [← hs5, ← hs4]; rfl
  have hby5 : byteL s5.r := e5 ▸ nW_byte hby4
  have hln5 : s5.r.length ≤ bs.length := by have := nW_len s4; rw [e5] at this; omega
  obtain ⟨s6, hs6⟩ : ∃ s, bk6 s0 = s := ⟨_, rfl⟩
  have e6 : nW s5 = s6 := by rw [← hs6, ← hs5]; rfl
  have hby6 : byteL s6.r := e6 ▸ nW_byte hby5
  have hln6 : s6.r.length ≤ bs.length := by have := nW_len s5; rw [e6] at this; omega
  obtain ⟨s7, hs7⟩ : ∃ s, bk7 s0 = s := ⟨_, rfl⟩
  have e7 : nC s6 = s7 := by rw [← hs7, ← hs6]; rfl
  have hby7 : byteL s7.r := e7 ▸ nC_byte hby6
  have hln7 : s7.r.length ≤ bs.length := by have := nC_len s6; rw [e7] at this; omega
  obtain ⟨s8, hs8⟩ : ∃ s, bk8 s0 = s := ⟨_, rfl⟩
  have e8 : nC s7 = s8 := by rw [← hs8, ← hs7]; rfl
  have hby8 : byteL s8.r := e8 ▸ nC_byte hby7
  have hln8 : s8.r.length ≤ bs.length := by have := nC_len s7; rw [e8] at this; omega
  obtain ⟨s9, hs9⟩ : ∃ s, bk9 s0 = s := ⟨_, rfl⟩
  have e9 : nC s8 = s9 := by rw [← hs9, ← hs8]; rfl
  have hby9 : byteL s9.r := e9 ▸ nC_byte hby8
  have hln9 : s9.r.length ≤ bs.length := by have := nC_len s8; rw [e9] at this; omega
  obtain ⟨s10, hs10⟩ : ∃ s, bk10 s0 = s := ⟨_, rfl⟩
  have e10 : nC s9 = s10 := by rw [← hs10, ← hs9]; rfl
  have hby10 : byteL s10.r := e10 ▸ nC_byte hby9
  have hln10 : s10.r.length ≤ bs.length := by have := nC_len s9; rw [e10] at this; omega
  obtain ⟨s11, hs11⟩ : ∃ s, bk11 s0 = s := ⟨_, rfl⟩
  have e11 : nB s10 = s11 := by rw [← hs11, ← hs10]; rfl
  have hby11 : byteL s11.r := e11 ▸ nB_byte hby10
  have hln11 : s11.r.length ≤ bs.length := by have := nB_len s10; rw [e11] at this; omega
  have HP : Hid ((bkV s0).parts = [(vCD s8).cells, (vCD s9).cells, [Value.int .u64 (vU mxU s0)], bytesL (vW s1), bytesL (vW s2), bytesL (vW s3), wideL (numOf (vW s4)), wideL (numOf (vW s5)), (vCD s6).cells, (vCD s7).cells, [Value.bool (vB s10)]]) := by
    show _ = _
    rw [← hs10, ← hs9, ← hs8, ← hs7, ← hs6, ← hs5, ← hs4, ← hs3, ← hs2, ← hs1]
    rfl
  have D1 : Hid (∀ lo g (sz : Int) u, Rdr lo u g bs 0 → Calls Try.prog 43 #[.agg #[.pointer (some ⟨g, 0, none⟩), .int .i64 sz]] u (Reads lo u g (.int .u64 (vU mxU s0)) s1.r s1.e)) := fun lo g sz u hr => by
    have := num_any g sz bs 0 u hr
    rw [← e1, hs0]; exact this
  have D2 : Hid (∀ lo g u, Rdr lo u g s1.r s1.e → Calls Try.prog 44 #[.pointer (some ⟨g, 0, none⟩)] u (Reads lo u g (.agg (bytesL (vW s1)).toArray) s2.r s2.e)) := fun lo g u hr => by
    have := root_any g s1.r s1.e u hr
    rw [← e2]; exact this
  have z2 := Lib.hid (bytesL_len (vW_is hby1))
  have D3 : Hid (∀ lo g u, Rdr lo u g s2.r s2.e → Calls Try.prog 44 #[.pointer (some ⟨g, 0, none⟩)] u (Reads lo u g (.agg (bytesL (vW s2)).toArray) s3.r s3.e)) := fun lo g u hr => by
    have := root_any g s2.r s2.e u hr
    rw [← e3]; exact this
  have z3 := Lib.hid (bytesL_len (vW_is hby2))
  have D4 : Hid (∀ lo g u, Rdr lo u g s3.r s3.e → Calls Try.prog 44 #[.pointer (some ⟨g, 0, none⟩)] u (Reads lo u g (.agg (bytesL (vW s3)).toArray) s4.r s4.e)) := fun lo g u hr => by
    have := root_any g s3.r s3.e u hr
    rw [← e4]; exact this
  have z4 := Lib.hid (bytesL_len (vW_is hby3))
  have D5 : Hid (∀ lo g u, Rdr lo u g s4.r s4.e → Calls Try.prog 45 #[.pointer (some ⟨g, 0, none⟩)] u (Reads lo u g (.agg (wideL (numOf (vW s4))).toArray) s5.r s5.e)) := fun lo g u hr => by
    have := wide_any g s4.r s4.e (numOf (vW s4)) u hr (numOf_ok (vW_is hby4)).1 (numOf_ok (vW_is hby4)).2
    rw [← e5]; exact this
  have D6 : Hid (∀ lo g u, Rdr lo u g s5.r s5.e → Calls Try.prog 45 #[.pointer (some ⟨g, 0, none⟩)] u (Reads lo u g (.agg (wideL (numOf (vW s5))).toArray) s6.r s6.e)) := fun lo g u hr => by
    have := wide_any g s5.r s5.e (numOf (vW s5)) u hr (numOf_ok (vW_is hby5)).1 (numOf_ok (vW_is hby5)).2
    rw [← e6]; exact this
  have D7 : Hid (∀ lo g u, Rdr lo u g s6.r s6.e → Calls Try.prog 46 #[.pointer (some ⟨g, 0, none⟩)] u (Reads lo u g (.agg (vCD s6).cells.toArray) s7.r s7.e)) := fun lo g u hr => by
    have := check_any g s6.r s6.e u hr
    rw [← e7, ← vCD_eq]; exact this
  have z7 := Lib.hid (CpD.len (vCD_ok hby6))
  have D8 : Hid (∀ lo g u, Rdr lo u g s7.r s7.e → Calls Try.prog 46 #[.pointer (some ⟨g, 0, none⟩)] u (Reads lo u g (.agg (vCD s7).cells.toArray) s8.r s8.e)) := fun lo g u hr => by
    have := check_any g s7.r s7.e u hr
    rw [← e8, ← vCD_eq]; exact this
  have z8 := Lib.hid (CpD.len (vCD_ok hby7))
  have D9 : Hid (∀ lo g u, Rdr lo u g s8.r s8.e → Calls Try.prog 46 #[.pointer (some ⟨g, 0, none⟩)] u (Reads lo u g (.agg (vCD s8).cells.toArray) s9.r s9.e)) := fun lo g u hr => by
    have := check_any g s8.r s8.e u hr
    rw [← e9, ← vCD_eq]; exact this
  have z9 := Lib.hid (CpD.len (vCD_ok hby8))
  have D10 : Hid (∀ lo g u, Rdr lo u g s9.r s9.e → Calls Try.prog 46 #[.pointer (some ⟨g, 0, none⟩)] u (Reads lo u g (.agg (vCD s9).cells.toArray) s10.r s10.e)) := fun lo g u hr => by
    have := check_any g s9.r s9.e u hr
    rw [← e10, ← vCD_eq]; exact this
  have z10 := Lib.hid (CpD.len (vCD_ok hby9))
  have D11 : Hid (∀ lo g u, Rdr lo u g s10.r s10.e → Calls Try.prog 47 #[.pointer (some ⟨g, 0, none⟩)] u (Reads lo u g (.bool (vB s10)) s11.r s11.e)) := fun lo g u hr => by
    have := boolr_any g s10.r s10.e u hr
    rw [← e11]; exact this
  have hX1 := BkD.one (bkV s0)
  have hX0 : (flatP (bkV s0).parts).size = 238 := by rw [flatP_size, List.length_flatten, hlens]; rfl
  obtain ⟨X, HX⟩ : ∃ X, Hid (flatP (bkV s0).parts = X) := ⟨_, rfl⟩
  rw [HX.out] at hX0 hX1 ⊢
  have HXP := HX.out
  rw [HP.out] at HXP
  rw [hs11]
  clear HP hok hlens hs1 e1 hby1 hs2 e2 hby2 hs3 e3 hby3 hs4 e4 hby4 hs5 e5 hby5 hs6 e6 hby6 hs7 e7 hby7 hs8 e8 hby8 hs9 e9 hby9 hs10 e10 hby10 hs11 e11 hby11 hby hby0 hln1 hln2 hln3 hln4 hln5 hln6 hln7 hln8 hln9 hln10
  generalize vU mxU s0 = v1 at *
  generalize vW s1 = v2 at *
  generalize vW s2 = v3 at *
  generalize vW s3 = v4 at *
  generalize numOf (vW s4) = v5 at *
  generalize numOf (vW s5) = v6 at *
  generalize vCD s6 = v7 at *
  generalize vCD s7 = v8 at *
  generalize vCD s8 = v9 at *
  generalize vCD s9 = v10 at *
  generalize vB s10 = v11 at *
  have HXE := Lib.hid HXP; clear HXP HX
  have HX1 := Lib.hid hX1; clear hX1
  have HIX : Hid ((Try.prog.info? 37).map (·.size) = some X.size) := by show _ = _; rw [hX0]; kernel_rfl
  have DF : Hid (∀ lo g u (n0 : Nat), n0 = bs.length → Rdr lo u g s11.r s11.e → Calls Try.prog 48 #[.agg #[.pointer (some ⟨g, 0, none⟩), .int .i64 n0], .agg X, .bool true] u (Fin u (finX s11.e true X (flatP zBk.parts)) (finU s11.e true ((n0 : Int) - (s11.r.length : Nat))) (finE s11.e true))) := fun lo g u n0 hn hr => fin_blk g n0 s11.r s11.e X true u hr hX0 HX1.out (by omega) (by omega)
  have hF0 : (finX s11.e true X (flatP zBk.parts)).size = 238 := by unfold finX; split; exact hX0; rfl
  have hF1 : ∀ v ∈ finX s11.e true X (flatP zBk.parts), v.oneCell' = true := by
    unfold finX; split
    · exact HX1.out
    · exact BkD.one _
  obtain ⟨Y, hY⟩ : ∃ Y, finX s11.e true X (flatP zBk.parts) = Y := ⟨_, rfl⟩
  rw [hY] at DF hF0 hF1 ⊢
  clear hY
  have HF1 := Lib.hid hF1; clear hF1
  obtain ⟨E, hE⟩ : ∃ E, finE s11.e true = E := ⟨_, rfl⟩
  rw [hE] at DF ⊢
  clear hE
  have HIY : Hid ((Try.prog.info? 37).map (·.size) = some Y.size) := by show _ = _; rw [hF0]; kernel_rfl
  have hZ0 : (flatP zBk.parts).size = 238 := rfl
  obtain ⟨Z, hZ⟩ : ∃ Z, Z = flatP zBk.parts := ⟨_, rfl⟩
  rw [← hZ] at hZ0
  obtain ⟨hzz, hst⟩ := zero_array (P := Try.prog) (t := 37) (n := 238) Z (by rw [hZ]; kernel_rfl) hZ0 (by rw [hZ]; kernel_rfl)
  have HZ := Lib.hid hZ; clear hZ
  have hba := (Below.refl w.heap.size w).alloc (Nat.le_refl _) (.cells Z 37)
  have D0 := nrd_any (.slice va vl vc) bs _ (h.below hba) hb
  have hsz : (w.alloc (.cells Z 37)).heap.size = w.heap.size + 1 := by simp
  rw [hsz] at D0
  have HD0 := Lib.hid D0; clear D0 h hba hsz
  obtain ⟨n0, hn0⟩ : ∃ n0, bs.length = n0 := ⟨_, rfl⟩
  have DF2 : Hid (∀ lo g u, Rdr lo u g s11.r s11.e → _) := fun lo g u hr => DF.out lo g u n0 hn0.symm hr
  clear DF
  rw [hn0] at HD0 hb hln0 hln11 ⊢
  obtain ⟨U, hU⟩ : ∃ U, finU s11.e true ((n0 : Int) - (s11.r.length : Nat)) = U := ⟨_, rfl⟩
  rw [hU] at DF2 ⊢
  clear hn0 hln0 hU hln11
  clear hs0
  have HI2 : Hid ((Try.prog.info? 29).map (·.size) = some (bytesL v2).length) := by show _ = _; rw [z2.out]; kernel_rfl
  have HI3 : Hid ((Try.prog.info? 29).map (·.size) = some (bytesL v3).length) := by show _ = _; rw [z3.out]; kernel_rfl
  have HI4 : Hid ((Try.prog.info? 29).map (·.size) = some (bytesL v4).length) := by show _ = _; rw [z4.out]; kernel_rfl
  have HI5 : Hid ((Try.prog.info? 35).map (·.size) = some (wideL v5).length) := by show _ = _; kernel_rfl
  have HI6 : Hid ((Try.prog.info? 35).map (·.size) = some (wideL v6).length) := by show _ = _; kernel_rfl
  have HI7 : Hid ((Try.prog.info? 31).map (·.size) = some v7.cells.length) := by show _ = _; rw [z7.out]; kernel_rfl
  have HI8 : Hid ((Try.prog.info? 31).map (·.size) = some v8.cells.length) := by show _ = _; rw [z8.out]; kernel_rfl
  have HI9 : Hid ((Try.prog.info? 31).map (·.size) = some v9.cells.length) := by show _ = _; rw [z9.out]; kernel_rfl
  have HI10 : Hid ((Try.prog.info? 31).map (·.size) = some v10.cells.length) := by show _ = _; rw [z10.out]; kernel_rfl
  go_enter Try.func14, Try.ntmps14
  go_wp2_with (first
    | ((with_reducible refine at_load (.tmp 2) ?_); (have hxv : Blk x11 w.heap.size X := S11.out.xv.to HXE.out); have HXV := Lib.hid hxv; clear hxv; refine wpList_load_g 37 (.tmp 2) rfl w.heap.size rfl X _ HXV.out Try.underlying37 rfl HIX.out rfl ?_)
    | (go_at_call 48; refine (DF2.out _ _ _ S11.out.rd).mono ?_; rintro e w90 ⟨rfl, hb90⟩; have K90 := Lib.hid (HXV.out.call hb90); have HB90 := Lib.hid ((S11.out.bel (by omega)).trans (hb90.mono (S11.out.bel (by omega)).size)); clear hb90)
    | ((with_reducible refine at_store (.tmp 2) ?_); refine wpList_store_blk rfl 37 (.tmp 2) _ rfl w.heap.size Y rfl rfl X K90.out (by rw [hX0, hF0]) HIY.out HF1.out ?_; intro w91 U91 B91)
    | ((with_reducible refine at_store (.tmp 52) ?_); refine wpList_store_ds1 rfl 4 (.tmp 52) (.tmp 51) rfl R11.out 10 237 (.bool v11) rfl rfl rfl rfl (by kernel_rfl) rfl rfl ?_; intro x11 Ux S'; have S11 := Lib.hid S'; clear S' Ux; have k110 := S11.out.rv.cell 0; have k111 := S11.out.rv.cell 1)
    | (go_at_call 47; refine (D11.out _ _ _ S10.out.rd).mono ?_; rintro e y11 ⟨rfl, hr, hg⟩; have R11 := Lib.hid (S10.out.read (s' := s11) hr hg); clear hr hg)
    | ((with_reducible refine at_store (.tmp 48) ?_); refine wpList_store_ds rfl 31 (.tmp 48) (.tmp 46) rfl R10.out 1 33 (v10.cells) (by rw [z10.out]; rfl) rfl rfl rfl HI10.out (CpD.one _) ?_; intro x10 Ux S'; have S10 := Lib.hid S'; clear S' Ux; have k100 := S10.out.rv.cell 0)
    | (go_at_call 46; refine (D10.out _ _ _ S9.out.rd).mono ?_; rintro e y10 ⟨rfl, hr, hg⟩; have R10 := Lib.hid (S9.out.read (s' := s10) hr hg); clear hr hg)
    | ((with_reducible refine at_store (.tmp 43) ?_); refine wpList_store_ds rfl 31 (.tmp 43) (.tmp 41) rfl R9.out 0 0 (v9.cells) (by rw [z9.out]; rfl) rfl rfl rfl HI9.out (CpD.one _) ?_; intro x9 Ux S'; have S9 := Lib.hid S'; clear S' Ux; have k90 := S9.out.rv.cell 0)
    | (go_at_call 46; refine (D9.out _ _ _ S8.out.rd).mono ?_; rintro e y9 ⟨rfl, hr, hg⟩; have R9 := Lib.hid (S8.out.read (s' := s9) hr hg); clear hr hg)
    | ((with_reducible refine at_store (.tmp 38) ?_); refine wpList_store_ds rfl 31 (.tmp 38) (.tmp 37) rfl R8.out 9 204 (v8.cells) (by rw [z8.out]; rfl) rfl rfl rfl HI8.out (CpD.one _) ?_; intro x8 Ux S'; have S8 := Lib.hid S'; clear S' Ux; have k80 := S8.out.rv.cell 0)
    | (go_at_call 46; refine (D8.out _ _ _ S7.out.rd).mono ?_; rintro e y8 ⟨rfl, hr, hg⟩; have R8 := Lib.hid (S7.out.read (s' := s8) hr hg); clear hr hg)
    | ((with_reducible refine at_store (.tmp 34) ?_); refine wpList_store_ds rfl 31 (.tmp 34) (.tmp 33) rfl R7.out 8 171 (v7.cells) (by rw [z7.out]; rfl) rfl rfl rfl HI7.out (CpD.one _) ?_; intro x7 Ux S'; have S7 := Lib.hid S'; clear S' Ux; have k70 := S7.out.rv.cell 0)
    | (go_at_call 46; refine (D7.out _ _ _ S6.out.rd).mono ?_; rintro e y7 ⟨rfl, hr, hg⟩; have R7 := Lib.hid (S6.out.read (s' := s7) hr hg); clear hr hg)
    | ((with_reducible refine at_store (.tmp 30) ?_); refine wpList_store_ds rfl 35 (.tmp 30) (.tmp 29) rfl R6.out 7 167 (wideL v6) rfl rfl rfl rfl HI6.out (wideL_one _) ?_; intro x6 Ux S'; have S6 := Lib.hid S'; clear S' Ux; have k60 := S6.out.rv.cell 0)
    | (go_at_call 45; refine (D6.out _ _ _ S5.out.rd).mono ?_; rintro e y6 ⟨rfl, hr, hg⟩; have R6 := Lib.hid (S5.out.read (s' := s6) hr hg); clear hr hg)
    | ((with_reducible refine at_store (.tmp 26) ?_); refine wpList_store_ds rfl 35 (.tmp 26) (.tmp 25) rfl R5.out 6 163 (wideL v5) rfl rfl rfl rfl HI5.out (wideL_one _) ?_; intro x5 Ux S'; have S5 := Lib.hid S'; clear S' Ux; have k50 := S5.out.rv.cell 0)
    | (go_at_call 45; refine (D5.out _ _ _ S4.out.rd).mono ?_; rintro e y5 ⟨rfl, hr, hg⟩; have R5 := Lib.hid (S4.out.read (s' := s5) hr hg); clear hr hg)
    | ((with_reducible refine at_store (.tmp 22) ?_); refine wpList_store_ds rfl 29 (.tmp 22) (.tmp 21) rfl R4.out 5 131 (bytesL v4) (by rw [z4.out]; rfl) rfl rfl rfl HI4.out (bytesL_one _) ?_; intro x4 Ux S'; have S4 := Lib.hid S'; clear S' Ux; have k40 := S4.out.rv.cell 0)
    | (go_at_call 44; refine (D4.out _ _ _ S3.out.rd).mono ?_; rintro e y4 ⟨rfl, hr, hg⟩; have R4 := Lib.hid (S3.out.read (s' := s4) hr hg); clear hr hg)
    | ((with_reducible refine at_store (.tmp 18) ?_); refine wpList_store_ds rfl 29 (.tmp 18) (.tmp 17) rfl R3.out 4 99 (bytesL v3) (by rw [z3.out]; rfl) rfl rfl rfl HI3.out (bytesL_one _) ?_; intro x3 Ux S'; have S3 := Lib.hid S'; clear S' Ux; have k30 := S3.out.rv.cell 0)
    | (go_at_call 44; refine (D3.out _ _ _ S2.out.rd).mono ?_; rintro e y3 ⟨rfl, hr, hg⟩; have R3 := Lib.hid (S2.out.read (s' := s3) hr hg); clear hr hg)
    | ((with_reducible refine at_store (.tmp 14) ?_); refine wpList_store_ds rfl 29 (.tmp 14) (.tmp 13) rfl R2.out 3 67 (bytesL v2) (by rw [z2.out]; rfl) rfl rfl rfl HI2.out (bytesL_one _) ?_; intro x2 Ux S'; have S2 := Lib.hid S'; clear S' Ux; have k20 := S2.out.rv.cell 0)
    | (go_at_call 44; refine (D2.out _ _ _ S1.out.rd).mono ?_; rintro e y2 ⟨rfl, hr, hg⟩; have R2 := Lib.hid (S1.out.read (s' := s2) hr hg); clear hr hg)
    | ((with_reducible refine at_store (.tmp 10) ?_); refine wpList_store_ds1 rfl 27 (.tmp 10) (.tmp 9) rfl R1.out 2 66 (.int .u64 v1) rfl rfl rfl rfl (by kernel_rfl) rfl rfl ?_; intro x1 Ux S'; have S1 := Lib.hid S'; clear S' Ux; have k10 := S1.out.rv.cell 0)
    | (go_at_call 43; refine (D1.out _ _ _ _ S0.out.rd).mono ?_; rintro e y1 ⟨rfl, hr, hg⟩; have R1 := Lib.hid (S0.out.read (s' := s1) hr hg); clear hr hg)
    | (go_at_call 42; refine HD0.out.mono ?_; rintro e w1 ⟨g, rfl, hr1, hg1, hb1⟩; have HR1 := Lib.hid hr1; clear hr1; have HB1 := Lib.hid hb1; clear hb1)
    | ((with_reducible refine at_store (.tmp 5) ?_); refine wpList_store_blk rfl 86 (.tmp 5) _ rfl w1.heap.size #[.pointer (some ⟨g, 0, none⟩), .int .i64 n0] rfl rfl #[.pointer none, .int .i64 0] (Blk.new rfl) rfl (by kernel_rfl) (by intro v hv; simp at hv; rcases hv with rfl | rfl <;> rfl) ?_; intro w2 U2 B2
       have S0 := Lib.hid (DS.start (ps := zBk.parts) (ls := [33, 33, 1, 32, 32, 32, 4, 4, 33, 33, 1]) (size := (n0 : Int)) HR1.out hg1 (by rw [← HZ.out]; exact HB1.out) rfl U2 B2)
       clear U2 B2
       have k00 := S0.out.rv.cell 0
       have k01 := S0.out.rv.cell 1))
  refine bodyPost_ret (res_cell_tmp2 rfl rfl rfl rfl B91 Try.underlying37 rfl HIY.out) rfl ⟨rfl, ?_⟩
  exact U91.below HB90.out (Nat.le_refl _)

end Go.Proofs.Ytgcgjnjbhdhhgaa
