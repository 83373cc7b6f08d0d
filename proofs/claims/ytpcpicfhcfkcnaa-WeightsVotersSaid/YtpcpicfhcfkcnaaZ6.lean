/- Several texts as one: L13v. -/
import Derived.Test.YtpcpicfhcfkcnaaZ3
import Derived.Test.YtpcpicfhcfkcnaaHeld4
import Derived.Test.YtpcpicfhcfkcnaaHeldK
namespace Go.Proofs.Ytpcpicfhcfkcnaa

/-! L13v -/
section
set_option linter.unusedVariables false
set_option linter.unusedSimpArgs false
open Go.RowKit

set_option maxRecDepth 100000

/-- A list besides. -/
structure LwT (w : World) (bt : Nat) (tv lv ev nv : Value) (ns : List NdD) (vs : List VoD) (es bs : List Int) (ov : Value) (os : List Int) (u : World) : Prop where
  s : LwS w bt tv lv ev nv ns vs es bs u
  o : NumsV u ov os

theorem LwT.call {w u u' : World} {bt : Nat} {tv lv ev nv : Value} {ns : List NdD} {vs : List VoD} {es bs : List Int} {ov : Value} {os : List Int} (h : LwT w bt tv lv ev nv ns vs es bs ov os u) (hb : Below u.heap.size u u') : LwT w bt tv lv ev nv ns vs es bs ov os u' :=
  ⟨h.s.call hb, ⟨h.o.1.below hb, h.o.2⟩⟩

set_option maxHeartbeats 32000000 in
theorem walk_WeightsVoters (a0 : Option Addr) (len0 cap0 : Nat) (z0 : List Int) (a1 : Option Addr) (len1 cap1 : Nat) (z1 : List Int) (a2 : Int) (w : World) (w0 : IsRow .i64 w a0 len0 cap0 z0) (w1 : IsRow .i64 w a1 len1 cap1 z1) (w2x : (Lit.int .i64 a2).wf = true) :
    Calls Try.prog 5 #[.slice a0 len0 cap0, .slice a1 len1 cap1, .int .i64 a2] w fun e w' => e = .returned (.bool true) ∧ Below w.heap.size w w' := by
  have HBL := Lib.hid (fun u (hu : Below w.heap.size w u) => built13_any (.slice a0 len0 cap0) (.slice a1 len1 cap1) _ _ u ((rowInts w0).below hu) ((rowInts w1).below hu))
  have HAW := Lib.hid awake13_any
  have hi1 : (Try.prog.info? 25).map (·.size) = some 1 := by kernel_rfl
  have hi2 : (Try.prog.info? 28).map (·.size) = some 2 := by kernel_rfl
  obtain ⟨hz1, hst1⟩ := zero_array (P := Try.prog) (t := 25) (n := 1) #[.slice none 0 0] (by kernel_rfl) rfl (by kernel_rfl)
  obtain ⟨hz2, hst2⟩ := zero_array (P := Try.prog) (t := 28) (n := 2) #[.slice none 0 0, .slice none 0 0] (by kernel_rfl) rfl (by kernel_rfl)
  clear w0 w1 hst1 hst2
  go_enter Try.func5, Try.ntmps5
  go_upto_region 2 with (first
    | (go_at_call 7; refine (HBL.out _ (Below.refl _ _)).mono ?_; rintro e w1 ⟨tv, lv, ev, nv, n, ns, vs, es, bs, rfl, hn, hv, he, hm, hp, hb⟩; obtain ⟨ta, tc, rfl, _⟩ := hn.shape; obtain ⟨la, lc, rfl, _⟩ := ElV.shape hv; obtain ⟨ea, el, ec, rfl⟩ := ints_shape' he.1; obtain ⟨na, nc, rfl, _⟩ := NumsV.shapeW hm; have HP := Lib.hid hp; have L1 := Lib.hid (LwV.mk hn hv he hm hb); clear hn hv he hm hp hb)
    | ((with_reducible refine at_store (.tmp 7) ?_); refine wpList_store_blk rfl 25 (.tmp 7) _ rfl w1.heap.size #[.slice ta ns.length tc] rfl rfl #[.slice none 0 0] ((Blk.new rfl).alloc _) rfl hi1 (by simp [Value.oneCell']) ?_; intro w2 U2 B2; have HU2 := Lib.hid U2; have HT2 := Lib.hid B2; clear U2 B2)
    | ((with_reducible refine at_store (.tmp 8) ?_); refine wpList_store_blk rfl 28 (.tmp 8) _ rfl (w1.heap.size + 1) #[.slice la vs.length lc, .slice ea el ec] (by first | rfl | simp [Act.eval, Act.put]) rfl #[.slice none 0 0, .slice none 0 0] (HU2.out.blk (Blk.new (by simp)) (by omega)) rfl hi2 (by simp [Value.oneCell']) ?_; intro w3 U3 B3; have S : Hid (LwS w w1.heap.size (.slice ta ns.length tc) (.slice la vs.length lc) (.slice ea el ec) (.slice na bs.length nc) ns vs es bs w3) := lws_new L1.out HT2.out HU2.out U3 B3; clear U3 B3))
  obtain ⟨bt, hbt⟩ : ∃ x, w1.heap.size = x := ⟨_, rfl⟩
  rw [hbt] at S ⊢
  clear hbt L1 HT2 HU2
  (try simp only [Act.put])
  obtain ⟨q, hq⟩ : ∃ q, Hid (bs.length = q) := ⟨_, Lib.hid rfl⟩
  have HQL : Hid (vs.length = q) := by show _ = _; rw [← HP.out.sm.len, hq.out]
  have HM9 : Hid (ns.length ≤ 9) := HP.out.l9
  have hq6 : q ≤ 6 := by rw [← hq.out]; exact HP.out.sm.l6
  obtain ⟨P, hP16, hP⟩ := i64_and16_nat a2
  rw [hq.out] at S ⊢
  by_cases hq0 : q = 0
  · have hq0' : ((q : Int) == 0) = true := by simp [hq0]
    go_wp2_with (first
      | (go_at_call 15; refine (HAW.out _).mono ?_; rintro e w4 ⟨rfl, hb⟩; have S2 := Lib.hid (S.out.call hb); clear hb))
    go_ret
    exact ⟨rfl, S2.out.l.b⟩
  have hqp : 0 < q := by omega
  have hq0' : ((q : Int) == 0) = false := by simp; omega
  have hq0'' : ¬ (q : Int) = 0 := by omega
  obtain ⟨i, hi⟩ : ∃ x, P % q = x := ⟨_, rfl⟩
  have hri : Int.tmod (P : Int) (q : Int) = (i : Int) := by rw [tmod_nat, hi]
  have hiq : i < q := by rw [← hi]; exact Nat.mod_lt _ hqp
  have hiq' : (i : Int) < q := by omega
  have hib : i < bs.length := by rw [hq.out]; exact hiq
  have HVT := Lib.hid (fun (j : Nat) (hj : j < ns.length) => voters HP.out.ok HP.out.sm es hib hj)
  have hiu : (Try.prog.info? 35).map (·.size) = some 1 := by kernel_rfl
  have HSL : Hid ((bs.set i 0).length ≤ 1000000) := by show _ ≤ _; rw [List.length_set]; exact HP.out.small
  have HCD := Lib.hid (fun u (hu : LwV w (.slice ta ns.length tc) (.slice la vs.length lc) (.slice ea el ec) (.slice na q nc) ns vs es bs u) => lw_cdirect HP.out u hu _ bs hu.m HP.out.small)
  have HCO := Lib.hid (fun u (hu : LwV w (.slice ta ns.length tc) (.slice la vs.length lc) (.slice ea el ec) (.slice na q nc) ns vs es bs u) ov (ho : NumsV u ov (bs.set i 0)) => lw_cdirect HP.out u hu ov _ ho HSL.out)
  have HDL := Lib.hid (lw_dlen ns vs es bs)
  have HOL := Lib.hid (lw_dlen ns vs es (bs.set i 0))
  have HRS : Hid (∀ x ∈ bs.set i 0, 0 ≤ x ∧ x ≤ 18446744073709551615) := fun x hx => by have := (HP.out.sm.set i (x := 0) (by omega)).rng x hx; omega
  obtain ⟨os, hos⟩ : ∃ x, bs.set i 0 = x := ⟨_, rfl⟩
  rw [hos] at HVT HCO HOL HRS
  obtain ⟨dl, hdl⟩ : ∃ x, dirL ns vs es bs ns.length = x := ⟨_, rfl⟩
  rw [hdl] at HVT HCD HDL
  obtain ⟨yl, hyl⟩ : ∃ x, dirL ns vs es os ns.length = x := ⟨_, rfl⟩
  rw [hyl] at HVT HCO HOL
  clear hi hdl hyl HSL
  go_upto_region 7 with (first
    | ((with_reducible refine at_app (.const (.slice none 0 0)) (.tmp 34) ?_); refine wpList_appK info_u64c (by omega) Try.underlying29 (.const (.slice none 0 0)) (.tmp 34) rfl rfl w3.heap.size (.slice none 0 0) [] rfl (OwnK.nil _ _ _ _) (.slice na q nc) bs rfl S.out.l.m.1 (by have := HP.out.small; simp; omega) (Nat.le_refl _) ?_; intro v4 w4 h4 g4 _; rw [List.nil_append] at h4; obtain ⟨g, c4, rfl, hgB, hrow⟩ := own_row1 h4 (by omega); have HRW := Lib.hid hrow; have HB4 := Lib.hid (below_none g4); rw [hq.out]; clear hrow h4 g4)
    | ((with_reducible refine at_store (.tmp 38) ?_); refine wpList_store_num rfl 35 (.tmp 38) _ rfl g i .u64 bs 0 HRW.out hib (by first | rfl | simp [Act.eval, Act.put]) rfl hiu ?_; intro w5 U5 B5; rw [hos] at B5; have S5 : Hid (LwT w bt (.slice ta ns.length tc) (.slice la vs.length lc) (.slice ea el ec) (.slice na q nc) ns vs es bs (.slice (some ⟨g, 0, none⟩) q c4) os w5) := ⟨S.out.call (U5.below HB4.out hgB), ⟨B5.ints (by rw [← hos, List.length_set, hq.out]) (by rw [← hos, List.length_set, hq.out]; unfold maxLen; omega), HRS.out⟩⟩; clear U5 B5))
  clear S HRW HB4 hos
  (try simp only [Act.put])
  have HSx0 : Hid ((fun u => LwT w bt (.slice ta ns.length tc) (.slice la vs.length lc) (.slice ea el ec) (.slice na q nc) ns vs es bs (.slice (some ⟨g, 0, none⟩) q c4) os u) w5.drew) := S5.out.call (Below.drewN (n := 1) (Below.refl _ _) : Below w5.heap.size w5 w5.drew)
  refine wp_region_held_drew (S := fun u => LwT w bt (.slice ta ns.length tc) (.slice la vs.length lc) (.slice ea el ec) (.slice na q nc) ns vs es bs (.slice (some ⟨g, 0, none⟩) q c4) os u) (by kernel_rfl) (HSx0.out) (fun _ => ?_)
  (try simp only [Act.put, List.setIfInBounds_toArray, List.set_cons_zero, List.set_cons_succ])
  obtain ⟨x0, hx0⟩ : ∃ x, w5.drew = x := ⟨_, rfl⟩
  rw [hx0] at HSx0 ⊢
  clear hx0
  refine held_load (oi := ⟨some 39, _, _, _, _, _⟩) 0 rfl (by kernel_rfl) (by kernel_rfl) (by kernel_rfl) (fun _ _ _ _ h => h) rfl 25 (.tmp 7) rfl bt (0) rfl [.slice ta ns.length tc] _ (fun u' hu => hu.s.t.range) Try.underlying25 rfl (hi1) HSx0.out ?_
  (try simp only [Act.put, List.setIfInBounds_toArray, List.set_cons_zero, List.set_cons_succ])
  refine held_load (oi := ⟨some 40, _, _, _, _, _⟩) 1 rfl (by kernel_rfl) (by kernel_rfl) (by kernel_rfl) (fun _ _ _ _ h => h) rfl 28 (.tmp 8) rfl (bt + 1) (0) rfl [.slice la vs.length lc, .slice ea el ec] _ (fun u' hu => hu.s.x.range) Try.underlying28 rfl (hi2) HSx0.out ?_
  (try simp only [Act.put, List.setIfInBounds_toArray, List.set_cons_zero, List.set_cons_succ])
  refine wpAnyH_take (i := 2) (oi := ⟨some 41, _, _, _, _, _⟩) (v := .slice na q nc) rfl (by kernel_rfl) (by kernel_rfl) (by kernel_rfl) (fun _ _ _ h => h) (Or.inl ⟨by rfl, fun wz hz => ?_⟩) HSx0.out ?_
  · clear hz; go_simp; first | done | with_reducible rfl | rfl
  (try simp only [Act.put, List.setIfInBounds_toArray, List.set_cons_zero, List.set_cons_succ])
  refine held_load (oi := ⟨some 43, _, _, _, _, _⟩) 4 rfl (by kernel_rfl) (by kernel_rfl) (by kernel_rfl) (fun _ _ _ _ h => h) rfl 25 (.tmp 7) rfl bt (0) rfl [.slice ta ns.length tc] _ (fun u' hu => hu.s.t.range) Try.underlying25 rfl (hi1) HSx0.out ?_
  (try simp only [Act.put, List.setIfInBounds_toArray, List.set_cons_zero, List.set_cons_succ])
  refine held_load (oi := ⟨some 44, _, _, _, _, _⟩) 5 rfl (by kernel_rfl) (by kernel_rfl) (by kernel_rfl) (fun _ _ _ _ h => h) rfl 28 (.tmp 8) rfl (bt + 1) (0) rfl [.slice la vs.length lc, .slice ea el ec] _ (fun u' hu => hu.s.x.range) Try.underlying28 rfl (hi2) HSx0.out ?_
  (try simp only [Act.put, List.setIfInBounds_toArray, List.set_cons_zero, List.set_cons_succ])
  refine wpAnyH_take (i := 6) (oi := ⟨some 45, _, _, _, _, _⟩) (v := .slice (some ⟨g, 0, none⟩) q c4) rfl (by kernel_rfl) (by kernel_rfl) (by kernel_rfl) (fun _ _ _ h => h) (Or.inl ⟨by rfl, fun wz hz => ?_⟩) HSx0.out ?_
  · clear hz; go_simp; first | done | with_reducible rfl | rfl
  (try simp only [Act.put, List.setIfInBounds_toArray, List.set_cons_zero, List.set_cons_succ])
  refine wpAnyH_ready (rs := [3]) (by kernel_rfl) (by simp) ?_
  refine AllReadyH.cons (o := ⟨some 42, _, _, _, _, _⟩) rfl (fun K hK => ?_) AllReadyH.nil
  go_simp
  refine (HCD.out x0 HSx0.out.s.l).mono ?_
  rintro e x1 ⟨dv, rfl, hd, hb⟩
  have HD := Lib.hid hd
  clear hd
  have HSx1 : Hid ((fun u => LwT w bt (.slice ta ns.length tc) (.slice la vs.length lc) (.slice ea el ec) (.slice na q nc) ns vs es bs (.slice (some ⟨g, 0, none⟩) q c4) os u) x1) := HSx0.out.call hb
  clear hb
  refine hK.out _ _ (HSx1.out) (fun _ => ?_)
  clear hK K
  (try simp only [Act.put, List.setIfInBounds_toArray, List.set_cons_zero, List.set_cons_succ])
  refine wpAnyH_ready (rs := [7]) (by kernel_rfl) (by simp) ?_
  refine AllReadyH.cons (o := ⟨some 46, _, _, _, _, _⟩) rfl (fun K hK => ?_) AllReadyH.nil
  go_simp
  refine (HCO.out x1 HSx1.out.s.l _ HSx1.out.o).mono ?_
  rintro e x2 ⟨yv, rfl, hd, hb⟩
  have HY := Lib.hid hd
  clear hd
  have HD := Lib.hid ((⟨HD.out.1.below hb, HD.out.2⟩ : NumsV _ _ _))
  have HSx2 : Hid ((fun u => LwT w bt (.slice ta ns.length tc) (.slice la vs.length lc) (.slice ea el ec) (.slice na q nc) ns vs es bs (.slice (some ⟨g, 0, none⟩) q c4) os u) x2) := HSx1.out.call hb
  clear hb
  refine hK.out _ _ (HSx2.out) (fun _ => ?_)
  clear hK K
  (try simp only [Act.put, List.setIfInBounds_toArray, List.set_cons_zero, List.set_cons_succ])
  refine wpAnyH_ready (rs := [8]) (by kernel_rfl) (by simp) ?_
  refine AllReadyH.cons (o := ⟨some 12, _, _, _, _, _⟩) rfl (fun K hK => ?_) AllReadyH.nil
  go_simp
  refine hK.out _ _ (HSx2.out) (fun _ => ?_)
  clear hK K
  (try simp only [Act.put, List.setIfInBounds_toArray, List.set_cons_zero, List.set_cons_succ])
  refine wpAnyH_ready (rs := [9]) (by kernel_rfl) (by simp) ?_
  refine AllReadyH.cons (o := ⟨some 13, _, _, _, _, _⟩) rfl (fun K hK => ?_) AllReadyH.nil
  go_simp
  refine hK.out _ _ (HSx2.out) (fun _ => ?_)
  clear hK K
  (try simp only [Act.put, List.setIfInBounds_toArray, List.set_cons_zero, List.set_cons_succ])
  refine wpAnyH_done (by kernel_rfl) ?_ _
  obtain ⟨da, dc, rfl, _⟩ := NumsV.shapeW HD.out
  obtain ⟨ya, yc, rfl, _⟩ := NumsV.shapeW HY.out
  rw [HDL.out] at HD ⊢
  rw [HOL.out] at HY ⊢
  have SX : Hid (LwD w bt (.slice ta ns.length tc) (.slice la vs.length lc) (.slice ea el ec) (.slice na q nc) ns vs es bs (.slice da ns.length dc) (.slice ya ns.length yc) dl yl x2) := ⟨HSx2.out.s, HD.out, HY.out⟩
  clear S5 HD HY HCD HCO HSx0 HSx1 HSx2
  obtain ⟨m, hm⟩ : ∃ m, Hid (ns.length = m) := ⟨_, Lib.hid rfl⟩
  rw [hm.out] at SX HDL HOL HM9 ⊢
  have hm9 : m ≤ 9 := HM9.out
  have hnn : ((m : Int) == (m : Int)) = true := by simp
  have HC0 := Lib.hid (SX.out.s.t.cell 0)
  (try simp only [Act.put])
  go_upto_region 10 with (first
    | ((with_reducible refine at_load (.tmp 49) ?_); refine wpList_load_1 23 (.tmp 49) rfl bt 0 (.slice ta m tc) HC0.out rfl _ Try.underlying23 rfl rfl ?_)
    | ((with_reducible refine at_load (.tmp 56) ?_); refine wpList_load_1 23 (.tmp 56) rfl bt 0 (.slice ta m tc) HC0.out rfl _ Try.underlying23 rfl rfl ?_))
  obtain ⟨vb, off, hla, _hlv, hvb, hra, hok⟩ := VotesV.elem SX.out.s.l.v (i := i) (by rw [HQL.out]; exact hiq)
  subst hla
  rw [HQL.out] at SX ⊢
  obtain ⟨d, hd⟩ : ∃ d, Hid (vs.getD i zeV = d) := ⟨_, Lib.hid rfl⟩
  have HCB : Hid (cntB ns vs es i = ((vs.getD i zeV).has && !decide ((i : Int) ∈ es) && decide (0 ≤ findN ns (vs.getD i zeV).r) && !decide (((ns[(findN ns (vs.getD i zeV).r).toNat]?).map NdD.st).getD 0 = 2))) := rfl
  rw [hd.out] at hra hok HCB HVT
  obtain ⟨dh, dn, dr⟩ := d
  have HOK : Hid (IsBytes 32 dr) := Lib.hid hok.2.2
  have HRR := Lib.hid (vo_rt hra)
  have HCH : Hid (x2.cell? ⟨vb, off + i * 34, none⟩ = some (.bool dh)) := by
    show x2.cell? _ = _
    have := hra 0 (.bool dh) rfl
    simpa using this
  have HFI := Lib.hid (fun u (hu : LwD w bt (.slice ta m tc) (.slice (some ⟨vb, off, none⟩) q lc) (.slice ea el ec) (.slice na q nc) ns vs es bs (.slice da m dc) (.slice ya m yc) dl yl u) => find_any (.slice ta m tc) ns dr u hu.s.l.n HOK.out)
  have HFR := Lib.hid (findN_rng ns dr)
  dsimp only at HCB HVT
  obtain ⟨fk, hfk⟩ : ∃ z, findN ns dr = z := ⟨_, rfl⟩
  rw [hfk] at HFI HFR HCB HVT
  obtain ⟨R, HRX⟩ : ∃ R, Hid (bytesL dr = R) := ⟨_, Lib.hid rfl⟩
  rw [HRX.out] at HRR HFI
  have hiR : (Try.prog.info? 41).map (·.size) = some R.length := by rw [← HRX.out, bytesL_len HOK.out]; kernel_rfl
  clear hra hok _hlv hfk
  refine wp_region_fam2 (by kernel_rfl) (by kernel_rfl) ?_
  intro T F hT hF hG
  have c0 : ∀ t, (F t).cell? ⟨bt + 1, 0, none⟩ = some (.slice (some ⟨vb, off, none⟩) q lc) := fun t => (SX.out.call (hF t)).s.x.cell 0
  have CT := Lib.hid (show ∀ u, (∃ t, u = F t) → Blk u bt #[.slice ta m tc] by rintro _ ⟨t, rfl⟩; exact (SX.out.call (hF t)).s.t)
  have CR := Lib.hid (show ∀ u, (∃ t, u = F t) → u.rangeAt vb (off + i * 34 + 2) R by rintro _ ⟨t, rfl⟩; exact Below.rng (hF t) hvb HRR.out)
  repeat (first
    | ((with_reducible refine at_qload (.tmp 7) ?_); refine wpQuiet_load 25 _ rfl bt rfl #[.slice ta m tc] CT.out Try.underlying25 rfl hi1 (by kernel_rfl) ?_; simp only [Act.put, List.setIfInBounds_toArray, List.set_cons_succ, List.set_cons_zero])
    | ((with_reducible refine at_qload (.tmp 66) ?_); refine wpQuiet_load_midE 41 _ rfl vb (off + i * 34 + 2) (by simp [Act.eval]) R CR.out Try.underlying41 rfl hiR (by kernel_rfl) ?_; simp only [Act.put, List.setIfInBounds_toArray, List.set_cons_succ, List.set_cons_zero])
    | (go_big_quiet_step ((go_at_call 17; exact fam_call hF hG (Nat.le_refl _) (HFI.out (F _) (SX.out.call (hF _)))))))
  refine wpQuiet_nil ?_
  rintro _ ⟨t, rfl⟩
  have SY := Lib.hid (SX.out.call (hF t))
  have HCH := Lib.hid (((hF t).cell (p := ⟨vb, off + i * 34, none⟩) hvb).trans HCH.out)
  obtain ⟨w8, hu⟩ : ∃ z, F t = z := ⟨_, rfl⟩
  rw [hu] at SY HCH ⊢
  clear c0 CT CR hG hu hF hT HRR HC0 SX
  clear t F T
  have HHA := Lib.hid (fun u (hu : LwD w bt (.slice ta m tc) (.slice (some ⟨vb, off, none⟩) q lc) (.slice ea el ec) (.slice na q nc) ns vs es bs (.slice da m dc) (.slice ya m yc) dl yl u) => has_any (.slice ea el ec) es (i : Int) u hu.s.l.e)
  obtain ⟨qe, hqe⟩ : ∃ z, decide ((i : Int) ∈ es) = z := ⟨_, rfl⟩
  rw [hqe] at HHA HCB
  obtain ⟨cb, hcb⟩ : ∃ z, cntB ns vs es i = z := ⟨_, rfl⟩
  rw [hcb] at HCB HVT
  obtain ⟨B0, hB0⟩ : ∃ z, Hid (bs.getD i 0 = z) := ⟨_, Lib.hid rfl⟩
  rw [hB0.out] at HVT
  clear hqe hcb
  go_upto_region 11 with fail
  go_cut [15] from 69 to 95 (fun cv wx => cv = .bool cb ∧ LwD w bt (.slice ta m tc) (.slice (some ⟨vb, off, none⟩) q lc) (.slice ea el ec) (.slice na q nc) ns vs es bs (.slice da m dc) (.slice ya m yc) dl yl wx)
  case first =>
    have HX0 := Lib.hid (SY.out.s.x.cell 0)
    have HX1 := Lib.hid (SY.out.s.x.cell 1)
    have HT0 := Lib.hid (SY.out.s.t.cell 0)
    cases dh
    case false =>
      have HE : Hid (cb = false) := by show _ = _; rw [HCB.out]; simp
      go_wp2_with (first
        | ((with_reducible refine at_load (.tmp 69) ?_); refine wpList_load_1 26 (.tmp 69) rfl (bt + 1) 0 (.slice (some ⟨vb, off, none⟩) q lc) HX0.out rfl _ Try.underlying26 rfl rfl ?_)
        | ((with_reducible refine at_load (.tmp 73) ?_); refine wpList_load_1 4 (.tmp 73) rfl vb (off + i * 34) (.bool _) HCH.out rfl _ Try.underlying4 rfl rfl ?_))
      go_meet
      case rel => exact ⟨by rw [HE.out], SY.out⟩
    case true =>
      cases qe
      case true =>
        have HE : Hid (cb = false) := by show _ = _; rw [HCB.out]; simp
        go_wp2_with (first
          | ((with_reducible refine at_load (.tmp 69) ?_); refine wpList_load_1 26 (.tmp 69) rfl (bt + 1) 0 (.slice (some ⟨vb, off, none⟩) q lc) HX0.out rfl _ Try.underlying26 rfl rfl ?_)
          | ((with_reducible refine at_load (.tmp 73) ?_); refine wpList_load_1 4 (.tmp 73) rfl vb (off + i * 34) (.bool _) HCH.out rfl _ Try.underlying4 rfl rfl ?_)
          | ((with_reducible refine at_load (.tmp 76) ?_); refine wpList_load_1 22 (.tmp 76) rfl (bt + 1) 1 (.slice ea el ec) HX1.out rfl _ Try.underlying22 rfl rfl ?_)
          | (go_at_call 18; refine (HHA.out _ SY.out).mono ?_; rintro e w9 ⟨rfl, hb⟩; have SZ := Lib.hid (SY.out.call hb); clear hb))
        go_meet
        case rel => exact ⟨by rw [HE.out], SZ.out⟩
      case false =>
        by_cases h0 : 0 ≤ fk
        case neg =>
          have HE : Hid (cb = false) := by show _ = _; rw [HCB.out]; simp [h0]
          go_wp2_with (first
            | ((with_reducible refine at_load (.tmp 69) ?_); refine wpList_load_1 26 (.tmp 69) rfl (bt + 1) 0 (.slice (some ⟨vb, off, none⟩) q lc) HX0.out rfl _ Try.underlying26 rfl rfl ?_)
            | ((with_reducible refine at_load (.tmp 73) ?_); refine wpList_load_1 4 (.tmp 73) rfl vb (off + i * 34) (.bool _) HCH.out rfl _ Try.underlying4 rfl rfl ?_)
            | ((with_reducible refine at_load (.tmp 76) ?_); refine wpList_load_1 22 (.tmp 76) rfl (bt + 1) 1 (.slice ea el ec) HX1.out rfl _ Try.underlying22 rfl rfl ?_)
            | (go_at_call 18; refine (HHA.out _ SY.out).mono ?_; rintro e w9 ⟨rfl, hb⟩; have SZ := Lib.hid (SY.out.call hb); clear hb))
          go_meet
          case rel => exact ⟨by rw [HE.out], SZ.out⟩
        obtain ⟨kk, rfl⟩ : ∃ kk : Nat, fk = kk := ⟨fk.toNat, by omega⟩
        have hkm : kk < m := by have := HFR.out.2; rw [hm.out] at this; omega
        have hkm' : (kk : Int) < m := by omega
        have hkn : kk < ns.length := by rw [hm.out]; exact hkm
        have hmx : max (kk : Int) 0 = kk := by omega
        obtain ⟨nb, no, hta, hlm, hnb, hna, hnk⟩ := SY.out.s.l.n.elem hkn
        subst hta
        have HSA := Lib.hid hna.st
        obtain ⟨st, hst⟩ : ∃ z, (ns[kk]).st = z := ⟨_, rfl⟩
        have hgs : ((ns[((kk : Int)).toNat]?).map NdD.st).getD 0 = st := by rw [Int.toNat_natCast, List.getElem?_eq_getElem hkn]; exact hst
        rw [hgs] at HCB
        rw [hst] at HSA
        clear hna hlm hnk hst hgs
        by_cases h2 : st = 2
        · subst h2
          have HE : Hid (cb = false) := by show _ = _; rw [HCB.out]; simp
          go_wp2_with (first
            | ((with_reducible refine at_load (.tmp 69) ?_); refine wpList_load_1 26 (.tmp 69) rfl (bt + 1) 0 (.slice (some ⟨vb, off, none⟩) q lc) HX0.out rfl _ Try.underlying26 rfl rfl ?_)
            | ((with_reducible refine at_load (.tmp 73) ?_); refine wpList_load_1 4 (.tmp 73) rfl vb (off + i * 34) (.bool _) HCH.out rfl _ Try.underlying4 rfl rfl ?_)
            | ((with_reducible refine at_load (.tmp 76) ?_); refine wpList_load_1 22 (.tmp 76) rfl (bt + 1) 1 (.slice ea el ec) HX1.out rfl _ Try.underlying22 rfl rfl ?_)
            | (go_at_call 18; refine (HHA.out _ SY.out).mono ?_; rintro e w9 ⟨rfl, hb⟩; have SZ := Lib.hid (SY.out.call hb); have HT9 := Lib.hid (SZ.out.s.t.cell 0); have HSA9 := Lib.hid ((hb.cell (p := ⟨nb, no + kk * 240 + 239, none⟩) hnb).trans HSA.out); clear hb)
            | ((with_reducible refine at_load (.tmp 87) ?_); refine wpList_load_1 23 (.tmp 87) rfl bt 0 (.slice (some ⟨nb, no, none⟩) m tc) HT9.out rfl _ Try.underlying23 rfl rfl ?_)
            | ((with_reducible refine at_load (.tmp 92) ?_); refine wpList_load_1 3 (.tmp 92) rfl nb (no + kk * 240 + 239) (.int .i64 2) HSA9.out rfl _ Try.underlying3 rfl rfl ?_))
          go_meet
          case rel => exact ⟨by rw [HE.out], SZ.out⟩
        · have h2' : (st == 2) = false := by simp [h2]
          have HE : Hid (cb = true) := by show _ = _; rw [HCB.out]; simp [h2]
          go_wp2_with (first
            | ((with_reducible refine at_load (.tmp 69) ?_); refine wpList_load_1 26 (.tmp 69) rfl (bt + 1) 0 (.slice (some ⟨vb, off, none⟩) q lc) HX0.out rfl _ Try.underlying26 rfl rfl ?_)
            | ((with_reducible refine at_load (.tmp 73) ?_); refine wpList_load_1 4 (.tmp 73) rfl vb (off + i * 34) (.bool _) HCH.out rfl _ Try.underlying4 rfl rfl ?_)
            | ((with_reducible refine at_load (.tmp 76) ?_); refine wpList_load_1 22 (.tmp 76) rfl (bt + 1) 1 (.slice ea el ec) HX1.out rfl _ Try.underlying22 rfl rfl ?_)
            | (go_at_call 18; refine (HHA.out _ SY.out).mono ?_; rintro e w9 ⟨rfl, hb⟩; have SZ := Lib.hid (SY.out.call hb); have HT9 := Lib.hid (SZ.out.s.t.cell 0); have HSA9 := Lib.hid ((hb.cell (p := ⟨nb, no + kk * 240 + 239, none⟩) hnb).trans HSA.out); clear hb)
            | ((with_reducible refine at_load (.tmp 87) ?_); refine wpList_load_1 23 (.tmp 87) rfl bt 0 (.slice (some ⟨nb, no, none⟩) m tc) HT9.out rfl _ Try.underlying23 rfl rfl ?_)
            | ((with_reducible refine at_load (.tmp 92) ?_); refine wpList_load_1 3 (.tmp 92) rfl nb (no + kk * 240 + 239) (.int .i64 st) HSA9.out rfl _ Try.underlying3 rfl rfl ?_))
          go_meet
          case rel => exact ⟨by rw [HE.out]; simp [h2], SZ.out⟩
  case rest =>
    obtain ⟨rfl, hs⟩ := hcut
    have S8 := Lib.hid hs
    clear hs SY HCH
    (try simp only [Act.put])
    go_wp2_with fail
    go_loopw [16, 17] (fun nv' _ wr => ∃ j : Nat, j ≤ m ∧ nv' = .int .i64 j ∧ LwD w bt (.slice ta m tc) (.slice (some ⟨vb, off, none⟩) q lc) (.slice ea el ec) (.slice na q nc) ns vs es bs (.slice da m dc) (.slice ya m yc) dl yl wr) (fun nv' _ _ => m - (intOf nv').toNat)
    case atStart => exact ⟨0, Nat.zero_le _, rfl, S8.out⟩
    case round =>
      obtain ⟨j, hj, rfl, hs⟩ := hrel
      have S9 := Lib.hid hs
      clear hs S8
      by_cases hlt : j < m
      case neg =>
        obtain rfl : j = m := by omega
        go_wp2_with (first
          | (go_at_call 15; refine (HAW.out _).mono ?_; rintro e w9 ⟨rfl, hb⟩; have SE := Lib.hid (S9.out.call hb); clear hb))
        go_ret
        exact ⟨rfl, SE.out.s.l.b⟩
      have hlt' : (j : Int) < m := by omega
      have hjn : j < ns.length := by rw [hm.out]; exact hlt
      have hv := HVT.out j hjn
      obtain ⟨xb, xo, hxa, hxb, hcx⟩ := NumsV.elemW S9.out.d (k := j) (by rw [HDL.out]; exact hlt)
      obtain ⟨yb, yo, hya, hyb, hcy⟩ := NumsV.elemW S9.out.e (k := j) (by rw [HOL.out]; exact hlt)
      obtain ⟨bb, bo, hba, hbb, hcb⟩ := NumsV.elemW S9.out.s.l.m (k := i) hib
      subst hxa
      subst hya
      subst hba
      rw [hB0.out] at hcb
      obtain ⟨x, hx⟩ : ∃ z, dl.getD j 0 = z := ⟨_, rfl⟩
      obtain ⟨y, hy⟩ : ∃ z, yl.getD j 0 = z := ⟨_, rfl⟩
      rw [hx] at hcx hv
      rw [hy] at hcy hv
      have HV := Lib.hid hv
      have HCXX := Lib.hid hcx
      have HCYY := Lib.hid hcy
      have HCBB := Lib.hid hcb
      clear hcx hcy hcb hx hy hv
      by_cases hc : cb = true ∧ (j : Int) = fk
      · obtain ⟨rfl, hjk⟩ := hc
        have hjk' : ((j : Int) == fk) = true := by simp [hjk]
        have hv : IntKind.u64.wrap (y + B0) = x := by have := HV.out; rw [if_pos ⟨rfl, hjk⟩] at this; exact this
        clear hjk
        go_upto_region 18 with (first
          | ((with_reducible refine at_load (.tmp 110) ?_); refine wpList_load_1 35 (.tmp 110) rfl bb (bo + i) (.int .u64 B0) HCBB.out rfl _ Try.underlying35 rfl rfl ?_))
        refine wp_region_fam2 (by kernel_rfl) (by kernel_rfl) ?_
        intro T F hT hF hG
        have c1 : ∀ t, (F t).cell? ⟨xb, xo + j, none⟩ = some (.int .u64 x) := fun t => ((hF t).cell (p := ⟨xb, xo + j, none⟩) hxb).trans HCXX.out
        have c2 : ∀ t, (F t).cell? ⟨yb, yo + j, none⟩ = some (.int .u64 y) := fun t => ((hF t).cell (p := ⟨yb, yo + j, none⟩) hyb).trans HCYY.out
        repeat (go_big_quiet_step (fail))
        refine wpQuiet_nil ?_
        rintro _ ⟨t, rfl⟩
        have SF := Lib.hid (S9.out.call (hF t))
        obtain ⟨w9, hu⟩ : ∃ z, F t = z := ⟨_, rfl⟩
        rw [hu] at SF ⊢
        clear c1 c2 hG hu hF hT
        clear t F T
        go_wp2_with fail
        go_roundw
        case rel => exact ⟨j + 1, by omega, by go_num, SF.out⟩
        case measure => simp [intOf]; omega
      · have hv0 : IntKind.u64.wrap y = x := by have := HV.out; rw [if_neg hc, Int.add_zero] at this; exact this
        have hv : IntKind.u64.wrap (y + 0) = x := by rw [Int.add_zero]; exact hv0
        cases cb
        case false =>
          clear hc
          go_upto_region 18 with fail
          refine wp_region_fam2 (by kernel_rfl) (by kernel_rfl) ?_
          intro T F hT hF hG
          have c1 : ∀ t, (F t).cell? ⟨xb, xo + j, none⟩ = some (.int .u64 x) := fun t => ((hF t).cell (p := ⟨xb, xo + j, none⟩) hxb).trans HCXX.out
          have c2 : ∀ t, (F t).cell? ⟨yb, yo + j, none⟩ = some (.int .u64 y) := fun t => ((hF t).cell (p := ⟨yb, yo + j, none⟩) hyb).trans HCYY.out
          repeat (go_big_quiet_step (fail))
          refine wpQuiet_nil ?_
          rintro _ ⟨t, rfl⟩
          have SF := Lib.hid (S9.out.call (hF t))
          obtain ⟨w9, hu⟩ : ∃ z, F t = z := ⟨_, rfl⟩
          rw [hu] at SF ⊢
          clear c1 c2 hG hu hF hT
          clear t F T
          go_wp2_with fail
          go_roundw
          case rel => exact ⟨j + 1, by omega, by go_num, SF.out⟩
          case measure => simp [intOf]; omega
        case true =>
          have hjk' : ((j : Int) == fk) = false := by simp; exact fun h => hc ⟨rfl, h⟩
          clear hc
          go_upto_region 18 with fail
          refine wp_region_fam2 (by kernel_rfl) (by kernel_rfl) ?_
          intro T F hT hF hG
          have c1 : ∀ t, (F t).cell? ⟨xb, xo + j, none⟩ = some (.int .u64 x) := fun t => ((hF t).cell (p := ⟨xb, xo + j, none⟩) hxb).trans HCXX.out
          have c2 : ∀ t, (F t).cell? ⟨yb, yo + j, none⟩ = some (.int .u64 y) := fun t => ((hF t).cell (p := ⟨yb, yo + j, none⟩) hyb).trans HCYY.out
          repeat (go_big_quiet_step (fail))
          refine wpQuiet_nil ?_
          rintro _ ⟨t, rfl⟩
          have SF := Lib.hid (S9.out.call (hF t))
          obtain ⟨w9, hu⟩ : ∃ z, F t = z := ⟨_, rfl⟩
          rw [hu] at SF ⊢
          clear c1 c2 hG hu hF hT
          clear t F T
          go_wp2_with fail
          go_roundw
          case rel => exact ⟨j + 1, by omega, by go_num, SF.out⟩
          case measure => simp [intOf]; omega
end

end Go.Proofs.Ytpcpicfhcfkcnaa
