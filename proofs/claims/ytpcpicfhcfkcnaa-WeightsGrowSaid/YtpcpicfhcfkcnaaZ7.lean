/- Several texts as one: L13g. -/
import Derived.Test.YtpcpicfhcfkcnaaZ3
import Derived.Test.YtpcpicfhcfkcnaaHeld4
import Derived.Test.YtpcpicfhcfkcnaaHeldK
namespace Go.Proofs.Ytpcpicfhcfkcnaa

/-! L13g -/
section
set_option linter.unusedVariables false
set_option linter.unusedSimpArgs false
open Go.RowKit

set_option maxRecDepth 100000

/-- A list besides. -/
structure LwU (w : World) (bt : Nat) (tv lv ev nv : Value) (ns : List NdD) (vs : List VoD) (es bs : List Int) (ov : Value) (os : List Int) (u : World) : Prop where
  s : LwS w bt tv lv ev nv ns vs es bs u
  o : NumsV u ov os

theorem LwU.call {w u u' : World} {bt : Nat} {tv lv ev nv : Value} {ns : List NdD} {vs : List VoD} {es bs : List Int} {ov : Value} {os : List Int} (h : LwU w bt tv lv ev nv ns vs es bs ov os u) (hb : Below u.heap.size u u') : LwU w bt tv lv ev nv ns vs es bs ov os u' :=
  ⟨h.s.call hb, ⟨h.o.1.below hb, h.o.2⟩⟩

set_option maxHeartbeats 32000000 in
theorem walk_WeightsGrow (a0 : Option Addr) (len0 cap0 : Nat) (z0 : List Int) (a1 : Option Addr) (len1 cap1 : Nat) (z1 : List Int) (a2 : Int) (a3 : Int) (w : World) (w0 : IsRow .i64 w a0 len0 cap0 z0) (w1 : IsRow .i64 w a1 len1 cap1 z1) (w2x : (Lit.int .i64 a2).wf = true) (w3x : (Lit.int .u64 a3).wf = true) :
    Calls Try.prog 6 #[.slice a0 len0 cap0, .slice a1 len1 cap1, .int .i64 a2, .int .u64 a3] w fun e w' => e = .returned (.bool true) ∧ Below w.heap.size w w' := by
  have HBL := Lib.hid (fun u (hu : Below w.heap.size w u) => built13_any (.slice a0 len0 cap0) (.slice a1 len1 cap1) _ _ u ((rowInts w0).below hu) ((rowInts w1).below hu))
  have HAW := Lib.hid awake13_any
  have hi1 : (Try.prog.info? 25).map (·.size) = some 1 := by kernel_rfl
  have hi2 : (Try.prog.info? 28).map (·.size) = some 2 := by kernel_rfl
  obtain ⟨hz1, hst1⟩ := zero_array (P := Try.prog) (t := 25) (n := 1) #[.slice none 0 0] (by kernel_rfl) rfl (by kernel_rfl)
  obtain ⟨hz2, hst2⟩ := zero_array (P := Try.prog) (t := 28) (n := 2) #[.slice none 0 0, .slice none 0 0] (by kernel_rfl) rfl (by kernel_rfl)
  clear w0 w1 hst1 hst2
  go_enter Try.func6, Try.ntmps6
  go_upto_region 2 with (first
    | (go_at_call 7; refine (HBL.out _ (Below.refl _ _)).mono ?_; rintro e w1 ⟨tv, lv, ev, nv, n, ns, vs, es, bs, rfl, hn, hv, he, hm, hp, hb⟩; obtain ⟨ta, tc, rfl, _⟩ := hn.shape; obtain ⟨la, lc, rfl, _⟩ := ElV.shape hv; obtain ⟨ea, el, ec, rfl⟩ := ints_shape' he.1; obtain ⟨na, nc, rfl, _⟩ := NumsV.shapeW hm; have HP := Lib.hid hp; have L1 := Lib.hid (LwV.mk hn hv he hm hb); clear hn hv he hm hp hb)
    | ((with_reducible refine at_store (.tmp 9) ?_); refine wpList_store_blk rfl 25 (.tmp 9) _ rfl w1.heap.size #[.slice ta ns.length tc] rfl rfl #[.slice none 0 0] ((Blk.new rfl).alloc _) rfl hi1 (by simp [Value.oneCell']) ?_; intro w2 U2 B2; have HU2 := Lib.hid U2; have HT2 := Lib.hid B2; clear U2 B2)
    | ((with_reducible refine at_store (.tmp 10) ?_); refine wpList_store_blk rfl 28 (.tmp 10) _ rfl (w1.heap.size + 1) #[.slice la vs.length lc, .slice ea el ec] (by first | rfl | simp [Act.eval, Act.put]) rfl #[.slice none 0 0, .slice none 0 0] (HU2.out.blk (Blk.new (by simp)) (by omega)) rfl hi2 (by simp [Value.oneCell']) ?_; intro w3 U3 B3; have S : Hid (LwS w w1.heap.size (.slice ta ns.length tc) (.slice la vs.length lc) (.slice ea el ec) (.slice na bs.length nc) ns vs es bs w3) := lws_new L1.out HT2.out HU2.out U3 B3; clear U3 B3))
  obtain ⟨bt, hbt⟩ : ∃ x, w1.heap.size = x := ⟨_, rfl⟩
  rw [hbt] at S ⊢
  clear hbt L1 HT2 HU2
  (try simp only [Act.put])
  obtain ⟨q, hq⟩ : ∃ q, Hid (bs.length = q) := ⟨_, Lib.hid rfl⟩
  have HM9 : Hid (ns.length ≤ 9) := HP.out.l9
  have hq6 : q ≤ 6 := by rw [← hq.out]; exact HP.out.sm.l6
  obtain ⟨P, hP16, hP⟩ := i64_and16_nat a2
  obtain ⟨P2, hP216, hP2⟩ := u64_and16_nat a3
  rw [hq.out] at S ⊢
  by_cases hq0 : q = 0
  · have hq0' : ((q : Int) == 0) = true := by simp [hq0]
    go_wp2_with (first
      | (go_at_call 15; refine (HAW.out _).mono ?_; rintro e w4 ⟨rfl, hb⟩; have S2 := Lib.hid (S.out.call hb); clear hb))
    go_ret
    exact ⟨rfl, S2.out.l.b⟩
  have hqp : 0 < q := by omega
  have hq0' : ((q : Int) == 0) = false := by simp; omega
  have hq0'' : ¬ (q : Int) = 0 := by omega
  obtain ⟨i, hi⟩ : ∃ x, P % q = x := ⟨_, rfl⟩
  have hri : Int.tmod (P : Int) (q : Int) = (i : Int) := by rw [tmod_nat, hi]
  have hiq : i < q := by rw [← hi]; exact Nat.mod_lt _ hqp
  have hiq' : (i : Int) < q := by omega
  have hib : i < bs.length := by rw [hq.out]; exact hiq
  have hB := HP.out.rng (bs.getD i 0) (by rw [List.getD_eq_getElem?_getD, List.getElem?_eq_getElem hib]; exact List.getElem_mem hib)
  have HGR := Lib.hid (fun (j : Nat) (hj : j < ns.length) => grows HP.out.ok HP.out.sm es hib (d := (P2 : Int)) ⟨by omega, by omega⟩ hj)
  have HSM := Lib.hid (fun (j : Nat) (hj : j < ns.length) => sbt_small HP.out.ok HP.out.sm es hj)
  have HSN := Lib.hid (fun (j : Nat) (hj : j < ns.length) => sbt_small HP.out.ok (HP.out.sm.set i (x := bs.getD i 0 + (P2 : Int)) ⟨by omega, by omega⟩) es hj)
  have hiu : (Try.prog.info? 35).map (·.size) = some 1 := by kernel_rfl
  have HSL : Hid ((bs.set i (bs.getD i 0 + (P2 : Int))).length ≤ 1000000) := by show _ ≤ _; rw [List.length_set]; exact HP.out.small
  have HCD := Lib.hid (fun u (hu : LwV w (.slice ta ns.length tc) (.slice la vs.length lc) (.slice ea el ec) (.slice na q nc) ns vs es bs u) => lw_cdirect HP.out u hu _ bs hu.m HP.out.small)
  have HCO := Lib.hid (fun u (hu : LwV w (.slice ta ns.length tc) (.slice la vs.length lc) (.slice ea el ec) (.slice na q nc) ns vs es bs u) ov (ho : NumsV u ov (bs.set i (bs.getD i 0 + (P2 : Int)))) => lw_cdirect HP.out u hu ov _ ho HSL.out)
  have HCS := Lib.hid (fun u (hu : LwV w (.slice ta ns.length tc) (.slice la vs.length lc) (.slice ea el ec) (.slice na q nc) ns vs es bs u) dv dl hd hl => lw_csub HP.out u hu dv dl hd hl)
  have HDL := Lib.hid (lw_dlen ns vs es bs)
  have HOL := Lib.hid (lw_dlen ns vs es (bs.set i (bs.getD i 0 + (P2 : Int))))
  have HRS : Hid (∀ x ∈ bs.set i (bs.getD i 0 + (P2 : Int)), 0 ≤ x ∧ x ≤ 18446744073709551615) := fun x hx => by have := (HP.out.sm.set i (x := bs.getD i 0 + (P2 : Int)) ⟨by omega, by omega⟩).rng x hx; omega
  have hadd : IntKind.u64.wrap (bs.getD i 0 + (P2 : Int)) = bs.getD i 0 + (P2 : Int) := by rw [IntKind.wrap_u64]; omega
  obtain ⟨B0, hB0⟩ : ∃ z, Hid (bs.getD i 0 = z) := ⟨_, Lib.hid rfl⟩
  rw [hB0.out] at HGR HSN HSL HCO HOL HRS hadd
  obtain ⟨X1, hX1⟩ : ∃ z, B0 + (P2 : Int) = z := ⟨_, rfl⟩
  rw [hX1] at HGR HSN HSL HCO HOL HRS
  have hadd' : IntKind.u64.wrap (B0 + (P2 : Int)) = X1 := by rw [hadd, hX1]
  clear hadd hX1 hB
  obtain ⟨os, hos⟩ : ∃ x, bs.set i X1 = x := ⟨_, rfl⟩
  rw [hos] at HGR HSN HCO HOL HRS
  obtain ⟨dl, hdl⟩ : ∃ x, dirL ns vs es bs ns.length = x := ⟨_, rfl⟩
  rw [hdl] at HGR HSM HCD HDL
  obtain ⟨yl, hyl⟩ : ∃ x, dirL ns vs es os ns.length = x := ⟨_, rfl⟩
  rw [hyl] at HGR HSN HCO HOL
  have HCS1 := Lib.hid (fun u hu dv hd => HCS.out u hu dv dl hd HDL.out)
  have HCS2 := Lib.hid (fun u hu dv hd => HCS.out u hu dv yl hd HOL.out)
  have HXL := Lib.hid (sbtL_len ns dl ns.length)
  have HYL := Lib.hid (sbtL_len ns yl ns.length)
  obtain ⟨xl, hxl⟩ : ∃ x, sbtL ns dl ns.length = x := ⟨_, rfl⟩
  rw [hxl] at HGR HSM HCS1 HXL
  obtain ⟨zl, hzl⟩ : ∃ x, sbtL ns yl ns.length = x := ⟨_, rfl⟩
  rw [hzl] at HGR HSN HCS2 HYL
  clear hi hdl hyl hxl hzl HSL HCS
  go_upto_region 7 with (first
    | ((with_reducible refine at_app (.const (.slice none 0 0)) (.tmp 28) ?_); refine wpList_appK info_u64c (by omega) Try.underlying29 (.const (.slice none 0 0)) (.tmp 28) rfl rfl w3.heap.size (.slice none 0 0) [] rfl (OwnK.nil _ _ _ _) (.slice na q nc) bs rfl S.out.l.m.1 (by have := HP.out.small; simp; omega) (Nat.le_refl _) ?_; intro v4 w4 h4 g4 _; rw [List.nil_append] at h4; obtain ⟨g, c4, rfl, hgB, hrow⟩ := own_row1 h4 (by omega); have HRW := Lib.hid hrow; have HB4 := Lib.hid (below_none g4); have HCG := Lib.hid (hrow.num hib); rw [hB0.out] at HCG; rw [hq.out]; clear hrow h4 g4)
    | ((with_reducible refine at_load (.tmp 39) ?_); refine wpList_load_1 35 (.tmp 39) rfl g i (.int .u64 B0) HCG.out rfl _ Try.underlying35 rfl rfl ?_)
    | ((with_reducible refine at_store (.tmp 44) ?_); refine wpList_store_num rfl 35 (.tmp 44) _ rfl g i .u64 bs X1 HRW.out hib (by first | rfl | simp [Act.eval, Act.put]) rfl hiu ?_; intro w5 U5 B5; rw [hos] at B5; have S5 : Hid (LwU w bt (.slice ta ns.length tc) (.slice la vs.length lc) (.slice ea el ec) (.slice na q nc) ns vs es bs (.slice (some ⟨g, 0, none⟩) q c4) os w5) := ⟨S.out.call (U5.below HB4.out hgB), ⟨B5.ints (by rw [← hos, List.length_set, hq.out]) (by rw [← hos, List.length_set, hq.out]; unfold maxLen; omega), HRS.out⟩⟩; clear U5 B5))
  clear S HRW HB4 HCG hos
  (try simp only [Act.put])
  have HSx0 : Hid ((fun u => LwU w bt (.slice ta ns.length tc) (.slice la vs.length lc) (.slice ea el ec) (.slice na q nc) ns vs es bs (.slice (some ⟨g, 0, none⟩) q c4) os u) w5.drew) := S5.out.call (Below.drewN (n := 1) (Below.refl _ _) : Below w5.heap.size w5 w5.drew)
  refine wp_region_held_drew (S := fun u => LwU w bt (.slice ta ns.length tc) (.slice la vs.length lc) (.slice ea el ec) (.slice na q nc) ns vs es bs (.slice (some ⟨g, 0, none⟩) q c4) os u) (by kernel_rfl) (HSx0.out) (fun _ => ?_)
  (try simp only [Act.put, List.setIfInBounds_toArray, List.set_cons_zero, List.set_cons_succ])
  obtain ⟨x0, hx0⟩ : ∃ x, w5.drew = x := ⟨_, rfl⟩
  rw [hx0] at HSx0 ⊢
  clear hx0
  refine held_load (oi := ⟨some 45, _, _, _, _, _⟩) 0 rfl (by kernel_rfl) (by kernel_rfl) (by kernel_rfl) (fun _ _ _ _ h => h) rfl 25 (.tmp 9) rfl bt (0) rfl [.slice ta ns.length tc] _ (fun u' hu => hu.s.t.range) Try.underlying25 rfl (hi1) HSx0.out ?_
  (try simp only [Act.put, List.setIfInBounds_toArray, List.set_cons_zero, List.set_cons_succ])
  refine held_load (oi := ⟨some 46, _, _, _, _, _⟩) 1 rfl (by kernel_rfl) (by kernel_rfl) (by kernel_rfl) (fun _ _ _ _ h => h) rfl 25 (.tmp 9) rfl bt (0) rfl [.slice ta ns.length tc] _ (fun u' hu => hu.s.t.range) Try.underlying25 rfl (hi1) HSx0.out ?_
  (try simp only [Act.put, List.setIfInBounds_toArray, List.set_cons_zero, List.set_cons_succ])
  refine held_load (oi := ⟨some 47, _, _, _, _, _⟩) 2 rfl (by kernel_rfl) (by kernel_rfl) (by kernel_rfl) (fun _ _ _ _ h => h) rfl 28 (.tmp 10) rfl (bt + 1) (0) rfl [.slice la vs.length lc, .slice ea el ec] _ (fun u' hu => hu.s.x.range) Try.underlying28 rfl (hi2) HSx0.out ?_
  (try simp only [Act.put, List.setIfInBounds_toArray, List.set_cons_zero, List.set_cons_succ])
  refine wpAnyH_take (i := 3) (oi := ⟨some 48, _, _, _, _, _⟩) (v := .slice na q nc) rfl (by kernel_rfl) (by kernel_rfl) (by kernel_rfl) (fun _ _ _ h => h) (Or.inl ⟨by rfl, fun wz hz => ?_⟩) HSx0.out ?_
  · clear hz; go_simp; first | done | with_reducible rfl | rfl
  (try simp only [Act.put, List.setIfInBounds_toArray, List.set_cons_zero, List.set_cons_succ])
  refine held_load (oi := ⟨some 51, _, _, _, _, _⟩) 6 rfl (by kernel_rfl) (by kernel_rfl) (by kernel_rfl) (fun _ _ _ _ h => h) rfl 25 (.tmp 9) rfl bt (0) rfl [.slice ta ns.length tc] _ (fun u' hu => hu.s.t.range) Try.underlying25 rfl (hi1) HSx0.out ?_
  (try simp only [Act.put, List.setIfInBounds_toArray, List.set_cons_zero, List.set_cons_succ])
  refine held_load (oi := ⟨some 52, _, _, _, _, _⟩) 7 rfl (by kernel_rfl) (by kernel_rfl) (by kernel_rfl) (fun _ _ _ _ h => h) rfl 25 (.tmp 9) rfl bt (0) rfl [.slice ta ns.length tc] _ (fun u' hu => hu.s.t.range) Try.underlying25 rfl (hi1) HSx0.out ?_
  (try simp only [Act.put, List.setIfInBounds_toArray, List.set_cons_zero, List.set_cons_succ])
  refine held_load (oi := ⟨some 53, _, _, _, _, _⟩) 8 rfl (by kernel_rfl) (by kernel_rfl) (by kernel_rfl) (fun _ _ _ _ h => h) rfl 28 (.tmp 10) rfl (bt + 1) (0) rfl [.slice la vs.length lc, .slice ea el ec] _ (fun u' hu => hu.s.x.range) Try.underlying28 rfl (hi2) HSx0.out ?_
  (try simp only [Act.put, List.setIfInBounds_toArray, List.set_cons_zero, List.set_cons_succ])
  refine wpAnyH_take (i := 9) (oi := ⟨some 54, _, _, _, _, _⟩) (v := .slice (some ⟨g, 0, none⟩) q c4) rfl (by kernel_rfl) (by kernel_rfl) (by kernel_rfl) (fun _ _ _ h => h) (Or.inl ⟨by rfl, fun wz hz => ?_⟩) HSx0.out ?_
  · clear hz; go_simp; first | done | with_reducible rfl | rfl
  (try simp only [Act.put, List.setIfInBounds_toArray, List.set_cons_zero, List.set_cons_succ])
  refine wpAnyH_ready (rs := [4]) (by kernel_rfl) (by simp) ?_
  refine AllReadyH.cons (o := ⟨some 49, _, _, _, _, _⟩) rfl (fun K hK => ?_) AllReadyH.nil
  go_simp
  refine (HCD.out x0 HSx0.out.s.l).mono ?_
  rintro e x1 ⟨v1, rfl, hd, hb⟩
  have HD := Lib.hid hd
  clear hd
  have HSx1 : Hid ((fun u => LwU w bt (.slice ta ns.length tc) (.slice la vs.length lc) (.slice ea el ec) (.slice na q nc) ns vs es bs (.slice (some ⟨g, 0, none⟩) q c4) os u) x1) := HSx0.out.call hb
  clear hb
  refine hK.out _ _ (HSx1.out) (fun _ => ?_)
  clear hK K
  (try simp only [Act.put, List.setIfInBounds_toArray, List.set_cons_zero, List.set_cons_succ])
  refine wpAnyH_ready (rs := [5]) (by kernel_rfl) (by simp) ?_
  refine AllReadyH.cons (o := ⟨some 50, _, _, _, _, _⟩) rfl (fun K hK => ?_) AllReadyH.nil
  go_simp
  refine (HCS1.out x1 HSx1.out.s.l _ HD.out).mono ?_
  rintro e x2 ⟨dv, rfl, hd, hb⟩
  have HX := Lib.hid hd
  clear hd
  have HSx2 : Hid ((fun u => LwU w bt (.slice ta ns.length tc) (.slice la vs.length lc) (.slice ea el ec) (.slice na q nc) ns vs es bs (.slice (some ⟨g, 0, none⟩) q c4) os u) x2) := HSx1.out.call hb
  clear hb
  refine hK.out _ _ (HSx2.out) (fun _ => ?_)
  clear hK K
  (try simp only [Act.put, List.setIfInBounds_toArray, List.set_cons_zero, List.set_cons_succ])
  refine wpAnyH_ready (rs := [10]) (by kernel_rfl) (by simp) ?_
  refine AllReadyH.cons (o := ⟨some 55, _, _, _, _, _⟩) rfl (fun K hK => ?_) AllReadyH.nil
  go_simp
  refine (HCO.out x2 HSx2.out.s.l _ HSx2.out.o).mono ?_
  rintro e x3 ⟨v2, rfl, hd, hb⟩
  have HE := Lib.hid hd
  clear hd
  have HX := Lib.hid ((⟨HX.out.1.below hb, HX.out.2⟩ : NumsV _ _ _))
  have HSx3 : Hid ((fun u => LwU w bt (.slice ta ns.length tc) (.slice la vs.length lc) (.slice ea el ec) (.slice na q nc) ns vs es bs (.slice (some ⟨g, 0, none⟩) q c4) os u) x3) := HSx2.out.call hb
  clear hb
  refine hK.out _ _ (HSx3.out) (fun _ => ?_)
  clear hK K
  (try simp only [Act.put, List.setIfInBounds_toArray, List.set_cons_zero, List.set_cons_succ])
  refine wpAnyH_ready (rs := [11]) (by kernel_rfl) (by simp) ?_
  refine AllReadyH.cons (o := ⟨some 56, _, _, _, _, _⟩) rfl (fun K hK => ?_) AllReadyH.nil
  go_simp
  refine (HCS2.out x3 HSx3.out.s.l _ HE.out).mono ?_
  rintro e x4 ⟨yv, rfl, hd, hb⟩
  have HY := Lib.hid hd
  clear hd
  have HX := Lib.hid ((⟨HX.out.1.below hb, HX.out.2⟩ : NumsV _ _ _))
  have HSx4 : Hid ((fun u => LwU w bt (.slice ta ns.length tc) (.slice la vs.length lc) (.slice ea el ec) (.slice na q nc) ns vs es bs (.slice (some ⟨g, 0, none⟩) q c4) os u) x4) := HSx3.out.call hb
  clear hb
  refine hK.out _ _ (HSx4.out) (fun _ => ?_)
  clear hK K
  (try simp only [Act.put, List.setIfInBounds_toArray, List.set_cons_zero, List.set_cons_succ])
  refine wpAnyH_ready (rs := [12]) (by kernel_rfl) (by simp) ?_
  refine AllReadyH.cons (o := ⟨some 14, _, _, _, _, _⟩) rfl (fun K hK => ?_) AllReadyH.nil
  go_simp
  refine hK.out _ _ (HSx4.out) (fun _ => ?_)
  clear hK K
  (try simp only [Act.put, List.setIfInBounds_toArray, List.set_cons_zero, List.set_cons_succ])
  refine wpAnyH_ready (rs := [13]) (by kernel_rfl) (by simp) ?_
  refine AllReadyH.cons (o := ⟨some 15, _, _, _, _, _⟩) rfl (fun K hK => ?_) AllReadyH.nil
  go_simp
  refine hK.out _ _ (HSx4.out) (fun _ => ?_)
  clear hK K
  (try simp only [Act.put, List.setIfInBounds_toArray, List.set_cons_zero, List.set_cons_succ])
  refine wpAnyH_done (by kernel_rfl) ?_ _
  obtain ⟨da, dc, rfl, _⟩ := NumsV.shapeW HX.out
  obtain ⟨ya, yc, rfl, _⟩ := NumsV.shapeW HY.out
  rw [HXL.out] at HX ⊢
  rw [HYL.out] at HY ⊢
  have SX : Hid (LwD w bt (.slice ta ns.length tc) (.slice la vs.length lc) (.slice ea el ec) (.slice na q nc) ns vs es bs (.slice da ns.length dc) (.slice ya ns.length yc) xl zl x4) := ⟨HSx4.out.s, HX.out, HY.out⟩
  clear S5 HX HY HD HE HCD HCO HCS1 HCS2 HSx0 HSx1 HSx2 HSx3 HSx4
  obtain ⟨m, hm⟩ : ∃ m, Hid (ns.length = m) := ⟨_, Lib.hid rfl⟩
  rw [hm.out] at SX HXL HYL HM9 HGR HSM HSN ⊢
  have hm9 : m ≤ 9 := HM9.out
  have hnn : ((m : Int) == (m : Int)) = true := by simp
  have HC0 := Lib.hid (SX.out.s.t.cell 0)
  (try simp only [Act.put])
  go_upto_region 10 with (first
    | ((with_reducible refine at_load (.tmp 59) ?_); refine wpList_load_1 23 (.tmp 59) rfl bt 0 (.slice ta m tc) HC0.out rfl _ Try.underlying23 rfl rfl ?_)
    | ((with_reducible refine at_load (.tmp 66) ?_); refine wpList_load_1 23 (.tmp 66) rfl bt 0 (.slice ta m tc) HC0.out rfl _ Try.underlying23 rfl rfl ?_))
  (try simp only [Act.put])
  go_wp2_with fail
  go_loopw [16] (fun nv' wr => ∃ j : Nat, j ≤ m ∧ nv' = .int .i64 j ∧ LwD w bt (.slice ta m tc) (.slice la vs.length lc) (.slice ea el ec) (.slice na q nc) ns vs es bs (.slice da m dc) (.slice ya m yc) xl zl wr) (fun nv' _ => m - (intOf nv').toNat)
  case atStart => exact ⟨0, Nat.zero_le _, rfl, SX.out⟩
  case round =>
    obtain ⟨j, hj, rfl, hs⟩ := hrel
    have S9 := Lib.hid hs
    clear hs SX
    by_cases hlt : j < m
    case neg =>
      obtain rfl : j = m := by omega
      go_wp2_with (first
        | (go_at_call 15; refine (HAW.out _).mono ?_; rintro e w9 ⟨rfl, hb⟩; have SE := Lib.hid (S9.out.call hb); clear hb))
      go_ret
      exact ⟨rfl, SE.out.s.l.b⟩
    have hlt' : (j : Int) < m := by omega
    have hgr := HGR.out j hlt
    have hsm := HSM.out j hlt
    have hsn := HSN.out j hlt
    obtain ⟨xb, xo, hxa, hxb, hcx⟩ := NumsV.elemW S9.out.d (k := j) (by rw [HXL.out]; exact hlt)
    obtain ⟨yb, yo, hya, hyb, hcy⟩ := NumsV.elemW S9.out.e (k := j) (by rw [HYL.out]; exact hlt)
    subst hxa
    subst hya
    obtain ⟨x, hx⟩ : ∃ z, xl.getD j 0 = z := ⟨_, rfl⟩
    obtain ⟨y, hy⟩ : ∃ z, zl.getD j 0 = z := ⟨_, rfl⟩
    rw [hx] at hcx hgr hsm
    rw [hy] at hcy hgr hsn
    have HCXX := Lib.hid hcx
    have HCYY := Lib.hid hcy
    have hyx : ¬ y < x := by omega
    have hyx' : decide (y < x) = false := decide_eq_false hyx
    have hsub : IntKind.u64.wrap (y - x) = y - x := by rw [IntKind.wrap_u64]; omega
    obtain ⟨dd, hdd⟩ : ∃ z, y - x = z := ⟨_, rfl⟩
    rw [hdd] at hgr
    have hsub' : IntKind.u64.wrap (y - x) = dd := by rw [hsub, hdd]
    have hgt : ¬ ((P2 : Int) < dd) := by omega
    have hgt' : decide ((P2 : Int) < dd) = false := decide_eq_false hgt
    clear hcx hcy hx hy hgr hsm hsn hsub hdd
    go_wp2_with fail
    refine wp_region_fam2 (by kernel_rfl) (by kernel_rfl) ?_
    intro T F hT hF hG
    have c1 : ∀ t, (F t).cell? ⟨xb, xo + j, none⟩ = some (.int .u64 x) := fun t => ((hF t).cell (p := ⟨xb, xo + j, none⟩) hxb).trans HCXX.out
    have c2 : ∀ t, (F t).cell? ⟨yb, yo + j, none⟩ = some (.int .u64 y) := fun t => ((hF t).cell (p := ⟨yb, yo + j, none⟩) hyb).trans HCYY.out
    repeat (go_big_quiet_step (fail))
    refine wpQuiet_nil ?_
    rintro _ ⟨t, rfl⟩
    have SF := Lib.hid (S9.out.call (hF t))
    obtain ⟨w9, hu⟩ : ∃ z, F t = z := ⟨_, rfl⟩
    rw [hu] at SF ⊢
    clear c1 c2 hG hu hF hT
    clear t F T
    go_wp2_with fail
    go_roundw
    case rel => exact ⟨j + 1, by omega, by go_num, SF.out⟩
    case measure => simp [intOf]; omega
end

end Go.Proofs.Ytpcpicfhcfkcnaa
