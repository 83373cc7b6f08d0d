/- Several texts as one: L13e. -/
import Derived.Test.YtpcpicfhcfkcnaaZ3
import Derived.Test.YtpcpicfhcfkcnaaHeld4
import Derived.Test.YtpcpicfhcfkcnaaHeldK
namespace Go.Proofs.Ytpcpicfhcfkcnaa

/-! L13e -/
section
set_option linter.unusedVariables false
set_option linter.unusedSimpArgs false
open Go.RowKit

set_option maxRecDepth 100000

set_option maxHeartbeats 32000000 in
theorem walk_WeightsExact (a0 : Option Addr) (len0 cap0 : Nat) (z0 : List Int) (a1 : Option Addr) (len1 cap1 : Nat) (z1 : List Int) (w : World) (w0 : IsRow .i64 w a0 len0 cap0 z0) (w1 : IsRow .i64 w a1 len1 cap1 z1) :
    Calls Try.prog 3 #[.slice a0 len0 cap0, .slice a1 len1 cap1] w fun e w' => e = .returned (.bool true) ∧ Below w.heap.size w w' := by
  have HBL := Lib.hid (fun u (hu : Below w.heap.size w u) => built13_any (.slice a0 len0 cap0) (.slice a1 len1 cap1) _ _ u ((rowInts w0).below hu) ((rowInts w1).below hu))
  have HAW := Lib.hid awake13_any
  have hi1 : (Try.prog.info? 25).map (·.size) = some 1 := by kernel_rfl
  have hi2 : (Try.prog.info? 28).map (·.size) = some 2 := by kernel_rfl
  obtain ⟨hz1, hst1⟩ := zero_array (P := Try.prog) (t := 25) (n := 1) #[.slice none 0 0] (by kernel_rfl) rfl (by kernel_rfl)
  obtain ⟨hz2, hst2⟩ := zero_array (P := Try.prog) (t := 28) (n := 2) #[.slice none 0 0, .slice none 0 0] (by kernel_rfl) rfl (by kernel_rfl)
  clear w0 w1 hst1 hst2
  go_enter Try.func3, Try.ntmps3
  go_upto_region 2 with (first
    | (go_at_call 7; refine (HBL.out _ (Below.refl _ _)).mono ?_; rintro e w1 ⟨tv, lv, ev, nv, n, ns, vs, es, bs, rfl, hn, hv, he, hm, hp, hb⟩; obtain ⟨ta, tc, rfl, _⟩ := hn.shape; obtain ⟨la, lc, rfl, _⟩ := ElV.shape hv; obtain ⟨ea, el, ec, rfl⟩ := ints_shape' he.1; obtain ⟨na, nc, rfl, _⟩ := NumsV.shapeW hm; have HP := Lib.hid hp; have L1 := Lib.hid (LwV.mk hn hv he hm hb); clear hn hv he hm hp hb)
    | ((with_reducible refine at_store (.tmp 5) ?_); refine wpList_store_blk rfl 25 (.tmp 5) _ rfl w1.heap.size #[.slice ta ns.length tc] rfl rfl #[.slice none 0 0] ((Blk.new rfl).alloc _) rfl hi1 (by simp [Value.oneCell']) ?_; intro w2 U2 B2; have HU2 := Lib.hid U2; have HT2 := Lib.hid B2; clear U2 B2)
    | ((with_reducible refine at_store (.tmp 6) ?_); refine wpList_store_blk rfl 28 (.tmp 6) _ rfl (w1.heap.size + 1) #[.slice la vs.length lc, .slice ea el ec] (by first | rfl | simp [Act.eval, Act.put]) rfl #[.slice none 0 0, .slice none 0 0] (HU2.out.blk (Blk.new (by simp)) (by omega)) rfl hi2 (by simp [Value.oneCell']) ?_; intro w3 U3 B3; have S : Hid (LwS w w1.heap.size (.slice ta ns.length tc) (.slice la vs.length lc) (.slice ea el ec) (.slice na bs.length nc) ns vs es bs w3) := lws_new L1.out HT2.out HU2.out U3 B3; clear U3 B3))
  obtain ⟨bt, hbt⟩ : ∃ x, w1.heap.size = x := ⟨_, rfl⟩
  rw [hbt] at S ⊢
  clear hbt L1 HT2 HU2
  (try simp only [Act.put])
  have HCD := Lib.hid (fun u (hu : LwV w (.slice ta ns.length tc) (.slice la vs.length lc) (.slice ea el ec) (.slice na bs.length nc) ns vs es bs u) => lw_cdirect HP.out u hu _ bs hu.m HP.out.small)
  have HRD := Lib.hid (fun u (hu : LwV w (.slice ta ns.length tc) (.slice la vs.length lc) (.slice ea el ec) (.slice na bs.length nc) ns vs es bs u) => lw_direct HP.out u hu)
  have HDL := Lib.hid (lw_dlen ns vs es bs)
  have HCS := Lib.hid (fun u (hu : LwV w (.slice ta ns.length tc) (.slice la vs.length lc) (.slice ea el ec) (.slice na bs.length nc) ns vs es bs u) dv dl hd hl => lw_csub HP.out u hu dv dl hd hl)
  have HRS := Lib.hid (fun u (hu : LwV w (.slice ta ns.length tc) (.slice la vs.length lc) (.slice ea el ec) (.slice na bs.length nc) ns vs es bs u) dv dl hd hl => lw_sub HP.out u hu dv dl hd hl)
  have HCT := Lib.hid (fun u (hu : LwV w (.slice ta ns.length tc) (.slice la vs.length lc) (.slice ea el ec) (.slice na bs.length nc) ns vs es bs u) => ctotal_any (.slice la vs.length lc) (.slice ea el ec) (.slice na bs.length nc) es bs u hu.e hu.m HP.out.small)
  have HRT := Lib.hid (fun u (hu : LwV w (.slice ta ns.length tc) (.slice la vs.length lc) (.slice ea el ec) (.slice na bs.length nc) ns vs es bs u) => total_any (.slice la vs.length lc) (.slice ea el ec) (.slice na bs.length nc) es bs u hu.e hu.m)
  have HSM := Lib.hid lw_same
  obtain ⟨dl, hdl⟩ : ∃ x, dirL ns vs es bs ns.length = x := ⟨_, rfl⟩
  obtain ⟨tt, htt⟩ : ∃ x, totK es bs bs.length = x := ⟨_, rfl⟩
  rw [hdl] at HCD HRD HDL
  rw [htt] at HCT HRT
  clear hdl htt
  go_upto_region 4 with (first
    | ((with_reducible refine at_load (.tmp 5) ?_); refine wpList_load_g 25 (.tmp 5) rfl bt rfl #[.slice ta ns.length tc] _ S.out.t Try.underlying25 rfl hi1 rfl ?_)
    | ((with_reducible refine at_load (.tmp 6) ?_); refine wpList_load_g 28 (.tmp 6) rfl (bt + 1) (by first | rfl | simp [Act.eval, Act.put]) #[.slice la vs.length lc, .slice ea el ec] _ S.out.x Try.underlying28 rfl hi2 rfl ?_)
    | (go_at_call 8; refine (HCD.out _ S.out.l).mono ?_; rintro e w4 ⟨dv, rfl, hd, hb⟩; have HD := Lib.hid hd; have S := Lib.hid (S.out.call hb); clear hd hb)
    | (go_at_call 9; refine (HRD.out _ S.out.l).mono ?_; rintro e w5 ⟨wv, rfl, hd, hb⟩; have SX := Lib.hid (LwD.mk (S.out.call hb) ⟨HD.out.1.below hb, HD.out.2⟩ hd); clear hd hb))
  clear S HD HCD HRD
  have HSx0 : Hid ((fun u => LwD w bt (.slice ta ns.length tc) (.slice la vs.length lc) (.slice ea el ec) (.slice na bs.length nc) ns vs es bs dv wv dl dl u) w5.drew) := SX.out.call (Below.drewN (n := 1) (Below.refl _ _) : Below w5.heap.size w5 w5.drew)
  refine wp_region_held_drew (S := fun u => LwD w bt (.slice ta ns.length tc) (.slice la vs.length lc) (.slice ea el ec) (.slice na bs.length nc) ns vs es bs dv wv dl dl u) (by kernel_rfl) (HSx0.out) (fun _ => ?_)
  (try simp only [Act.put, List.setIfInBounds_toArray, List.set_cons_zero, List.set_cons_succ])
  obtain ⟨x0, hx0⟩ : ∃ x, w5.drew = x := ⟨_, rfl⟩
  rw [hx0] at HSx0 ⊢
  clear hx0
  refine wpAnyH_take (i := 0) (oi := ⟨some 25, _, _, _, _, _⟩) (v := dv) rfl (by kernel_rfl) (by kernel_rfl) (by kernel_rfl) (fun _ _ _ h => h) (Or.inl ⟨by rfl, fun wz hz => ?_⟩) HSx0.out ?_
  · clear hz; go_simp; first | done | with_reducible rfl | rfl
  (try simp only [Act.put, List.setIfInBounds_toArray, List.set_cons_zero, List.set_cons_succ])
  refine wpAnyH_take (i := 1) (oi := ⟨some 26, _, _, _, _, _⟩) (v := wv) rfl (by kernel_rfl) (by kernel_rfl) (by kernel_rfl) (fun _ _ _ h => h) (Or.inl ⟨by rfl, fun wz hz => ?_⟩) HSx0.out ?_
  · clear hz; go_simp; first | done | with_reducible rfl | rfl
  (try simp only [Act.put, List.setIfInBounds_toArray, List.set_cons_zero, List.set_cons_succ])
  refine wpAnyH_ready (rs := [2]) (by kernel_rfl) (by simp) ?_
  refine AllReadyH.cons (o := ⟨some 27, _, _, _, _, _⟩) rfl (fun K hK => ?_) AllReadyH.nil
  go_simp
  refine (HSM.out dv wv dl x0 HSx0.out.d HSx0.out.e).mono ?_
  rintro e x1 ⟨rfl, hb⟩
  have HSx1 : Hid ((fun u => LwD w bt (.slice ta ns.length tc) (.slice la vs.length lc) (.slice ea el ec) (.slice na bs.length nc) ns vs es bs dv wv dl dl u) x1) := HSx0.out.call hb
  clear hb
  refine hK.out _ _ (HSx1.out) (fun _ => ?_)
  clear hK K
  (try simp only [Act.put, List.setIfInBounds_toArray, List.set_cons_zero, List.set_cons_succ])
  refine wpAnyH_take (i := 3) (oi := ⟨some 28, _, _, _, _, _⟩) (v := .bool true) rfl (by kernel_rfl) (by kernel_rfl) (by kernel_rfl) (fun _ _ _ h => h) (Or.inl ⟨by rfl, fun wz hz => ?_⟩) HSx1.out ?_
  · clear hz; go_simp; first | done | with_reducible rfl | rfl
  (try simp only [Act.put, List.setIfInBounds_toArray, List.set_cons_zero, List.set_cons_succ])
  refine held_load (oi := ⟨some 29, _, _, _, _, _⟩) 4 rfl (by kernel_rfl) (by kernel_rfl) (by kernel_rfl) (fun _ _ _ _ h => h) rfl 25 (.tmp 5) rfl bt (0) rfl [.slice ta ns.length tc] _ (fun u' hu => hu.s.t.range) Try.underlying25 rfl (hi1) HSx1.out ?_
  (try simp only [Act.put, List.setIfInBounds_toArray, List.set_cons_zero, List.set_cons_succ])
  refine wpAnyH_take (i := 5) (oi := ⟨some 30, _, _, _, _, _⟩) (v := wv) rfl (by kernel_rfl) (by kernel_rfl) (by kernel_rfl) (fun _ _ _ h => h) (Or.inl ⟨by rfl, fun wz hz => ?_⟩) HSx1.out ?_
  · clear hz; go_simp; first | done | with_reducible rfl | rfl
  (try simp only [Act.put, List.setIfInBounds_toArray, List.set_cons_zero, List.set_cons_succ])
  refine held_load (oi := ⟨some 32, _, _, _, _, _⟩) 7 rfl (by kernel_rfl) (by kernel_rfl) (by kernel_rfl) (fun _ _ _ _ h => h) rfl 25 (.tmp 5) rfl bt (0) rfl [.slice ta ns.length tc] _ (fun u' hu => hu.s.t.range) Try.underlying25 rfl (hi1) HSx1.out ?_
  (try simp only [Act.put, List.setIfInBounds_toArray, List.set_cons_zero, List.set_cons_succ])
  refine wpAnyH_take (i := 8) (oi := ⟨some 33, _, _, _, _, _⟩) (v := wv) rfl (by kernel_rfl) (by kernel_rfl) (by kernel_rfl) (fun _ _ _ h => h) (Or.inl ⟨by rfl, fun wz hz => ?_⟩) HSx1.out ?_
  · clear hz; go_simp; first | done | with_reducible rfl | rfl
  (try simp only [Act.put, List.setIfInBounds_toArray, List.set_cons_zero, List.set_cons_succ])
  refine wpAnyH_ready (rs := [6]) (by kernel_rfl) (by simp) ?_
  refine AllReadyH.cons (o := ⟨some 31, _, _, _, _, _⟩) rfl (fun K hK => ?_) AllReadyH.nil
  go_simp
  refine (HCS.out x1 HSx1.out.s.l wv dl HSx1.out.e HDL.out).mono ?_
  rintro e x2 ⟨v1, rfl, hc1, hb⟩
  have HC1 := Lib.hid hc1
  clear hc1
  have HSx2 : Hid ((fun u => LwD w bt (.slice ta ns.length tc) (.slice la vs.length lc) (.slice ea el ec) (.slice na bs.length nc) ns vs es bs dv wv dl dl u) x2) := HSx1.out.call hb
  clear hb
  refine hK.out _ _ (HSx2.out) (fun _ => ?_)
  clear hK K
  (try simp only [Act.put, List.setIfInBounds_toArray, List.set_cons_zero, List.set_cons_succ])
  refine wpAnyH_ready (rs := [9]) (by kernel_rfl) (by simp) ?_
  refine AllReadyH.cons (o := ⟨some 34, _, _, _, _, _⟩) rfl (fun K hK => ?_) AllReadyH.nil
  go_simp
  refine (HRS.out x2 HSx2.out.s.l wv dl HSx2.out.e HDL.out).mono ?_
  rintro e x3 ⟨v2, rfl, hc2, hb⟩
  have HC2 := Lib.hid hc2
  clear hc2
  have HC1 := Lib.hid ((⟨HC1.out.1.below hb, HC1.out.2⟩ : NumsV _ _ _))
  have HSx3 : Hid ((fun u => LwD w bt (.slice ta ns.length tc) (.slice la vs.length lc) (.slice ea el ec) (.slice na bs.length nc) ns vs es bs dv wv dl dl u) x3) := HSx2.out.call hb
  clear hb
  refine hK.out _ _ (HSx3.out) (fun _ => ?_)
  clear hK K
  (try simp only [Act.put, List.setIfInBounds_toArray, List.set_cons_zero, List.set_cons_succ])
  refine wpAnyH_ready (rs := [10]) (by kernel_rfl) (by simp) ?_
  refine AllReadyH.cons (o := ⟨some 35, _, _, _, _, _⟩) rfl (fun K hK => ?_) AllReadyH.nil
  go_simp
  refine (HSM.out v1 v2 (sbtL ns dl ns.length) x3 HC1.out HC2.out).mono ?_
  rintro e x4 ⟨rfl, hb⟩
  have HSx4 : Hid ((fun u => LwD w bt (.slice ta ns.length tc) (.slice la vs.length lc) (.slice ea el ec) (.slice na bs.length nc) ns vs es bs dv wv dl dl u) x4) := HSx3.out.call hb
  clear hb
  refine hK.out _ _ (HSx4.out) (fun _ => ?_)
  clear hK K
  (try simp only [Act.put, List.setIfInBounds_toArray, List.set_cons_zero, List.set_cons_succ])
  refine wpAnyH_take (i := 11) (oi := ⟨some 36, _, _, _, _, _⟩) (v := .bool true) rfl (by kernel_rfl) (by kernel_rfl) (by kernel_rfl) (fun _ _ _ h => h) (Or.inl ⟨by rfl, fun wz hz => ?_⟩) HSx4.out ?_
  · clear hz; go_simp; first | done | with_reducible rfl | rfl
  (try simp only [Act.put, List.setIfInBounds_toArray, List.set_cons_zero, List.set_cons_succ])
  refine wpAnyH_take (i := 12) (oi := ⟨some 37, _, _, _, _, _⟩) (v := .bool true) rfl (by kernel_rfl) (by kernel_rfl) (by kernel_rfl) (fun _ _ _ h => h) (Or.inl ⟨by rfl, fun wz hz => ?_⟩) HSx4.out ?_
  · clear hz; go_simp; first | done | with_reducible rfl | rfl
  (try simp only [Act.put, List.setIfInBounds_toArray, List.set_cons_zero, List.set_cons_succ])
  refine held_load (oi := ⟨some 38, _, _, _, _, _⟩) 13 rfl (by kernel_rfl) (by kernel_rfl) (by kernel_rfl) (fun _ _ _ _ h => h) rfl 28 (.tmp 6) rfl (bt + 1) (0) rfl [.slice la vs.length lc, .slice ea el ec] _ (fun u' hu => hu.s.x.range) Try.underlying28 rfl (hi2) HSx4.out ?_
  (try simp only [Act.put, List.setIfInBounds_toArray, List.set_cons_zero, List.set_cons_succ])
  refine wpAnyH_take (i := 14) (oi := ⟨some 39, _, _, _, _, _⟩) (v := .slice na bs.length nc) rfl (by kernel_rfl) (by kernel_rfl) (by kernel_rfl) (fun _ _ _ h => h) (Or.inl ⟨by rfl, fun wz hz => ?_⟩) HSx4.out ?_
  · clear hz; go_simp; first | done | with_reducible rfl | rfl
  (try simp only [Act.put, List.setIfInBounds_toArray, List.set_cons_zero, List.set_cons_succ])
  refine held_load (oi := ⟨some 41, _, _, _, _, _⟩) 16 rfl (by kernel_rfl) (by kernel_rfl) (by kernel_rfl) (fun _ _ _ _ h => h) rfl 28 (.tmp 6) rfl (bt + 1) (0) rfl [.slice la vs.length lc, .slice ea el ec] _ (fun u' hu => hu.s.x.range) Try.underlying28 rfl (hi2) HSx4.out ?_
  (try simp only [Act.put, List.setIfInBounds_toArray, List.set_cons_zero, List.set_cons_succ])
  refine wpAnyH_take (i := 17) (oi := ⟨some 42, _, _, _, _, _⟩) (v := .slice na bs.length nc) rfl (by kernel_rfl) (by kernel_rfl) (by kernel_rfl) (fun _ _ _ h => h) (Or.inl ⟨by rfl, fun wz hz => ?_⟩) HSx4.out ?_
  · clear hz; go_simp; first | done | with_reducible rfl | rfl
  (try simp only [Act.put, List.setIfInBounds_toArray, List.set_cons_zero, List.set_cons_succ])
  refine wpAnyH_ready (rs := [15]) (by kernel_rfl) (by simp) ?_
  refine AllReadyH.cons (o := ⟨some 40, _, _, _, _, _⟩) rfl (fun K hK => ?_) AllReadyH.nil
  go_simp
  refine (HCT.out x4 HSx4.out.s.l).mono ?_
  rintro e x5 ⟨rfl, hb⟩
  have HSx5 : Hid ((fun u => LwD w bt (.slice ta ns.length tc) (.slice la vs.length lc) (.slice ea el ec) (.slice na bs.length nc) ns vs es bs dv wv dl dl u) x5) := HSx4.out.call hb
  clear hb
  refine hK.out _ _ (HSx5.out) (fun _ => ?_)
  clear hK K
  (try simp only [Act.put, List.setIfInBounds_toArray, List.set_cons_zero, List.set_cons_succ])
  refine wpAnyH_ready (rs := [18]) (by kernel_rfl) (by simp) ?_
  refine AllReadyH.cons (o := ⟨some 43, _, _, _, _, _⟩) rfl (fun K hK => ?_) AllReadyH.nil
  go_simp
  refine (HRT.out x5 HSx5.out.s.l).mono ?_
  rintro e x6 ⟨rfl, hb⟩
  have HSx6 : Hid ((fun u => LwD w bt (.slice ta ns.length tc) (.slice la vs.length lc) (.slice ea el ec) (.slice na bs.length nc) ns vs es bs dv wv dl dl u) x6) := HSx5.out.call hb
  clear hb
  refine hK.out _ _ (HSx6.out) (fun _ => ?_)
  clear hK K
  (try simp only [Act.put, List.setIfInBounds_toArray, List.set_cons_zero, List.set_cons_succ])
  refine wpAnyH_take (i := 19) (oi := ⟨some 44, _, _, _, _, _⟩) (v := .bool true) rfl (by kernel_rfl) (by kernel_rfl) (by kernel_rfl) (fun _ _ _ h => h) (Or.inl ⟨by rfl, fun wz hz => ?_⟩) HSx6.out ?_
  · clear hz; go_simp; first | done | with_reducible rfl | rfl
  (try simp only [Act.put, List.setIfInBounds_toArray, List.set_cons_zero, List.set_cons_succ])
  refine wpAnyH_take (i := 20) (oi := ⟨some 45, _, _, _, _, _⟩) (v := .bool true) rfl (by kernel_rfl) (by kernel_rfl) (by kernel_rfl) (fun _ _ _ h => h) (Or.inl ⟨by rfl, fun wz hz => ?_⟩) HSx6.out ?_
  · clear hz; go_simp; first | done | with_reducible rfl | rfl
  (try simp only [Act.put, List.setIfInBounds_toArray, List.set_cons_zero, List.set_cons_succ])
  refine wpAnyH_take (i := 21) (oi := ⟨some 46, _, _, _, _, _⟩) (v := .bool true) rfl (by kernel_rfl) (by kernel_rfl) (by kernel_rfl) (fun _ _ _ h => h) (Or.inl ⟨by rfl, fun wz hz => ?_⟩) HSx6.out ?_
  · clear hz; go_simp; first | done | with_reducible rfl | rfl
  (try simp only [Act.put, List.setIfInBounds_toArray, List.set_cons_zero, List.set_cons_succ])
  refine wpAnyH_ready (rs := [22]) (by kernel_rfl) (by simp) ?_
  refine AllReadyH.cons (o := ⟨some 47, _, _, _, _, _⟩) rfl (fun K hK => ?_) AllReadyH.nil
  go_simp
  refine (HAW.out x6).mono ?_
  rintro e x7 ⟨rfl, hb⟩
  have HSx7 : Hid ((fun u => LwD w bt (.slice ta ns.length tc) (.slice la vs.length lc) (.slice ea el ec) (.slice na bs.length nc) ns vs es bs dv wv dl dl u) x7) := HSx6.out.call hb
  clear hb
  refine hK.out _ _ (HSx7.out) (fun _ => ?_)
  clear hK K
  (try simp only [Act.put, List.setIfInBounds_toArray, List.set_cons_zero, List.set_cons_succ])
  refine wpAnyH_take (i := 23) (oi := ⟨some 48, _, _, _, _, _⟩) (v := .bool true) rfl (by kernel_rfl) (by kernel_rfl) (by kernel_rfl) (fun _ _ _ h => h) (Or.inl ⟨by rfl, fun wz hz => ?_⟩) HSx7.out ?_
  · clear hz; go_simp; first | done | with_reducible rfl | rfl
  (try simp only [Act.put, List.setIfInBounds_toArray, List.set_cons_zero, List.set_cons_succ])
  refine wpAnyH_ready (rs := [24]) (by kernel_rfl) (by simp) ?_
  refine AllReadyH.cons (o := ⟨some 4, _, _, _, _, _⟩) rfl (fun K hK => ?_) AllReadyH.nil
  go_simp
  refine hK.out _ _ (HSx7.out) (fun _ => ?_)
  clear hK K
  (try simp only [Act.put, List.setIfInBounds_toArray, List.set_cons_zero, List.set_cons_succ])
  refine wpAnyH_done (by kernel_rfl) ?_ _
  go_wp2_with fail
  go_ret
  exact ⟨rfl, HSx7.out.s.l.b⟩
end

end Go.Proofs.Ytpcpicfhcfkcnaa
