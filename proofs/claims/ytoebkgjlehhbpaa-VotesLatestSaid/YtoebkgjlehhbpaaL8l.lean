/- VotesLatest. -/
import Derived.Test.YtoebkgjlehhbpaaL8c
set_option linter.unusedVariables false

set_option linter.unusedSimpArgs false
namespace Go.Proofs.Ytoebkgjlehhbpaa
open Go.RowKit

set_option maxRecDepth 100000

theorem cast_same1 {v : VoD} {x : Int} {r : List Int} (h1 : v.has = true) (h2 : x ≤ v.n) : castR [v] x r [0] = ([v], 0) ∧ vlE [0] [v].length = 0 := by
  refine ⟨?_, rfl⟩
  rw [castR_yes rfl]
  show castI x r ([v], 0) ((0 : Nat) : Int) = _
  rw [castI_same (T := [v]) (n := 0) (j := 0) h1 h2]

theorem cast_new1 {v : VoD} {x : Int} {r : List Int} (h : ¬ (v.has = true ∧ x ≤ v.n)) : castR [v] x r [0] = ([⟨true, x, r⟩], 1) ∧ vlE [0] [v].length = 0 := by
  refine ⟨?_, rfl⟩
  rw [castR_yes rfl]
  show castI x r ([v], 0) ((0 : Nat) : Int) = _
  rw [castI_new (T := [v]) (n := 0) (j := 0) h]; rfl

theorem bs_one (u : World) : (Instr.buildSlice 35 1 #[(0, .int .i64 0)]).run Try.prog u = .ok (.slice (some ⟨u.heap.size, 0, none⟩) 1 1) (u.alloc (.cells #[.int .i64 0] 3)) := by
  go_simp

/-- A struct that is built, in a region that draws its order and is walked once. -/
theorem wpQuiet_build {P : Program} {ops : Array Oper} {C : World → Prop} {Q : Act → Prop} {o : Oper} {rest : List Oper} {a : Act} (t : TypeId) (ps : Array (Nat × Operand)) (ho : o.op = .build t ps) (ps' : Array (Nat × Value)) (hps : ps.map (fun (i, x) => (i, a.eval x)) = ps') (v : Value)
    (hC : ∀ w, (Instr.build t ps').run P w = .ok v w) (hw : Region.wanted o (yielded ops a.tmps) = true) (h : wpQuiet P ops C Q rest (a.put o.dst v)) : wpQuiet P ops C Q (o :: rest) a := by
  refine BigFrame.wpQuiet_want hw fun K hK => ⟨v, fun w hw' => ?_, hK _ h⟩
  unfold Oper.quietAt execOp
  simp only [ho, hps, Sem.run_bind, Sem.run_pure, Result.andThen_ok, hC w]
  exact ⟨rfl, rfl⟩

theorem at_qbuild {P : Program} {ops : Array Oper} {C : World → Prop} {Q : Act → Prop} (dst : Option Tmp) {t ty' : TypeId} {ps : Array (Nat × Operand)} {pos : String} {aft : Array Edge} {g : Option (Nat × Bool)} {rest : List Oper} {a : Act}
    (h : wpQuiet P ops C Q (⟨dst, .build t ps, ty', pos, aft, g⟩ :: rest) a) : wpQuiet P ops C Q (⟨dst, .build t ps, ty', pos, aft, g⟩ :: rest) a := h

theorem eq_vself {v : VoD} (h : v.ok) (w : World) : Sem.run Try.prog (Op.equalIn 10000 33 (.agg v.cells.toArray) (.agg v.cells.toArray)) w = .ok true w := by
  obtain ⟨r, h1, h2⟩ := eq_vo h h
  rw [h1 w, h2.2 rfl]

def LatI (w : World) (l : List Int) (best i : Value) (wr : World) : Prop :=
  ∃ k : Nat, k ≤ l.length ∧ i = .int .i64 k ∧ Below w.heap.size w wr ∧ ((k = 0 ∧ best = .int .i64 (-1) ∧ VtI wr (w.heap.size + 1) w.heap.size [zeV]) ∨ ∃ j : Nat, j < k ∧ best = .int .i64 j ∧ VtI wr (w.heap.size + 1) w.heap.size [⟨true, l.getD j 0, rootK ((j : Int) + 1)⟩])

theorem VtI.drewN {w : World} {b g n : Nat} {vs : List VoD} (h : VtI w b g vs) : VtI (w.drewN n) b g vs := ⟨h.blk, h.row, h.ok, h.len, h.ne⟩

theorem LatI.drewN {w : World} {l : List Int} {best i : Value} {wr : World} {n : Nat} (h : LatI w l best i wr) : LatI w l best i (wr.drewN n) := by
  obtain ⟨k, h1, h2, h3, h4⟩ := h
  refine ⟨k, h1, h2, Below.drewN h3, ?_⟩
  rcases h4 with ⟨a, b, c⟩ | ⟨j, a, b, c⟩
  · exact .inl ⟨a, b, c.drewN⟩
  · exact .inr ⟨j, a, b, c.drewN⟩

set_option maxHeartbeats 8000000 in
theorem walk_VotesLatest (a0 : Option Addr) (len0 cap0 : Nat) (z0 : List Int) (w : World) (w0 : IsRow .u64 w a0 len0 cap0 z0) :
    Calls Try.prog 5 #[.slice a0 len0 cap0] w fun e w' => e = .returned (.bool true) ∧ Below w.heap.size w w' := by
  have HA := Lib.hid awake8_any
  have HROW := Lib.hid w0.ints.1
  have HWF := Lib.hid w0.ints.2
  have hmx : len0 ≤ maxLen := by obtain ⟨a, n, c, e, _, hm, _⟩ := HROW.out; cases e; exact hm
  have hll : (z0.take len0).length = len0 := by obtain ⟨a, n, c, e, hl, _⟩ := HROW.out; cases e; exact hl
  unfold maxLen at hmx
  obtain ⟨l, hl⟩ : ∃ l, z0.take len0 = l := ⟨_, rfl⟩
  rw [hl] at HROW HWF hll
  have HLL := Lib.hid hll
  clear w0 hl hll
  by_cases hbig : 50 < len0
  · have hbig' : (50 : Int) < len0 := by omega
    go_enter Try.func5, Try.ntmps5
    go_wp2_with (go_at_call 8; refine (HA.out _).mono ?_; rintro e w1 ⟨rfl, hb1⟩; have HB1 := Lib.hid hb1; clear hb1)
    go_ret
    exact ⟨rfl, HB1.out⟩
  have hsm : ¬ (50 : Int) < len0 := by omega
  have h50 : len0 ≤ 50 := by omega
  have HN := Lib.hid (vnew_ok 1 w (by omega))
  have HRK := Lib.hid root_k
  obtain ⟨RK, hRK⟩ : ∃ RK : Int → List Int, Hid (∀ k, rootK k = RK k) := ⟨_, Lib.hid fun _ => rfl⟩
  obtain ⟨XK, hXK⟩ : ∃ XK : Int → Array Value, Hid (∀ k, (bytesL (RK k)).toArray = XK k) := ⟨_, Lib.hid fun _ => rfl⟩
  have HRX : Hid (∀ k u, Calls Try.prog 12 #[.int .i64 k] u fun e w' => e = .returned (.agg (XK k)) ∧ Below u.heap.size u w') := fun k u => by rw [← hXK.out k, ← hRK.out k]; exact HRK.out k u
  have HRI : Hid (∀ k, IsBytes 32 (RK k)) := fun k => by rw [← hRK.out k]; exact rootK_is k
  clear hbig
  go_enter Try.func5, Try.ntmps5
  go_wp2_with (go_at_call 7; refine HN.out.mono ?_; rintro e w1 ⟨rfl, hk1, hb1⟩; have HK1 := Lib.hid hk1; have HB1 := Lib.hid hb1; clear hk1 hb1)
  go_loopw [5, 6] (fun best i wr => LatI w l best i wr) (fun _ i _ => len0 - (intOf i).toNat)
  case atStart => exact ⟨0, Nat.zero_le _, rfl, HB1.out, .inl ⟨rfl, rfl, HK1.out⟩⟩
  case round =>
    obtain ⟨k, hk, rfl, hbl, hcase⟩ := hrel
    rw [HLL.out] at hk
    have HBL := Lib.hid hbl
    have HCASE := Lib.hid hcase
    clear hbl hcase HB1 HK1
    by_cases hlt : k < len0
    case neg =>
      obtain rfl : k = len0 := by omega
      rcases HCASE.out with ⟨hk0, rfl, hv⟩ | ⟨j, hj, rfl, hv⟩
      · have HK := Lib.hid hv
        have HO := Lib.hid (fun u hu => vote_at (w.heap.size + 1) w.heap.size [zeV] 0 zeV u rfl hu)
        have HZ := Lib.hid bz_vo
        have EQ := eq_zeV
        obtain ⟨Z, hZ⟩ : ∃ Z, zeV.cells.toArray = Z := ⟨_, rfl⟩
        rw [hZ] at HO HZ EQ
        clear hv hZ HCASE hk0
        go_wp2_with (first
          | ((with_reducible refine at_build (some 62) ?_); refine wpList_build_g 33 _ rfl #[] (by simp [Act.eval]) (.agg Z) (HZ.out _) rfl ?_)
          | (go_at_call 8; refine (HA.out _).mono ?_; rintro e w3 ⟨rfl, hb3⟩; have HB3 := Lib.hid (HB2.out.trans (hb3.mono HB2.out.size)); clear hb3)
          | (go_at_call 10; refine (HO.out _ HK.out (by omega)).mono ?_; rintro e w2 ⟨rfl, hb2⟩; have HB2 := Lib.hid (HBL.out.trans (hb2.mono HBL.out.size)); clear hb2))
        go_ret
        exact ⟨rfl, HB3.out⟩
      · have HK := Lib.hid hv
        obtain ⟨rb, ro, rfl, hrb, hcells⟩ : ∃ rb ro, a0 = some ⟨rb, ro, none⟩ ∧ rb < w.heap.size ∧ w.cell? ⟨rb, ro + j, none⟩ = some (.int .u64 (l.getD j 0)) := by
          obtain ⟨a, n, c, e, _, _, hr⟩ := HROW.out
          cases e
          rcases hr with h0 | ⟨b, off, rfl, hb, hc⟩
          · omega
          · exact ⟨b, off, rfl, hb, hc j hj⟩
        have hxr := wf_u64 (HWF.out _ (getD_mem (l := l) (k := j) (by rw [HLL.out]; exact hj)))
        obtain ⟨x, hx⟩ : ∃ x, Hid (l.getD j 0 = x) := ⟨_, Lib.hid rfl⟩
        rw [hx.out] at HK hcells hxr
        rw [hRK.out] at HK
        have HC := Lib.hid ((HBL.out.cell (p := ⟨rb, ro + j, none⟩) hrb).trans hcells)
        have hjb : (j : Int) ≤ 50 := by omega
        have hj0 : ¬ (j : Int) < 0 := by omega
        have hjl : (j : Int) < k := by omega
        have HVO : Hid ((⟨true, x, RK ((j : Int) + 1)⟩ : VoD).ok) := ⟨hxr.1, hxr.2, HRI.out _⟩
        have HO := Lib.hid (fun u hu => vote_at (w.heap.size + 1) w.heap.size [⟨true, x, RK ((j : Int) + 1)⟩] 0 ⟨true, x, RK ((j : Int) + 1)⟩ u rfl hu (by omega))
        have HBV := Lib.hid (fun u => build_vo true (n := x) (HRI.out ((j : Int) + 1)) u)
        have EQ := fun u => eq_vself HVO.out u
        obtain ⟨C, hC⟩ : ∃ C, (⟨true, x, RK ((j : Int) + 1)⟩ : VoD).cells.toArray = C := ⟨_, rfl⟩
        rw [hC] at HO HBV EQ
        rw [hXK.out] at HBV
        have hw1 : IntKind.i64.wrap ((j : Int) + 1) = (j : Int) + 1 := by rw [IntKind.wrap_i64]; omega
        clear hv hC HCASE hcells hx
        go_wp2_with fail
        refine wp_region_fam2 (by kernel_rfl) (by kernel_rfl) ?_
        intro T F hT hF hG
        have CV := Lib.hid (fun t => HO.out (F t) (HK.out.call (hF t)))
        have cx : ∀ t, (F t).cell? ⟨rb, ro + j, none⟩ = some (.int .u64 x) := fun t => ((hF t).cell (p := ⟨rb, ro + j, none⟩) (Nat.lt_of_lt_of_le hrb HBL.out.size)).trans HC.out
        repeat (first
          | ((with_reducible refine at_qbuild (some 76) ?_); refine wpQuiet_build 33 _ rfl #[(0, .bool true), (1, .int .u64 x), (2, .agg (XK ((j : Int) + 1)))] (by simp [Act.eval]) (.agg C) HBV.out (by kernel_rfl) ?_; simp only [Act.put, List.setIfInBounds_toArray, List.set_cons_succ, List.set_cons_zero])
          | (go_big_quiet_step ((first | (go_at_call 10; exact fam_call hF hG (Nat.le_refl _) (CV.out _)) | (go_at_call 12; exact fam_call hF hG (Nat.le_refl _) (HRX.out _ _)) | (go_at_call 8; exact fam_call hF hG (Nat.le_refl _) (HA.out _))))))
        refine wpQuiet_nil ?_
        rintro _ ⟨t, rfl⟩
        have HF := Lib.hid (HBL.out.trans ((hF t).mono HBL.out.size))
        clear cx CV hG
        go_wp2_with fail
        go_ret
        exact ⟨rfl, HF.out⟩
    have hlt' : (k : Int) < len0 := by omega
    obtain ⟨rb, ro, rfl, hrb, hcells⟩ : ∃ rb ro, a0 = some ⟨rb, ro, none⟩ ∧ rb < w.heap.size ∧ ∀ i, i < len0 → w.cell? ⟨rb, ro + i, none⟩ = some (.int .u64 (l.getD i 0)) := by
      obtain ⟨a, n, c, e, _, _, hr⟩ := HROW.out
      cases e
      rcases hr with h0 | ⟨b, off, rfl, hb, hc⟩
      · omega
      · exact ⟨b, off, rfl, hb, hc⟩
    have HCE := Lib.hid hcells
    have hxr := wf_u64 (HWF.out _ (getD_mem (l := l) (k := k) (by rw [HLL.out]; exact hlt)))
    have HC0' := Lib.hid (hcells k hlt)
    obtain ⟨x, hx⟩ : ∃ x, Hid (l.getD k 0 = x) := ⟨_, Lib.hid rfl⟩
    rw [hx.out] at HC0' hxr
    have HC0 := Lib.hid HC0'.out
    have HCX : Hid (wr.drew.cell? ⟨rb, ro + k, none⟩ = some (.int .u64 x)) := (HBL.out.cell (p := ⟨rb, ro + k, none⟩) hrb).trans HC0.out
    have hw1 : IntKind.i64.wrap ((k : Int) + 1) = (k : Int) + 1 := by rw [IntKind.wrap_i64]; omega
    have HBD : Hid (Below w.heap.size w wr.drew) := HBL.out.drew
    clear hcells HC0'
    rcases HCASE.out with ⟨hk0, rfl, hv⟩ | ⟨j, hj, rfl, hv⟩
    · have HK0 := Lib.hid hk0; clear hk0
      have HKD : Hid (VtI wr.drew (w.heap.size + 1) w.heap.size [zeV]) := ⟨hv.blk, hv.row, hv.ok, hv.len, hv.ne⟩
      have HCT := Lib.hid (fun b g v u => cast_to b g [zeV] _ x _ _ (RK ((k : Int) + 1)) v [0] u (cast_new1 (by intro h; cases h.1)))
      rw [hXK.out] at HCT
      clear hv HCASE
      go_wp2_with fail
      refine wp_region_held_drew (S := fun u => u.cell? ⟨rb, ro + k, none⟩ = some (.int .u64 x)) (by kernel_rfl) (HCX.out) (fun _ => ?_)
      (try simp only [Act.put, List.setIfInBounds_toArray, List.set_cons_zero, List.set_cons_succ])
      refine wpAnyH_take (i := 0) (oi := ⟨some 30, _, _, _, _, _⟩) (v := .pointer (some ⟨w.heap.size + 1, 0, none⟩)) rfl (by kernel_rfl) (by kernel_rfl) (by kernel_rfl) (fun _ _ _ h => h) (Or.inl ⟨by rfl, fun wz hz => ?_⟩) HCX.out ?_
      · clear hz; go_simp; first | done | with_reducible rfl | rfl
      (try simp only [Act.put, List.setIfInBounds_toArray, List.set_cons_zero, List.set_cons_succ])
      refine wpAnyH_take (i := 1) (oi := ⟨some 31, _, _, _, _, _⟩) (v := .slice (some ⟨rb, ro, none⟩) len0 cap0) rfl (by kernel_rfl) (by kernel_rfl) (by kernel_rfl) (fun _ _ _ h => h) (Or.inl ⟨by rfl, fun wz hz => ?_⟩) HCX.out ?_
      · clear hz; go_simp; first | done | with_reducible rfl | rfl
      (try simp only [Act.put, List.setIfInBounds_toArray, List.set_cons_zero, List.set_cons_succ])
      refine wpAnyH_take (i := 2) (oi := ⟨some 32, _, _, _, _, _⟩) (v := .int .i64 k) rfl (by kernel_rfl) (by kernel_rfl) (by kernel_rfl) (fun _ _ _ h => h) (Or.inl ⟨by rfl, fun wz hz => ?_⟩) HCX.out ?_
      · clear hz; go_simp; first | done | with_reducible rfl | rfl
      (try simp only [Act.put, List.setIfInBounds_toArray, List.set_cons_zero, List.set_cons_succ])
      refine wpAnyH_take (i := 3) (oi := ⟨some 33, _, _, _, _, _⟩) (v := .pointer (some ⟨rb, ro + k, none⟩)) rfl (by kernel_rfl) (by kernel_rfl) (by kernel_rfl) (fun _ _ _ h => h) (Or.inl ⟨by rfl, fun wz hz => ?_⟩) HCX.out ?_
      · clear hz; go_simp; first | done | with_reducible rfl | rfl
      (try simp only [Act.put, List.setIfInBounds_toArray, List.set_cons_zero, List.set_cons_succ])
      refine held_load1 (oi := ⟨some 34, _, _, _, _, _⟩) 4 rfl (by kernel_rfl) (by kernel_rfl) (by kernel_rfl) (fun _ _ _ _ h => h) rfl 29 (.tmp 33) rfl rb (ro + k) rfl (.int .u64 x) _ (fun u' hu => hu) Try.underlying29 rfl HCX.out ?_
      (try simp only [Act.put, List.setIfInBounds_toArray, List.set_cons_zero, List.set_cons_succ])
      refine wpAnyH_take (i := 5) (oi := ⟨some 35, _, _, _, _, _⟩) (v := .int .i64 k) rfl (by kernel_rfl) (by kernel_rfl) (by kernel_rfl) (fun _ _ _ h => h) (Or.inl ⟨by rfl, fun wz hz => ?_⟩) HCX.out ?_
      · clear hz; go_simp; first | done | with_reducible rfl | rfl
      (try simp only [Act.put, List.setIfInBounds_toArray, List.set_cons_zero, List.set_cons_succ])
      refine wpAnyH_take (i := 6) (oi := ⟨some 36, _, _, _, _, _⟩) (v := .int .i64 ((k : Int) + 1)) rfl (by kernel_rfl) (by kernel_rfl) (by kernel_rfl) (fun _ _ _ h => h) (Or.inl ⟨by rfl, fun wz hz => ?_⟩) HCX.out ?_
      · clear hz; (try simp only [hw1]); go_simp; first | done | with_reducible rfl | rfl
      (try simp only [Act.put, List.setIfInBounds_toArray, List.set_cons_zero, List.set_cons_succ])
      refine wpAnyH_ready (rs := [7, 8]) (by kernel_rfl) (by simp) ?_
      refine AllReadyH.cons rfl (fun K hK => ?_) (AllReadyH.cons rfl (fun K hK => ?_) AllReadyH.nil)
      · go_simp
        refine (HRX.out _ _).mono ?_
        rintro e w4 ⟨rfl, hb4⟩
        have HK4 := Lib.hid (HKD.out.call hb4); have HB4 := Lib.hid (HBD.out.trans (hb4.mono HBD.out.size)); have CX4 : Hid (w4.cell? ⟨rb, ro + k, none⟩ = some (.int .u64 x)) := (HB4.out.cell (p := ⟨rb, ro + k, none⟩) hrb).trans HC0.out; clear hb4
        refine hK.out _ _ (CX4.out) (fun _ => ?_)
        clear hK K
        (try simp only [Act.put, List.setIfInBounds_toArray, List.set_cons_zero, List.set_cons_succ])
        refine wpAnyH_ready (rs := [8]) (by kernel_rfl) (by simp) ?_
        refine AllReadyH.cons rfl (fun K hK => ?_) AllReadyH.nil
        rw [if_pos (by rfl)]
        refine wp_buildSlice 35 1 _ rfl #[(0, .int .i64 0)] (by simp [Act.eval]) _ (bs_one w4) ?_
        have HK5 := Lib.hid (HK4.out.grown (World.grownBy_alloc w4 (.cells #[.int .i64 0] 3) none) (by simp) (by simp)); have HB5 := Lib.hid (HB4.out.alloc HB4.out.size (.cells #[.int .i64 0] 3)); have HN5 : Hid (Blk (w4.alloc (.cells #[.int .i64 0] 3)) w4.heap.size #[.int .i64 0]) := Blk.new rfl; have CX5 : Hid ((w4.alloc (.cells #[.int .i64 0] 3)).cell? ⟨rb, ro + k, none⟩ = some (.int .u64 x)) := (HB5.out.cell (p := ⟨rb, ro + k, none⟩) hrb).trans HC0.out
        refine hK.out _ _ (CX5.out) (fun _ => ?_)
        clear hK K
        (try simp only [Act.put, List.setIfInBounds_toArray, List.set_cons_zero, List.set_cons_succ])
        refine wpAnyH_ready (rs := [9]) (by kernel_rfl) (by simp) ?_
        refine AllReadyH.cons rfl (fun K hK => ?_) AllReadyH.nil
        go_simp
        refine (HCT.out _ _ _ _ HK5.out (by omega) (HRI.out _) (ints_1 HN5.out (by omega)) (off_new (by have := HK4.out.row.lt; omega))).mono ?_
        rintro e w6 ⟨rfl, hk6, hg6⟩
        have HK6 := Lib.hid hk6; have HB6 := Lib.hid (below_row HB5.out hg6 (Nat.le_refl _) HB5.out.size); have CX6 : Hid (w6.cell? ⟨rb, ro + k, none⟩ = some (.int .u64 x)) := (HB6.out.cell (p := ⟨rb, ro + k, none⟩) hrb).trans HC0.out; clear hk6 hg6
        refine hK.out _ _ (CX6.out) (fun _ => ?_)
        clear hK K
        (try simp only [Act.put, List.setIfInBounds_toArray, List.set_cons_zero, List.set_cons_succ])
        refine wpAnyH_take (i := 10) (oi := ⟨some 29, _, _, _, _, _⟩) (v := .tuple #[.int .i64 1, .int .i64 0]) rfl (by kernel_rfl) (by kernel_rfl) (by kernel_rfl) (fun _ _ _ h => h) (Or.inl ⟨by rfl, fun wz hz => ?_⟩) CX6.out ?_
        · clear hz; go_simp; first | done | with_reducible rfl | rfl
        (try simp only [Act.put, List.setIfInBounds_toArray, List.set_cons_zero, List.set_cons_succ])
        refine wpAnyH_take (i := 11) (oi := ⟨some 40, _, _, _, _, _⟩) (v := .int .i64 1) rfl (by kernel_rfl) (by kernel_rfl) (by kernel_rfl) (fun _ _ _ h => h) (Or.inl ⟨by rfl, fun wz hz => ?_⟩) CX6.out ?_
        · clear hz; go_simp; first | done | with_reducible rfl | rfl
        (try simp only [Act.put, List.setIfInBounds_toArray, List.set_cons_zero, List.set_cons_succ])
        refine wpAnyH_take (i := 12) (oi := ⟨some 41, _, _, _, _, _⟩) (v := .int .i64 0) rfl (by kernel_rfl) (by kernel_rfl) (by kernel_rfl) (fun _ _ _ h => h) (Or.inl ⟨by rfl, fun wz hz => ?_⟩) CX6.out ?_
        · clear hz; go_simp; first | done | with_reducible rfl | rfl
        (try simp only [Act.put, List.setIfInBounds_toArray, List.set_cons_zero, List.set_cons_succ])
        refine wpAnyH_ready (rs := [13]) (by kernel_rfl) (by simp) ?_
        refine AllReadyH.cons rfl (fun K hK => ?_) AllReadyH.nil
        go_simp
        refine hK.out _ _ (CX6.out) (fun _ => ?_)
        clear hK K
        (try simp only [Act.put, List.setIfInBounds_toArray, List.set_cons_zero, List.set_cons_succ])
        refine wpAnyH_ready (rs := [14]) (by kernel_rfl) (by simp) ?_
        refine AllReadyH.cons rfl (fun K hK => ?_) AllReadyH.nil
        go_simp
        refine hK.out _ _ (CX6.out) (fun _ => ?_)
        clear hK K
        (try simp only [Act.put, List.setIfInBounds_toArray, List.set_cons_zero, List.set_cons_succ])
        refine wpAnyH_done (by kernel_rfl) ?_ _
        have HD : Hid (LatI w l (.int .i64 (k : Int)) (.int .i64 ((k : Int) + 1)) w6) := ⟨k + 1, by rw [HLL.out]; omega, by go_num, HB6.out, .inr ⟨k, by omega, rfl, by rw [hx.out, hRK.out]; exact HK6.out⟩⟩
        go_wp2_with fail
        go_quiet (fail)
        go_wp2_with fail
        go_roundw
        case rel => exact HD.out.drewN
        case measure => simp [intOf]; omega
      · rw [if_pos (by rfl)]
        refine wp_buildSlice 35 1 _ rfl #[(0, .int .i64 0)] (by simp [Act.eval]) _ (bs_one wr.drew) ?_
        have HK4 := Lib.hid (HKD.out.grown (World.grownBy_alloc wr.drew (.cells #[.int .i64 0] 3) none) (by simp) (by simp)); have HB4 := Lib.hid (HBD.out.alloc HBD.out.size (.cells #[.int .i64 0] 3)); have HN4 : Hid (Blk (wr.drew.alloc (.cells #[.int .i64 0] 3)) wr.drew.heap.size #[.int .i64 0]) := Blk.new rfl; have CX4 : Hid ((wr.drew.alloc (.cells #[.int .i64 0] 3)).cell? ⟨rb, ro + k, none⟩ = some (.int .u64 x)) := (HB4.out.cell (p := ⟨rb, ro + k, none⟩) hrb).trans HC0.out
        refine hK.out _ _ (CX4.out) (fun _ => ?_)
        clear hK K
        (try simp only [Act.put, List.setIfInBounds_toArray, List.set_cons_zero, List.set_cons_succ])
        refine wpAnyH_ready (rs := [7]) (by kernel_rfl) (by simp) ?_
        refine AllReadyH.cons rfl (fun K hK => ?_) AllReadyH.nil
        go_simp
        refine (HRX.out _ _).mono ?_
        rintro e w5 ⟨rfl, hb5⟩
        have HK5 := Lib.hid (HK4.out.call hb5); have HB5 := Lib.hid (HB4.out.trans (hb5.mono HB4.out.size)); have HN5 := Lib.hid (HN4.out.call hb5); have CX5 : Hid (w5.cell? ⟨rb, ro + k, none⟩ = some (.int .u64 x)) := (HB5.out.cell (p := ⟨rb, ro + k, none⟩) hrb).trans HC0.out; clear hb5
        refine hK.out _ _ (CX5.out) (fun _ => ?_)
        clear hK K
        (try simp only [Act.put, List.setIfInBounds_toArray, List.set_cons_zero, List.set_cons_succ])
        refine wpAnyH_ready (rs := [9]) (by kernel_rfl) (by simp) ?_
        refine AllReadyH.cons rfl (fun K hK => ?_) AllReadyH.nil
        go_simp
        refine (HCT.out _ _ _ _ HK5.out (by omega) (HRI.out _) (ints_1 HN5.out (by omega)) (off_new (by exact Nat.ne_of_gt HKD.out.row.lt))).mono ?_
        rintro e w6 ⟨rfl, hk6, hg6⟩
        have HK6 := Lib.hid hk6; have HB6 := Lib.hid (below_row HB5.out hg6 (Nat.le_refl _) HB5.out.size); have CX6 : Hid (w6.cell? ⟨rb, ro + k, none⟩ = some (.int .u64 x)) := (HB6.out.cell (p := ⟨rb, ro + k, none⟩) hrb).trans HC0.out; clear hk6 hg6
        refine hK.out _ _ (CX6.out) (fun _ => ?_)
        clear hK K
        (try simp only [Act.put, List.setIfInBounds_toArray, List.set_cons_zero, List.set_cons_succ])
        refine wpAnyH_take (i := 10) (oi := ⟨some 29, _, _, _, _, _⟩) (v := .tuple #[.int .i64 1, .int .i64 0]) rfl (by kernel_rfl) (by kernel_rfl) (by kernel_rfl) (fun _ _ _ h => h) (Or.inl ⟨by rfl, fun wz hz => ?_⟩) CX6.out ?_
        · clear hz; go_simp; first | done | with_reducible rfl | rfl
        (try simp only [Act.put, List.setIfInBounds_toArray, List.set_cons_zero, List.set_cons_succ])
        refine wpAnyH_take (i := 11) (oi := ⟨some 40, _, _, _, _, _⟩) (v := .int .i64 1) rfl (by kernel_rfl) (by kernel_rfl) (by kernel_rfl) (fun _ _ _ h => h) (Or.inl ⟨by rfl, fun wz hz => ?_⟩) CX6.out ?_
        · clear hz; go_simp; first | done | with_reducible rfl | rfl
        (try simp only [Act.put, List.setIfInBounds_toArray, List.set_cons_zero, List.set_cons_succ])
        refine wpAnyH_take (i := 12) (oi := ⟨some 41, _, _, _, _, _⟩) (v := .int .i64 0) rfl (by kernel_rfl) (by kernel_rfl) (by kernel_rfl) (fun _ _ _ h => h) (Or.inl ⟨by rfl, fun wz hz => ?_⟩) CX6.out ?_
        · clear hz; go_simp; first | done | with_reducible rfl | rfl
        (try simp only [Act.put, List.setIfInBounds_toArray, List.set_cons_zero, List.set_cons_succ])
        refine wpAnyH_ready (rs := [13]) (by kernel_rfl) (by simp) ?_
        refine AllReadyH.cons rfl (fun K hK => ?_) AllReadyH.nil
        go_simp
        refine hK.out _ _ (CX6.out) (fun _ => ?_)
        clear hK K
        (try simp only [Act.put, List.setIfInBounds_toArray, List.set_cons_zero, List.set_cons_succ])
        refine wpAnyH_ready (rs := [14]) (by kernel_rfl) (by simp) ?_
        refine AllReadyH.cons rfl (fun K hK => ?_) AllReadyH.nil
        go_simp
        refine hK.out _ _ (CX6.out) (fun _ => ?_)
        clear hK K
        (try simp only [Act.put, List.setIfInBounds_toArray, List.set_cons_zero, List.set_cons_succ])
        refine wpAnyH_done (by kernel_rfl) ?_ _
        have HD : Hid (LatI w l (.int .i64 (k : Int)) (.int .i64 ((k : Int) + 1)) w6) := ⟨k + 1, by rw [HLL.out]; omega, by go_num, HB6.out, .inr ⟨k, by omega, rfl, by rw [hx.out, hRK.out]; exact HK6.out⟩⟩
        go_wp2_with fail
        go_quiet (fail)
        go_wp2_with fail
        go_roundw
        case rel => exact HD.out.drewN
        case measure => simp [intOf]; omega
    · have HCJ := Lib.hid (HCE.out j (by omega))
      have hyr := wf_u64 (HWF.out _ (getD_mem (l := l) (k := j) (by rw [HLL.out]; omega)))
      obtain ⟨y, hy⟩ : ∃ y, Hid (l.getD j 0 = y) := ⟨_, Lib.hid rfl⟩
      rw [hy.out] at hv HCJ hyr
      rw [hRK.out] at hv
      have hj0 : ¬ (j : Int) < 0 := by omega
      have hjl : (j : Int) < len0 := by omega
      by_cases hgt : y < x
      · have HKD : Hid (VtI wr.drew (w.heap.size + 1) w.heap.size [⟨true, y, RK ((j : Int) + 1)⟩]) := ⟨hv.blk, hv.row, hv.ok, hv.len, hv.ne⟩
        have HCT := Lib.hid (fun b g v u => cast_to b g [⟨true, y, RK ((j : Int) + 1)⟩] _ x _ _ (RK ((k : Int) + 1)) v [0] u (cast_new1 (by simp; omega)))
        rw [hXK.out] at HCT
        clear hv HCASE
        go_wp2_with fail
        refine wp_region_held_drew (S := fun u => u.cell? ⟨rb, ro + k, none⟩ = some (.int .u64 x)) (by kernel_rfl) (HCX.out) (fun _ => ?_)
        (try simp only [Act.put, List.setIfInBounds_toArray, List.set_cons_zero, List.set_cons_succ])
        refine wpAnyH_take (i := 0) (oi := ⟨some 30, _, _, _, _, _⟩) (v := .pointer (some ⟨w.heap.size + 1, 0, none⟩)) rfl (by kernel_rfl) (by kernel_rfl) (by kernel_rfl) (fun _ _ _ h => h) (Or.inl ⟨by rfl, fun wz hz => ?_⟩) HCX.out ?_
        · clear hz; go_simp; first | done | with_reducible rfl | rfl
        (try simp only [Act.put, List.setIfInBounds_toArray, List.set_cons_zero, List.set_cons_succ])
        refine wpAnyH_take (i := 1) (oi := ⟨some 31, _, _, _, _, _⟩) (v := .slice (some ⟨rb, ro, none⟩) len0 cap0) rfl (by kernel_rfl) (by kernel_rfl) (by kernel_rfl) (fun _ _ _ h => h) (Or.inl ⟨by rfl, fun wz hz => ?_⟩) HCX.out ?_
        · clear hz; go_simp; first | done | with_reducible rfl | rfl
        (try simp only [Act.put, List.setIfInBounds_toArray, List.set_cons_zero, List.set_cons_succ])
        refine wpAnyH_take (i := 2) (oi := ⟨some 32, _, _, _, _, _⟩) (v := .int .i64 k) rfl (by kernel_rfl) (by kernel_rfl) (by kernel_rfl) (fun _ _ _ h => h) (Or.inl ⟨by rfl, fun wz hz => ?_⟩) HCX.out ?_
        · clear hz; go_simp; first | done | with_reducible rfl | rfl
        (try simp only [Act.put, List.setIfInBounds_toArray, List.set_cons_zero, List.set_cons_succ])
        refine wpAnyH_take (i := 3) (oi := ⟨some 33, _, _, _, _, _⟩) (v := .pointer (some ⟨rb, ro + k, none⟩)) rfl (by kernel_rfl) (by kernel_rfl) (by kernel_rfl) (fun _ _ _ h => h) (Or.inl ⟨by rfl, fun wz hz => ?_⟩) HCX.out ?_
        · clear hz; go_simp; first | done | with_reducible rfl | rfl
        (try simp only [Act.put, List.setIfInBounds_toArray, List.set_cons_zero, List.set_cons_succ])
        refine held_load1 (oi := ⟨some 34, _, _, _, _, _⟩) 4 rfl (by kernel_rfl) (by kernel_rfl) (by kernel_rfl) (fun _ _ _ _ h => h) rfl 29 (.tmp 33) rfl rb (ro + k) rfl (.int .u64 x) _ (fun u' hu => hu) Try.underlying29 rfl HCX.out ?_
        (try simp only [Act.put, List.setIfInBounds_toArray, List.set_cons_zero, List.set_cons_succ])
        refine wpAnyH_take (i := 5) (oi := ⟨some 35, _, _, _, _, _⟩) (v := .int .i64 k) rfl (by kernel_rfl) (by kernel_rfl) (by kernel_rfl) (fun _ _ _ h => h) (Or.inl ⟨by rfl, fun wz hz => ?_⟩) HCX.out ?_
        · clear hz; go_simp; first | done | with_reducible rfl | rfl
        (try simp only [Act.put, List.setIfInBounds_toArray, List.set_cons_zero, List.set_cons_succ])
        refine wpAnyH_take (i := 6) (oi := ⟨some 36, _, _, _, _, _⟩) (v := .int .i64 ((k : Int) + 1)) rfl (by kernel_rfl) (by kernel_rfl) (by kernel_rfl) (fun _ _ _ h => h) (Or.inl ⟨by rfl, fun wz hz => ?_⟩) HCX.out ?_
        · clear hz; (try simp only [hw1]); go_simp; first | done | with_reducible rfl | rfl
        (try simp only [Act.put, List.setIfInBounds_toArray, List.set_cons_zero, List.set_cons_succ])
        refine wpAnyH_ready (rs := [7, 8]) (by kernel_rfl) (by simp) ?_
        refine AllReadyH.cons rfl (fun K hK => ?_) (AllReadyH.cons rfl (fun K hK => ?_) AllReadyH.nil)
        · go_simp
          refine (HRX.out _ _).mono ?_
          rintro e w4 ⟨rfl, hb4⟩
          have HK4 := Lib.hid (HKD.out.call hb4); have HB4 := Lib.hid (HBD.out.trans (hb4.mono HBD.out.size)); have CX4 : Hid (w4.cell? ⟨rb, ro + k, none⟩ = some (.int .u64 x)) := (HB4.out.cell (p := ⟨rb, ro + k, none⟩) hrb).trans HC0.out; clear hb4
          refine hK.out _ _ (CX4.out) (fun _ => ?_)
          clear hK K
          (try simp only [Act.put, List.setIfInBounds_toArray, List.set_cons_zero, List.set_cons_succ])
          refine wpAnyH_ready (rs := [8]) (by kernel_rfl) (by simp) ?_
          refine AllReadyH.cons rfl (fun K hK => ?_) AllReadyH.nil
          rw [if_pos (by rfl)]
          refine wp_buildSlice 35 1 _ rfl #[(0, .int .i64 0)] (by simp [Act.eval]) _ (bs_one w4) ?_
          have HK5 := Lib.hid (HK4.out.grown (World.grownBy_alloc w4 (.cells #[.int .i64 0] 3) none) (by simp) (by simp)); have HB5 := Lib.hid (HB4.out.alloc HB4.out.size (.cells #[.int .i64 0] 3)); have HN5 : Hid (Blk (w4.alloc (.cells #[.int .i64 0] 3)) w4.heap.size #[.int .i64 0]) := Blk.new rfl; have CX5 : Hid ((w4.alloc (.cells #[.int .i64 0] 3)).cell? ⟨rb, ro + k, none⟩ = some (.int .u64 x)) := (HB5.out.cell (p := ⟨rb, ro + k, none⟩) hrb).trans HC0.out
          refine hK.out _ _ (CX5.out) (fun _ => ?_)
          clear hK K
          (try simp only [Act.put, List.setIfInBounds_toArray, List.set_cons_zero, List.set_cons_succ])
          refine wpAnyH_ready (rs := [9]) (by kernel_rfl) (by simp) ?_
          refine AllReadyH.cons rfl (fun K hK => ?_) AllReadyH.nil
          go_simp
          refine (HCT.out _ _ _ _ HK5.out (by omega) (HRI.out _) (ints_1 HN5.out (by omega)) (off_new (by have := HK4.out.row.lt; omega))).mono ?_
          rintro e w6 ⟨rfl, hk6, hg6⟩
          have HK6 := Lib.hid hk6; have HB6 := Lib.hid (below_row HB5.out hg6 (Nat.le_refl _) HB5.out.size); have CX6 : Hid (w6.cell? ⟨rb, ro + k, none⟩ = some (.int .u64 x)) := (HB6.out.cell (p := ⟨rb, ro + k, none⟩) hrb).trans HC0.out; clear hk6 hg6
          refine hK.out _ _ (CX6.out) (fun _ => ?_)
          clear hK K
          (try simp only [Act.put, List.setIfInBounds_toArray, List.set_cons_zero, List.set_cons_succ])
          refine wpAnyH_take (i := 10) (oi := ⟨some 29, _, _, _, _, _⟩) (v := .tuple #[.int .i64 1, .int .i64 0]) rfl (by kernel_rfl) (by kernel_rfl) (by kernel_rfl) (fun _ _ _ h => h) (Or.inl ⟨by rfl, fun wz hz => ?_⟩) CX6.out ?_
          · clear hz; go_simp; first | done | with_reducible rfl | rfl
          (try simp only [Act.put, List.setIfInBounds_toArray, List.set_cons_zero, List.set_cons_succ])
          refine wpAnyH_take (i := 11) (oi := ⟨some 40, _, _, _, _, _⟩) (v := .int .i64 1) rfl (by kernel_rfl) (by kernel_rfl) (by kernel_rfl) (fun _ _ _ h => h) (Or.inl ⟨by rfl, fun wz hz => ?_⟩) CX6.out ?_
          · clear hz; go_simp; first | done | with_reducible rfl | rfl
          (try simp only [Act.put, List.setIfInBounds_toArray, List.set_cons_zero, List.set_cons_succ])
          refine wpAnyH_take (i := 12) (oi := ⟨some 41, _, _, _, _, _⟩) (v := .int .i64 0) rfl (by kernel_rfl) (by kernel_rfl) (by kernel_rfl) (fun _ _ _ h => h) (Or.inl ⟨by rfl, fun wz hz => ?_⟩) CX6.out ?_
          · clear hz; go_simp; first | done | with_reducible rfl | rfl
          (try simp only [Act.put, List.setIfInBounds_toArray, List.set_cons_zero, List.set_cons_succ])
          refine wpAnyH_ready (rs := [13]) (by kernel_rfl) (by simp) ?_
          refine AllReadyH.cons rfl (fun K hK => ?_) AllReadyH.nil
          go_simp
          refine hK.out _ _ (CX6.out) (fun _ => ?_)
          clear hK K
          (try simp only [Act.put, List.setIfInBounds_toArray, List.set_cons_zero, List.set_cons_succ])
          refine wpAnyH_ready (rs := [14]) (by kernel_rfl) (by simp) ?_
          refine AllReadyH.cons rfl (fun K hK => ?_) AllReadyH.nil
          go_simp
          refine hK.out _ _ (CX6.out) (fun _ => ?_)
          clear hK K
          (try simp only [Act.put, List.setIfInBounds_toArray, List.set_cons_zero, List.set_cons_succ])
          refine wpAnyH_done (by kernel_rfl) ?_ _
          have HD : Hid (LatI w l (.int .i64 (k : Int)) (.int .i64 ((k : Int) + 1)) w6) := ⟨k + 1, by rw [HLL.out]; omega, by go_num, HB6.out, .inr ⟨k, by omega, rfl, by rw [hx.out, hRK.out]; exact HK6.out⟩⟩
          have ck6 := CX6.out
          have cj6 := (HB6.out.cell (p := ⟨rb, ro + j, none⟩) hrb).trans HCJ.out
          go_wp2_with fail
          go_quiet (fail)
          go_wp2_with fail
          go_roundw
          case rel => exact HD.out.drewN
          case measure => simp [intOf]; omega
        · rw [if_pos (by rfl)]
          refine wp_buildSlice 35 1 _ rfl #[(0, .int .i64 0)] (by simp [Act.eval]) _ (bs_one wr.drew) ?_
          have HK4 := Lib.hid (HKD.out.grown (World.grownBy_alloc wr.drew (.cells #[.int .i64 0] 3) none) (by simp) (by simp)); have HB4 := Lib.hid (HBD.out.alloc HBD.out.size (.cells #[.int .i64 0] 3)); have HN4 : Hid (Blk (wr.drew.alloc (.cells #[.int .i64 0] 3)) wr.drew.heap.size #[.int .i64 0]) := Blk.new rfl; have CX4 : Hid ((wr.drew.alloc (.cells #[.int .i64 0] 3)).cell? ⟨rb, ro + k, none⟩ = some (.int .u64 x)) := (HB4.out.cell (p := ⟨rb, ro + k, none⟩) hrb).trans HC0.out
          refine hK.out _ _ (CX4.out) (fun _ => ?_)
          clear hK K
          (try simp only [Act.put, List.setIfInBounds_toArray, List.set_cons_zero, List.set_cons_succ])
          refine wpAnyH_ready (rs := [7]) (by kernel_rfl) (by simp) ?_
          refine AllReadyH.cons rfl (fun K hK => ?_) AllReadyH.nil
          go_simp
          refine (HRX.out _ _).mono ?_
          rintro e w5 ⟨rfl, hb5⟩
          have HK5 := Lib.hid (HK4.out.call hb5); have HB5 := Lib.hid (HB4.out.trans (hb5.mono HB4.out.size)); have HN5 := Lib.hid (HN4.out.call hb5); have CX5 : Hid (w5.cell? ⟨rb, ro + k, none⟩ = some (.int .u64 x)) := (HB5.out.cell (p := ⟨rb, ro + k, none⟩) hrb).trans HC0.out; clear hb5
          refine hK.out _ _ (CX5.out) (fun _ => ?_)
          clear hK K
          (try simp only [Act.put, List.setIfInBounds_toArray, List.set_cons_zero, List.set_cons_succ])
          refine wpAnyH_ready (rs := [9]) (by kernel_rfl) (by simp) ?_
          refine AllReadyH.cons rfl (fun K hK => ?_) AllReadyH.nil
          go_simp
          refine (HCT.out _ _ _ _ HK5.out (by omega) (HRI.out _) (ints_1 HN5.out (by omega)) (off_new (by exact Nat.ne_of_gt HKD.out.row.lt))).mono ?_
          rintro e w6 ⟨rfl, hk6, hg6⟩
          have HK6 := Lib.hid hk6; have HB6 := Lib.hid (below_row HB5.out hg6 (Nat.le_refl _) HB5.out.size); have CX6 : Hid (w6.cell? ⟨rb, ro + k, none⟩ = some (.int .u64 x)) := (HB6.out.cell (p := ⟨rb, ro + k, none⟩) hrb).trans HC0.out; clear hk6 hg6
          refine hK.out _ _ (CX6.out) (fun _ => ?_)
          clear hK K
          (try simp only [Act.put, List.setIfInBounds_toArray, List.set_cons_zero, List.set_cons_succ])
          refine wpAnyH_take (i := 10) (oi := ⟨some 29, _, _, _, _, _⟩) (v := .tuple #[.int .i64 1, .int .i64 0]) rfl (by kernel_rfl) (by kernel_rfl) (by kernel_rfl) (fun _ _ _ h => h) (Or.inl ⟨by rfl, fun wz hz => ?_⟩) CX6.out ?_
          · clear hz; go_simp; first | done | with_reducible rfl | rfl
          (try simp only [Act.put, List.setIfInBounds_toArray, List.set_cons_zero, List.set_cons_succ])
          refine wpAnyH_take (i := 11) (oi := ⟨some 40, _, _, _, _, _⟩) (v := .int .i64 1) rfl (by kernel_rfl) (by kernel_rfl) (by kernel_rfl) (fun _ _ _ h => h) (Or.inl ⟨by rfl, fun wz hz => ?_⟩) CX6.out ?_
          · clear hz; go_simp; first | done | with_reducible rfl | rfl
          (try simp only [Act.put, List.setIfInBounds_toArray, List.set_cons_zero, List.set_cons_succ])
          refine wpAnyH_take (i := 12) (oi := ⟨some 41, _, _, _, _, _⟩) (v := .int .i64 0) rfl (by kernel_rfl) (by kernel_rfl) (by kernel_rfl) (fun _ _ _ h => h) (Or.inl ⟨by rfl, fun wz hz => ?_⟩) CX6.out ?_
          · clear hz; go_simp; first | done | with_reducible rfl | rfl
          (try simp only [Act.put, List.setIfInBounds_toArray, List.set_cons_zero, List.set_cons_succ])
          refine wpAnyH_ready (rs := [13]) (by kernel_rfl) (by simp) ?_
          refine AllReadyH.cons rfl (fun K hK => ?_) AllReadyH.nil
          go_simp
          refine hK.out _ _ (CX6.out) (fun _ => ?_)
          clear hK K
          (try simp only [Act.put, List.setIfInBounds_toArray, List.set_cons_zero, List.set_cons_succ])
          refine wpAnyH_ready (rs := [14]) (by kernel_rfl) (by simp) ?_
          refine AllReadyH.cons rfl (fun K hK => ?_) AllReadyH.nil
          go_simp
          refine hK.out _ _ (CX6.out) (fun _ => ?_)
          clear hK K
          (try simp only [Act.put, List.setIfInBounds_toArray, List.set_cons_zero, List.set_cons_succ])
          refine wpAnyH_done (by kernel_rfl) ?_ _
          have HD : Hid (LatI w l (.int .i64 (k : Int)) (.int .i64 ((k : Int) + 1)) w6) := ⟨k + 1, by rw [HLL.out]; omega, by go_num, HB6.out, .inr ⟨k, by omega, rfl, by rw [hx.out, hRK.out]; exact HK6.out⟩⟩
          have ck6 := CX6.out
          have cj6 := (HB6.out.cell (p := ⟨rb, ro + j, none⟩) hrb).trans HCJ.out
          go_wp2_with fail
          go_quiet (fail)
          go_wp2_with fail
          go_roundw
          case rel => exact HD.out.drewN
          case measure => simp [intOf]; omega
      · have HKD : Hid (VtI wr.drew (w.heap.size + 1) w.heap.size [⟨true, y, RK ((j : Int) + 1)⟩]) := ⟨hv.blk, hv.row, hv.ok, hv.len, hv.ne⟩
        have HCT := Lib.hid (fun b g v u => cast_to b g [⟨true, y, RK ((j : Int) + 1)⟩] _ x _ _ (RK ((k : Int) + 1)) v [0] u (cast_same1 rfl (by show x ≤ y; omega)))
        rw [hXK.out] at HCT
        clear hv HCASE
        go_wp2_with fail
        refine wp_region_held_drew (S := fun u => u.cell? ⟨rb, ro + k, none⟩ = some (.int .u64 x)) (by kernel_rfl) (HCX.out) (fun _ => ?_)
        (try simp only [Act.put, List.setIfInBounds_toArray, List.set_cons_zero, List.set_cons_succ])
        refine wpAnyH_take (i := 0) (oi := ⟨some 30, _, _, _, _, _⟩) (v := .pointer (some ⟨w.heap.size + 1, 0, none⟩)) rfl (by kernel_rfl) (by kernel_rfl) (by kernel_rfl) (fun _ _ _ h => h) (Or.inl ⟨by rfl, fun wz hz => ?_⟩) HCX.out ?_
        · clear hz; go_simp; first | done | with_reducible rfl | rfl
        (try simp only [Act.put, List.setIfInBounds_toArray, List.set_cons_zero, List.set_cons_succ])
        refine wpAnyH_take (i := 1) (oi := ⟨some 31, _, _, _, _, _⟩) (v := .slice (some ⟨rb, ro, none⟩) len0 cap0) rfl (by kernel_rfl) (by kernel_rfl) (by kernel_rfl) (fun _ _ _ h => h) (Or.inl ⟨by rfl, fun wz hz => ?_⟩) HCX.out ?_
        · clear hz; go_simp; first | done | with_reducible rfl | rfl
        (try simp only [Act.put, List.setIfInBounds_toArray, List.set_cons_zero, List.set_cons_succ])
        refine wpAnyH_take (i := 2) (oi := ⟨some 32, _, _, _, _, _⟩) (v := .int .i64 k) rfl (by kernel_rfl) (by kernel_rfl) (by kernel_rfl) (fun _ _ _ h => h) (Or.inl ⟨by rfl, fun wz hz => ?_⟩) HCX.out ?_
        · clear hz; go_simp; first | done | with_reducible rfl | rfl
        (try simp only [Act.put, List.setIfInBounds_toArray, List.set_cons_zero, List.set_cons_succ])
        refine wpAnyH_take (i := 3) (oi := ⟨some 33, _, _, _, _, _⟩) (v := .pointer (some ⟨rb, ro + k, none⟩)) rfl (by kernel_rfl) (by kernel_rfl) (by kernel_rfl) (fun _ _ _ h => h) (Or.inl ⟨by rfl, fun wz hz => ?_⟩) HCX.out ?_
        · clear hz; go_simp; first | done | with_reducible rfl | rfl
        (try simp only [Act.put, List.setIfInBounds_toArray, List.set_cons_zero, List.set_cons_succ])
        refine held_load1 (oi := ⟨some 34, _, _, _, _, _⟩) 4 rfl (by kernel_rfl) (by kernel_rfl) (by kernel_rfl) (fun _ _ _ _ h => h) rfl 29 (.tmp 33) rfl rb (ro + k) rfl (.int .u64 x) _ (fun u' hu => hu) Try.underlying29 rfl HCX.out ?_
        (try simp only [Act.put, List.setIfInBounds_toArray, List.set_cons_zero, List.set_cons_succ])
        refine wpAnyH_take (i := 5) (oi := ⟨some 35, _, _, _, _, _⟩) (v := .int .i64 k) rfl (by kernel_rfl) (by kernel_rfl) (by kernel_rfl) (fun _ _ _ h => h) (Or.inl ⟨by rfl, fun wz hz => ?_⟩) HCX.out ?_
        · clear hz; go_simp; first | done | with_reducible rfl | rfl
        (try simp only [Act.put, List.setIfInBounds_toArray, List.set_cons_zero, List.set_cons_succ])
        refine wpAnyH_take (i := 6) (oi := ⟨some 36, _, _, _, _, _⟩) (v := .int .i64 ((k : Int) + 1)) rfl (by kernel_rfl) (by kernel_rfl) (by kernel_rfl) (fun _ _ _ h => h) (Or.inl ⟨by rfl, fun wz hz => ?_⟩) HCX.out ?_
        · clear hz; (try simp only [hw1]); go_simp; first | done | with_reducible rfl | rfl
        (try simp only [Act.put, List.setIfInBounds_toArray, List.set_cons_zero, List.set_cons_succ])
        refine wpAnyH_ready (rs := [7, 8]) (by kernel_rfl) (by simp) ?_
        refine AllReadyH.cons rfl (fun K hK => ?_) (AllReadyH.cons rfl (fun K hK => ?_) AllReadyH.nil)
        · go_simp
          refine (HRX.out _ _).mono ?_
          rintro e w4 ⟨rfl, hb4⟩
          have HK4 := Lib.hid (HKD.out.call hb4); have HB4 := Lib.hid (HBD.out.trans (hb4.mono HBD.out.size)); have CX4 : Hid (w4.cell? ⟨rb, ro + k, none⟩ = some (.int .u64 x)) := (HB4.out.cell (p := ⟨rb, ro + k, none⟩) hrb).trans HC0.out; clear hb4
          refine hK.out _ _ (CX4.out) (fun _ => ?_)
          clear hK K
          (try simp only [Act.put, List.setIfInBounds_toArray, List.set_cons_zero, List.set_cons_succ])
          refine wpAnyH_ready (rs := [8]) (by kernel_rfl) (by simp) ?_
          refine AllReadyH.cons rfl (fun K hK => ?_) AllReadyH.nil
          rw [if_pos (by rfl)]
          refine wp_buildSlice 35 1 _ rfl #[(0, .int .i64 0)] (by simp [Act.eval]) _ (bs_one w4) ?_
          have HK5 := Lib.hid (HK4.out.grown (World.grownBy_alloc w4 (.cells #[.int .i64 0] 3) none) (by simp) (by simp)); have HB5 := Lib.hid (HB4.out.alloc HB4.out.size (.cells #[.int .i64 0] 3)); have HN5 : Hid (Blk (w4.alloc (.cells #[.int .i64 0] 3)) w4.heap.size #[.int .i64 0]) := Blk.new rfl; have CX5 : Hid ((w4.alloc (.cells #[.int .i64 0] 3)).cell? ⟨rb, ro + k, none⟩ = some (.int .u64 x)) := (HB5.out.cell (p := ⟨rb, ro + k, none⟩) hrb).trans HC0.out
          refine hK.out _ _ (CX5.out) (fun _ => ?_)
          clear hK K
          (try simp only [Act.put, List.setIfInBounds_toArray, List.set_cons_zero, List.set_cons_succ])
          refine wpAnyH_ready (rs := [9]) (by kernel_rfl) (by simp) ?_
          refine AllReadyH.cons rfl (fun K hK => ?_) AllReadyH.nil
          go_simp
          refine (HCT.out _ _ _ _ HK5.out (by omega) (HRI.out _) (ints_1 HN5.out (by omega)) (off_new (by have := HK4.out.row.lt; omega))).mono ?_
          rintro e w6 ⟨rfl, hk6, hg6⟩
          have HK6 := Lib.hid hk6; have HB6 := Lib.hid (below_row HB5.out hg6 (Nat.le_refl _) HB5.out.size); have CX6 : Hid (w6.cell? ⟨rb, ro + k, none⟩ = some (.int .u64 x)) := (HB6.out.cell (p := ⟨rb, ro + k, none⟩) hrb).trans HC0.out; clear hk6 hg6
          refine hK.out _ _ (CX6.out) (fun _ => ?_)
          clear hK K
          (try simp only [Act.put, List.setIfInBounds_toArray, List.set_cons_zero, List.set_cons_succ])
          refine wpAnyH_take (i := 10) (oi := ⟨some 29, _, _, _, _, _⟩) (v := .tuple #[.int .i64 0, .int .i64 0]) rfl (by kernel_rfl) (by kernel_rfl) (by kernel_rfl) (fun _ _ _ h => h) (Or.inl ⟨by rfl, fun wz hz => ?_⟩) CX6.out ?_
          · clear hz; go_simp; first | done | with_reducible rfl | rfl
          (try simp only [Act.put, List.setIfInBounds_toArray, List.set_cons_zero, List.set_cons_succ])
          refine wpAnyH_take (i := 11) (oi := ⟨some 40, _, _, _, _, _⟩) (v := .int .i64 0) rfl (by kernel_rfl) (by kernel_rfl) (by kernel_rfl) (fun _ _ _ h => h) (Or.inl ⟨by rfl, fun wz hz => ?_⟩) CX6.out ?_
          · clear hz; go_simp; first | done | with_reducible rfl | rfl
          (try simp only [Act.put, List.setIfInBounds_toArray, List.set_cons_zero, List.set_cons_succ])
          refine wpAnyH_take (i := 12) (oi := ⟨some 41, _, _, _, _, _⟩) (v := .int .i64 0) rfl (by kernel_rfl) (by kernel_rfl) (by kernel_rfl) (fun _ _ _ h => h) (Or.inl ⟨by rfl, fun wz hz => ?_⟩) CX6.out ?_
          · clear hz; go_simp; first | done | with_reducible rfl | rfl
          (try simp only [Act.put, List.setIfInBounds_toArray, List.set_cons_zero, List.set_cons_succ])
          refine wpAnyH_ready (rs := [13]) (by kernel_rfl) (by simp) ?_
          refine AllReadyH.cons rfl (fun K hK => ?_) AllReadyH.nil
          go_simp
          refine hK.out _ _ (CX6.out) (fun _ => ?_)
          clear hK K
          (try simp only [Act.put, List.setIfInBounds_toArray, List.set_cons_zero, List.set_cons_succ])
          refine wpAnyH_ready (rs := [14]) (by kernel_rfl) (by simp) ?_
          refine AllReadyH.cons rfl (fun K hK => ?_) AllReadyH.nil
          go_simp
          refine hK.out _ _ (CX6.out) (fun _ => ?_)
          clear hK K
          (try simp only [Act.put, List.setIfInBounds_toArray, List.set_cons_zero, List.set_cons_succ])
          refine wpAnyH_done (by kernel_rfl) ?_ _
          have HD : Hid (LatI w l (.int .i64 (j : Int)) (.int .i64 ((k : Int) + 1)) w6) := ⟨k + 1, by rw [HLL.out]; omega, by go_num, HB6.out, .inr ⟨j, by omega, rfl, by rw [hy.out, hRK.out]; exact HK6.out⟩⟩
          have ck6 := CX6.out
          have cj6 := (HB6.out.cell (p := ⟨rb, ro + j, none⟩) hrb).trans HCJ.out
          go_wp2_with fail
          go_quiet (fail)
          go_wp2_with fail
          go_roundw
          case rel => exact HD.out.drewN
          case measure => simp [intOf]; omega
        · rw [if_pos (by rfl)]
          refine wp_buildSlice 35 1 _ rfl #[(0, .int .i64 0)] (by simp [Act.eval]) _ (bs_one wr.drew) ?_
          have HK4 := Lib.hid (HKD.out.grown (World.grownBy_alloc wr.drew (.cells #[.int .i64 0] 3) none) (by simp) (by simp)); have HB4 := Lib.hid (HBD.out.alloc HBD.out.size (.cells #[.int .i64 0] 3)); have HN4 : Hid (Blk (wr.drew.alloc (.cells #[.int .i64 0] 3)) wr.drew.heap.size #[.int .i64 0]) := Blk.new rfl; have CX4 : Hid ((wr.drew.alloc (.cells #[.int .i64 0] 3)).cell? ⟨rb, ro + k, none⟩ = some (.int .u64 x)) := (HB4.out.cell (p := ⟨rb, ro + k, none⟩) hrb).trans HC0.out
          refine hK.out _ _ (CX4.out) (fun _ => ?_)
          clear hK K
          (try simp only [Act.put, List.setIfInBounds_toArray, List.set_cons_zero, List.set_cons_succ])
          refine wpAnyH_ready (rs := [7]) (by kernel_rfl) (by simp) ?_
          refine AllReadyH.cons rfl (fun K hK => ?_) AllReadyH.nil
          go_simp
          refine (HRX.out _ _).mono ?_
          rintro e w5 ⟨rfl, hb5⟩
          have HK5 := Lib.hid (HK4.out.call hb5); have HB5 := Lib.hid (HB4.out.trans (hb5.mono HB4.out.size)); have HN5 := Lib.hid (HN4.out.call hb5); have CX5 : Hid (w5.cell? ⟨rb, ro + k, none⟩ = some (.int .u64 x)) := (HB5.out.cell (p := ⟨rb, ro + k, none⟩) hrb).trans HC0.out; clear hb5
          refine hK.out _ _ (CX5.out) (fun _ => ?_)
          clear hK K
          (try simp only [Act.put, List.setIfInBounds_toArray, List.set_cons_zero, List.set_cons_succ])
          refine wpAnyH_ready (rs := [9]) (by kernel_rfl) (by simp) ?_
          refine AllReadyH.cons rfl (fun K hK => ?_) AllReadyH.nil
          go_simp
          refine (HCT.out _ _ _ _ HK5.out (by omega) (HRI.out _) (ints_1 HN5.out (by omega)) (off_new (by exact Nat.ne_of_gt HKD.out.row.lt))).mono ?_
          rintro e w6 ⟨rfl, hk6, hg6⟩
          have HK6 := Lib.hid hk6; have HB6 := Lib.hid (below_row HB5.out hg6 (Nat.le_refl _) HB5.out.size); have CX6 : Hid (w6.cell? ⟨rb, ro + k, none⟩ = some (.int .u64 x)) := (HB6.out.cell (p := ⟨rb, ro + k, none⟩) hrb).trans HC0.out; clear hk6 hg6
          refine hK.out _ _ (CX6.out) (fun _ => ?_)
          clear hK K
          (try simp only [Act.put, List.setIfInBounds_toArray, List.set_cons_zero, List.set_cons_succ])
          refine wpAnyH_take (i := 10) (oi := ⟨some 29, _, _, _, _, _⟩) (v := .tuple #[.int .i64 0, .int .i64 0]) rfl (by kernel_rfl) (by kernel_rfl) (by kernel_rfl) (fun _ _ _ h => h) (Or.inl ⟨by rfl, fun wz hz => ?_⟩) CX6.out ?_
          · clear hz; go_simp; first | done | with_reducible rfl | rfl
          (try simp only [Act.put, List.setIfInBounds_toArray, List.set_cons_zero, List.set_cons_succ])
          refine wpAnyH_take (i := 11) (oi := ⟨some 40, _, _, _, _, _⟩) (v := .int .i64 0) rfl (by kernel_rfl) (by kernel_rfl) (by kernel_rfl) (fun _ _ _ h => h) (Or.inl ⟨by rfl, fun wz hz => ?_⟩) CX6.out ?_
          · clear hz; go_simp; first | done | with_reducible rfl | rfl
          (try simp only [Act.put, List.setIfInBounds_toArray, List.set_cons_zero, List.set_cons_succ])
          refine wpAnyH_take (i := 12) (oi := ⟨some 41, _, _, _, _, _⟩) (v := .int .i64 0) rfl (by kernel_rfl) (by kernel_rfl) (by kernel_rfl) (fun _ _ _ h => h) (Or.inl ⟨by rfl, fun wz hz => ?_⟩) CX6.out ?_
          · clear hz; go_simp; first | done | with_reducible rfl | rfl
          (try simp only [Act.put, List.setIfInBounds_toArray, List.set_cons_zero, List.set_cons_succ])
          refine wpAnyH_ready (rs := [13]) (by kernel_rfl) (by simp) ?_
          refine AllReadyH.cons rfl (fun K hK => ?_) AllReadyH.nil
          go_simp
          refine hK.out _ _ (CX6.out) (fun _ => ?_)
          clear hK K
          (try simp only [Act.put, List.setIfInBounds_toArray, List.set_cons_zero, List.set_cons_succ])
          refine wpAnyH_ready (rs := [14]) (by kernel_rfl) (by simp) ?_
          refine AllReadyH.cons rfl (fun K hK => ?_) AllReadyH.nil
          go_simp
          refine hK.out _ _ (CX6.out) (fun _ => ?_)
          clear hK K
          (try simp only [Act.put, List.setIfInBounds_toArray, List.set_cons_zero, List.set_cons_succ])
          refine wpAnyH_done (by kernel_rfl) ?_ _
          have HD : Hid (LatI w l (.int .i64 (j : Int)) (.int .i64 ((k : Int) + 1)) w6) := ⟨k + 1, by rw [HLL.out]; omega, by go_num, HB6.out, .inr ⟨j, by omega, rfl, by rw [hy.out, hRK.out]; exact HK6.out⟩⟩
          have ck6 := CX6.out
          have cj6 := (HB6.out.cell (p := ⟨rb, ro + j, none⟩) hrb).trans HCJ.out
          go_wp2_with fail
          go_quiet (fail)
          go_wp2_with fail
          go_roundw
          case rel => exact HD.out.drewN
          case measure => simp [intOf]; omega
end Go.Proofs.Ytoebkgjlehhbpaa
