/- Several texts as one: ScR, ScJ. -/
import Derived.Test.YtmnojgdfbhdkhaaY5
import Derived.Test.YtmnojgdfbhdkhaaY7
namespace Go.Proofs.Ytmnojgdfbhdkhaa

/-! ScR -/
section
set_option linter.unusedVariables false
set_option linter.unusedSimpArgs false
open Go.RowKit

set_option maxRecDepth 1000000 in
theorem build_kind (K : Int) (w : World) : (Instr.build 48 #[(0, .int .i64 K)]).run Try.prog w = .ok (.agg (flatP ((kOp K).parts nilV nilV nilV nilV))) w := by kernel_rfl
theorem Hid.e {a b : Int} (h : Hid (a = b)) : a = b := h.out
end

/-! ScJ -/
section
set_option linter.unusedVariables false
set_option linter.unusedSimpArgs false
open Go.RowKit

def VoR (w : World) (d : OpD) (en : Ending) (w' : World) : Prop := en = .returned (.int .i64 (opErr d)) ∧ Below w.heap.size w w'
theorem kOp_shape (K : Int) : (flatP ((kOp K).parts nilV nilV nilV nilV)).size = 446 ∧ ∀ v ∈ flatP ((kOp K).parts nilV nilV nilV nilV), v.oneCell' = true :=
  ⟨by rw [flatP_size, List.length_flatten, kOp_lens]; rfl, fun v hv => OpD.one (x := kOp K) (v1 := nilV) (v2 := nilV) (v3 := nilV) (v4 := nilV) rfl rfl rfl rfl v hv⟩

set_option maxRecDepth 100000 in
set_option maxHeartbeats 16000000 in
theorem vo_out (P : Value → Prop) (X : Array Value) (d : OpD) (w : World) (hX : OpIn P w X d) (hsm : SmallD d) (hk : d.k < 1 ∨ 8 < d.k) : Calls Try.prog 11 #[.agg X] w (VoR w d) := by
  have hX0 := hX.size
  have HX1 := Lib.hid hX.one
  have HIX : Hid ((Try.prog.info? 48).map (·.size) = some X.size) := by show _ = _; rw [hX0]; exact info_op
  have HXI := Lib.hid (fun u (hu : Below w.heap.size w u) => opE.below hX hu)
  have HB0 := Lib.hid ((Below.refl w.heap.size w).alloc (Nat.le_refl _) (.cells X 48))
  have GX : Hid (Blk (w.alloc (.cells X 48)) w.heap.size X) := Blk.new rfl
  obtain ⟨v1, v2, v3, v4, eX, ok, ⟨i1, _⟩, ⟨i2, _⟩, ⟨i3, _⟩, ⟨i4, _⟩⟩ := hX
  have HIn := Lib.hid (fun u (hu : Below w.heap.size w u) => And.intro (i1.below hu) (And.intro (i2.below hu) (And.intro (i3.below hu) (i4.below hu))))
  have OO := Lib.hid (op_offs ok v1 v2 v3 v4)
  have LL := Lib.hid (OpD.lens ok v1 v2 v3 v4)
  obtain ⟨PX, hPX⟩ : ∃ PX, Hid (d.parts v1 v2 v3 v4 = PX) := ⟨_, rfl⟩
  have EX : Hid (X = flatP PX) := by show _ = _; rw [eX, hPX.out]
  rw [hPX.out] at OO LL
  have hk0 : PX[0]? = some [.int .i64 d.k] := by rw [← hPX.out]; rfl
  obtain ⟨ok1, ok2, ok3, ok4, ok5, ok6, ok7, ok8, ok9⟩ := ok
  have e : opErr d = 2 := by unfold opErr; rw [if_pos hk]
  unfold VoR
  rw [e]
  obtain ⟨K, hK⟩ : ∃ K, d.k = K := ⟨_, rfl⟩
  rw [hK] at hk0 hk
  clear e hsm eX i1 i2 i3 i4 ok1 ok2 ok3 ok4 ok5 ok6 ok7 ok8 ok9 hK hX0
  by_cases h1 : K < 1
  · clear hk
    go_enter Try.func11, Try.ntmps11
    go_wp2_with (first
    | ((with_reducible refine at_load (.tmp 6) ?_); refine wpList_load_1 3 (.tmp 6) rfl w.heap.size 0 (.int .i64 K) ((GX.out.to EX.out).cellAt (k := 0) hk0 rfl) rfl _ Try.underlying3 rfl rfl ?_)
    | ((with_reducible refine at_load (.tmp 10) ?_); refine wpList_load_1 3 (.tmp 10) rfl w.heap.size 0 (.int .i64 K) ((GX.out.to EX.out).cellAt (k := 0) hk0 rfl) rfl _ Try.underlying3 rfl rfl ?_)
    | fail)
    go_ret
    exact ⟨rfl, HB0.out⟩
  · have h8 : 8 < K := by omega
    clear hk
    go_enter Try.func11, Try.ntmps11
    go_wp2_with (first
    | ((with_reducible refine at_load (.tmp 6) ?_); refine wpList_load_1 3 (.tmp 6) rfl w.heap.size 0 (.int .i64 K) ((GX.out.to EX.out).cellAt (k := 0) hk0 rfl) rfl _ Try.underlying3 rfl rfl ?_)
    | ((with_reducible refine at_load (.tmp 10) ?_); refine wpList_load_1 3 (.tmp 10) rfl w.heap.size 0 (.int .i64 K) ((GX.out.to EX.out).cellAt (k := 0) hk0 rfl) rfl _ Try.underlying3 rfl rfl ?_)
    | fail)
    go_ret
    exact ⟨rfl, HB0.out⟩

set_option maxRecDepth 100000 in
set_option maxHeartbeats 16000000 in
theorem vo_err (P : Value → Prop) (X : Array Value) (d : OpD) (w : World) (hX : OpIn P w X d) (hsm : SmallD d) (hk : 1 ≤ d.k ∧ d.k ≤ 8) (he : fldE d ≠ 0) : Calls Try.prog 11 #[.agg X] w (VoR w d) := by
  have hX0 := hX.size
  have HX1 := Lib.hid hX.one
  have HIX : Hid ((Try.prog.info? 48).map (·.size) = some X.size) := by show _ = _; rw [hX0]; exact info_op
  have HXI := Lib.hid (fun u (hu : Below w.heap.size w u) => opE.below hX hu)
  have HB0 := Lib.hid ((Below.refl w.heap.size w).alloc (Nat.le_refl _) (.cells X 48))
  have GX : Hid (Blk (w.alloc (.cells X 48)) w.heap.size X) := Blk.new rfl
  obtain ⟨v1, v2, v3, v4, eX, ok, ⟨i1, _⟩, ⟨i2, _⟩, ⟨i3, _⟩, ⟨i4, _⟩⟩ := hX
  have HIn := Lib.hid (fun u (hu : Below w.heap.size w u) => And.intro (i1.below hu) (And.intro (i2.below hu) (And.intro (i3.below hu) (i4.below hu))))
  have OO := Lib.hid (op_offs ok v1 v2 v3 v4)
  have LL := Lib.hid (OpD.lens ok v1 v2 v3 v4)
  obtain ⟨PX, hPX⟩ : ∃ PX, Hid (d.parts v1 v2 v3 v4 = PX) := ⟨_, rfl⟩
  have EX : Hid (X = flatP PX) := by show _ = _; rw [eX, hPX.out]
  rw [hPX.out] at OO LL
  have hk0 : PX[0]? = some [.int .i64 d.k] := by rw [← hPX.out]; rfl
  obtain ⟨ok1, ok2, ok3, ok4, ok5, ok6, ok7, ok8, ok9⟩ := ok
  have e : opErr d = fldE d := by unfold opErr; rw [if_neg (by omega), if_pos he]
  unfold VoR
  rw [e]
  have DF : Hid (∀ u, Below w.heap.size w u → Calls Try.prog 18 #[.agg X] u (EncR u (fldE d) (fldB d))) := fun u hu => rf_any P X d u (HXI.out u hu) hsm hk.1 hk.2
  obtain ⟨E, hE⟩ : ∃ E, fldE d = E := ⟨_, rfl⟩
  rw [hE] at he DF ⊢
  have hne : (E != 0) = true := by simpa using he
  obtain ⟨K, hK⟩ : ∃ K, d.k = K := ⟨_, rfl⟩
  rw [hK] at hk0 hk
  have h1 : ¬ K < 1 := by omega
  have h8 : ¬ 8 < K := by omega
  clear e hsm eX i1 i2 i3 i4 ok1 ok2 ok3 ok4 ok5 ok6 ok7 ok8 ok9 hK hX0 hk hE he
  go_enter Try.func11, Try.ntmps11
  go_wp2_with (first
    | ((with_reducible refine at_load (.tmp 6) ?_); refine wpList_load_1 3 (.tmp 6) rfl w.heap.size 0 (.int .i64 K) ((GX.out.to EX.out).cellAt (k := 0) hk0 rfl) rfl _ Try.underlying3 rfl rfl ?_)
    | ((with_reducible refine at_load (.tmp 10) ?_); refine wpList_load_1 3 (.tmp 10) rfl w.heap.size 0 (.int .i64 K) ((GX.out.to EX.out).cellAt (k := 0) hk0 rfl) rfl _ Try.underlying3 rfl rfl ?_)
    | ((with_reducible refine at_load (.tmp 1) ?_); refine wpList_load_g 48 (.tmp 1) rfl w.heap.size rfl X _ GX.out Try.underlying48 rfl HIX.out rfl ?_)
    | (go_at_call 18; refine (DF.out _ HB0.out).mono ?_; rintro en w1 ⟨u1, rfl, hy1, hb1⟩; have G1 := Lib.hid (GX.out.call hb1); have HB1 := Lib.hid (HB0.out.trans (hb1.mono HB0.out.size)); clear hy1 hb1)
    | fail)
  go_ret
  exact ⟨rfl, HB1.out⟩

open Classical in
theorem opErr_at_ok {d : OpD} (h1 : 1 ≤ d.k) (h8 : d.k ≤ 8) (he : fldE d = 0) : opErr d = if SameD d (keepD d) then 0 else 2 := by
  unfold opErr; rw [if_neg (by omega), if_neg (by simpa using he)]

/-- The store of a part of one cell, carried out. -/
theorem wp_store_part1 {P : Program} {op : Oper} {a : Act} {w : World} {K : Act → World → Prop} {Q : Exit → Act → World → Prop} (ty : TypeId) (x y : Operand) (ho : op.op = .store ty x y)
    (b : Nat) (ps : List (List Value)) (k : Nat) (v u : Value) (hB : Blk w b (flatP ps)) (hk : ps[k]? = some [v]) (hx : a.eval x = .pointer (some ⟨b, offP ps k, none⟩)) (hy : a.eval y = u)
    (hi : (P.info? ty).map (·.size) = some 1) (hu : u.cells = #[u]) (h1 : u.oneCell' = true)
    (h : ∀ w', Upd b w w' → Blk w' b (flatP (ps.set k [u])) → K (a.put op.dst undef) w') : op.wp P a w K Q := by
  have hth := hB.partThere hk
  obtain ⟨g1, g2⟩ := hB.setPart (q := [u]) hk rfl
  have hr := run_storeCells_cells (P := P) b (offP ps k) [u] 0 w (fun j hj => by simpa using (hth j (by simpa using hj)).1) (fun j hj => by simpa using (hth j (by simpa using hj)).2) (fun z hz => by rw [List.mem_singleton.1 hz]; exact h1)
  unfold Oper.wp execOp
  cases hq : P.info? ty with
  | none => simp [hq] at hi
  | some i =>
    have hs : i.size = 1 := by simpa [hq] using hi
    simp only [Nat.add_zero] at hr
    have hsv : (storeVar ty ⟨b, offP ps k, none⟩ u).run P w = .ok () (w.setCells b (offP ps k) [u]) := by
      simp [storeVar, sizeOf, typeInfo, hq, hu, hs, hr]
    simp only [ho, hx, hy, Instr.storeAt, Instr.sureAddr, Sem.run_bind, Sem.run_pure, Result.andThen_ok, hsv]
    exact h _ g1 g2

set_option maxRecDepth 100000 in
set_option maxHeartbeats 16000000 in
theorem vo_2 (P : Value → Prop) (X : Array Value) (d : OpD) (w : World) (hX : OpIn P w X d) (hsm : SmallD d) (hk : d.k = 2) (he : fldE d = 0) : Calls Try.prog 11 #[.agg X] w (VoR w d) := by
  have hX0 := hX.size
  have HX1 := Lib.hid hX.one
  have HIX : Hid ((Try.prog.info? 48).map (·.size) = some X.size) := by show _ = _; rw [hX0]; exact info_op
  have HXI := Lib.hid (fun u (hu : Below w.heap.size w u) => opE.below hX hu)
  have HB0 := Lib.hid ((Below.refl w.heap.size w).alloc (Nat.le_refl _) (.cells X 48))
  have GX : Hid (Blk (w.alloc (.cells X 48)) w.heap.size X) := Blk.new rfl
  obtain ⟨v1, v2, v3, v4, eX, ok, ⟨i1, _⟩, ⟨i2, _⟩, ⟨i3, _⟩, ⟨i4, _⟩⟩ := hX
  have HIn := Lib.hid (fun u (hu : Below w.heap.size w u) => And.intro (i1.below hu) (And.intro (i2.below hu) (And.intro (i3.below hu) (i4.below hu))))
  have OO := Lib.hid (op_offs ok v1 v2 v3 v4)
  have LL := Lib.hid (OpD.lens ok v1 v2 v3 v4)
  obtain ⟨PX, hPX⟩ : ∃ PX, Hid (d.parts v1 v2 v3 v4 = PX) := ⟨_, rfl⟩
  have EX : Hid (X = flatP PX) := by show _ = _; rw [eX, hPX.out]
  rw [hPX.out] at OO LL
  have hk0 : PX[0]? = some [.int .i64 d.k] := by rw [← hPX.out]; rfl
  obtain ⟨ok1, ok2, ok3, ok4, ok5, ok6, ok7, ok8, ok9⟩ := ok
  have DF : Hid (∀ u, Below w.heap.size w u → Calls Try.prog 18 #[.agg X] u (EncR u (fldE d) (fldB d))) := fun u hu => rf_any P X d u (HXI.out u hu) hsm (by omega) (by omega)
  rw [he] at DF
  have hOE := opErr_at_ok (by omega) (by omega) he
  obtain ⟨Z, hZ⟩ : ∃ Z, Hid (flatP ((kOp 0).parts nilV nilV nilV nilV) = Z) := ⟨_, rfl⟩
  have hZ0 : Hid (Z.size = 446) := by show _ = _; rw [← hZ.out]; rfl
  obtain ⟨hzz, hst⟩ := zero_array (P := Try.prog) (t := 48) (n := 446) Z (by rw [← hZ.out]; exact zop_zero) hZ0.out (by rw [← hZ.out]; exact zop_one)
  obtain ⟨z1, z2, z3, z4, z5, z6, z7, z8, z9⟩ := kOp_ok (k := 2) (by unfold i64R; omega)
  obtain ⟨PY, hPY⟩ : ∃ PY, Hid ((kOp 2).parts nilV nilV nilV nilV = PY) := ⟨_, rfl⟩
  obtain ⟨Y0, hY0⟩ : ∃ Y, Hid (flatP PY = Y) := ⟨_, rfl⟩
  have BK := Lib.hid (build_kind 2)
  rw [hPY.out, hY0.out] at BK
  have hY00 : Hid (Y0.size = 446) := by show _ = _; rw [← hY0.out, ← hPY.out]; exact (kOp_shape 2).1
  have HY01 : Hid (∀ v ∈ Y0, v.oneCell' = true) := by show ∀ _ ∈ _, _; rw [← hY0.out, ← hPY.out]; exact (kOp_shape 2).2
  have HIY0 : Hid ((Try.prog.info? 48).map (·.size) = some Y0.size) := by show _ = _; rw [hY00.out]; exact info_op
  have HZY : Hid (Z.size = Y0.size) := by show _ = _; rw [hZ0.out, hY00.out]
  have hkeep : keepD d = { kOp 2 with b := d.b } := by unfold keepD; simp only [hk]; try rfl
  have hin : Hid (∀ u, Below w.heap.size w u → OpIn (fun _ => True) u (flatP (PY.set 1 (d.b.parts.flatten))) (keepD d)) := fun u hu => by
    obtain ⟨j1, j2, j3, j4⟩ := HIn.out u hu
    rw [hkeep]
    exact ⟨nilV, nilV, nilV, nilV, (by rw [← hPY.out]; try rfl), ⟨z1, ok2, z3, z4, z5, z6, z7, z8, z9⟩, ⟨intsV_nil _, trivial⟩, ⟨intsV_nil _, trivial⟩, ⟨intsV_nil _, trivial⟩, ⟨numsV_nil _, trivial⟩⟩
  obtain ⟨Y, hY⟩ : ∃ Y, Hid (flatP (PY.set 1 (d.b.parts.flatten)) = Y) := ⟨_, rfl⟩
  rw [hY.out] at hin
  have hYs := (hin.out w (Below.refl _ w)).size
  have HIY : Hid ((Try.prog.info? 48).map (·.size) = some Y.size) := by show _ = _; rw [hYs]; exact info_op
  have DS : Hid (∀ u, Below w.heap.size w u → Calls Try.prog 20 #[.agg X, .agg Y] u (Tells u (SameD d (keepD d)))) := fun u hu => sop_any _ _ X Y d (keepD d) u (HXI.out u hu) (hin.out u hu)
  rw [hk] at hk0
  have hl : (d.b.parts.flatten).length = 238 := BkD.len238 ok2
  have hpx : Hid (PX[1]? = some (d.b.parts.flatten)) := by show _ = _; rw [← hPX.out]; rfl
  have HL1 : Hid (∀ v ∈ d.b.parts.flatten, v.oneCell' = true) := fun v hv => HX1.out v (by rw [EX.out, flatP, List.mem_toArray, List.mem_flatten]; exact ⟨_, List.mem_of_getElem? hpx.out, hv⟩)
  obtain ⟨q, hpy, hpl⟩ : ∃ q, Hid (PY[1]? = some q) ∧ Hid (q.length = 238) := ⟨_, (by show _ = _; rw [← hPY.out]; rfl), by show _ = _; rfl⟩
  have hoy : Hid (offP PY 1 = 1) := by show _ = _; rw [← hPY.out, kOp_off]; rfl
  obtain ⟨L, hL⟩ : ∃ L, d.b.parts.flatten = L := ⟨_, rfl⟩
  rw [hL] at hl hpx HL1 hY
  have HIL : Hid ((Try.prog.info? 32).map (·.size) = some L.length) := by show _ = _; rw [hl]; kernel_rfl
  have hlq : L.length = q.length := by rw [hl, hpl.out]
  clear hl hL
  clear hsm eX i1 i2 i3 i4 ok1 ok2 ok3 ok4 ok5 ok6 ok7 ok8 ok9 hX0 hk he hkeep hYs z1 z2 z3 z4 z5 z6 z7 z8 z9
  unfold VoR
  rw [hOE]
  obtain ⟨sd, hsd⟩ : ∃ p : Prop, p = SameD d (keepD d) := ⟨_, rfl⟩
  rw [← hsd] at DS
  open Classical in
  have HOE : Hid ((if SameD d (keepD d) then (0 : Int) else 2) = if sd then 0 else 2) := by show _ = _; rw [hsd]
  obtain ⟨RV, HRV⟩ : ∃ r : Int, Hid (r = if SameD d (keepD d) then (0 : Int) else 2) := ⟨_, rfl⟩
  rw [← HRV.out]
  clear hOE hsd
  by_cases hp : sd
  case pos =>
    have HP := Lib.hid hp
    clear hp
    go_enter Try.func11, Try.ntmps11
    go_wp2_with (first
      | ((with_reducible refine at_load (.tmp 6) ?_); refine wpList_load_1 3 (.tmp 6) rfl w.heap.size 0 (.int .i64 2) ((GX.out.to EX.out).cellAt (k := 0) hk0 rfl) rfl _ Try.underlying3 rfl rfl ?_)
      | ((with_reducible refine at_load (.tmp 10) ?_); refine wpList_load_1 3 (.tmp 10) rfl w.heap.size 0 (.int .i64 2) ((GX.out.to EX.out).cellAt (k := 0) hk0 rfl) rfl _ Try.underlying3 rfl rfl ?_)
      | ((with_reducible refine at_build (some 24) ?_); refine wpList_build rfl 48 _ rfl #[(0, .int .i64 2)] (by simp [Act.eval, Act.put]) (.agg Y0) (BK.out _) ?_)
      | ((with_reducible refine at_store (.tmp 5) ?_); refine wpList_store_blk rfl 48 (.tmp 5) _ rfl w1.heap.size Y0 rfl rfl Z (Blk.new rfl) HZY.out HIY0.out HY01.out ?_; intro w2 U2 B2; have hb2 := U2.below ((Below.refl _ w1).alloc (Nat.le_refl _) (.cells Z 48)) (Nat.le_refl _); have K2 := Lib.hid B2; have G2 := Lib.hid (G1.out.call hb2); have HB2 := Lib.hid (HB1.out.trans (hb2.mono HB1.out.size)); have HLT := Lib.hid G1.out.lt; clear U2 B2 hb2)
      | ((with_reducible refine at_load (.tmp 22) ?_); refine wpList_load_1 3 (.tmp 22) rfl w.heap.size 0 (.int .i64 2) ((G1.out.to EX.out).cellAt (k := 0) hk0 rfl) rfl _ Try.underlying3 rfl rfl ?_)
      | ((with_reducible refine at_load (.tmp 25) ?_); refine wpList_load_1 3 (.tmp 25) rfl w.heap.size 0 (.int .i64 2) ((G2.out.to EX.out).cellAt (k := 0) hk0 rfl) rfl _ Try.underlying3 rfl rfl ?_)
      | ((with_reducible refine at_load (.tmp 29) ?_); refine wpList_load_part 32 (.tmp 29) rfl w.heap.size _ 1 1 L (G2.out.to EX.out) hpx.out (by rw [OO.out]; rfl) rfl _ Try.underlying32 rfl HIL.out rfl ?_)
      | ((with_reducible refine at_store (.tmp 31) ?_); refine wpList_store_part rfl 32 (.tmp 31) _ rfl w1.heap.size PY 1 q L (K2.out.to hY0.out.symm) hpy.out (by rw [hoy.out]; rfl) rfl hlq HIL.out HL1.out ?_; intro w3 U3 B3; rw [hY.out] at B3; have KY := Lib.hid B3; have G3 := Lib.hid (U3.blk G2.out (Nat.ne_of_lt HLT.out)); have HB3 := Lib.hid (U3.below HB2.out HB1.out.size); clear U3 B3)
      | ((with_reducible refine at_load (.tmp 1) ?_); refine wpList_load_g 48 (.tmp 1) rfl w.heap.size rfl X _ G3.out Try.underlying48 rfl HIX.out rfl ?_)
      | ((with_reducible refine at_load (.tmp 5) ?_); refine wpList_load_g 48 (.tmp 5) rfl w1.heap.size rfl Y _ KY.out Try.underlying48 rfl HIY.out rfl ?_)
      | (go_at_call 20; refine (DS.out _ HB3.out).mono ?_; rintro en w5 hh; obtain ⟨rfl, hb5⟩ := tells_true hh HP.out; have HB5 := Lib.hid (HB3.out.trans (hb5.mono HB3.out.size)); clear hh hb5)
      | ((with_reducible refine at_load (.tmp 1) ?_); refine wpList_load_g 48 (.tmp 1) rfl w.heap.size rfl X _ GX.out Try.underlying48 rfl HIX.out rfl ?_)
      | (go_at_call 18; refine (DF.out _ HB0.out).mono ?_; rintro en w1 ⟨u1, rfl, hy1, hb1⟩; have G1 := Lib.hid (GX.out.call hb1); have HB1 := Lib.hid (HB0.out.trans (hb1.mono HB0.out.size)); clear hy1 hb1)
      | fail)
    go_ret
    exact ⟨by rw [HRV.out, HOE.out, if_pos HP.out]; rfl, HB5.out⟩
  case neg =>
    have HP := Lib.hid hp
    clear hp
    go_enter Try.func11, Try.ntmps11
    go_wp2_with (first
      | ((with_reducible refine at_load (.tmp 6) ?_); refine wpList_load_1 3 (.tmp 6) rfl w.heap.size 0 (.int .i64 2) ((GX.out.to EX.out).cellAt (k := 0) hk0 rfl) rfl _ Try.underlying3 rfl rfl ?_)
      | ((with_reducible refine at_load (.tmp 10) ?_); refine wpList_load_1 3 (.tmp 10) rfl w.heap.size 0 (.int .i64 2) ((GX.out.to EX.out).cellAt (k := 0) hk0 rfl) rfl _ Try.underlying3 rfl rfl ?_)
      | ((with_reducible refine at_build (some 24) ?_); refine wpList_build rfl 48 _ rfl #[(0, .int .i64 2)] (by simp [Act.eval, Act.put]) (.agg Y0) (BK.out _) ?_)
      | ((with_reducible refine at_store (.tmp 5) ?_); refine wpList_store_blk rfl 48 (.tmp 5) _ rfl w1.heap.size Y0 rfl rfl Z (Blk.new rfl) HZY.out HIY0.out HY01.out ?_; intro w2 U2 B2; have hb2 := U2.below ((Below.refl _ w1).alloc (Nat.le_refl _) (.cells Z 48)) (Nat.le_refl _); have K2 := Lib.hid B2; have G2 := Lib.hid (G1.out.call hb2); have HB2 := Lib.hid (HB1.out.trans (hb2.mono HB1.out.size)); have HLT := Lib.hid G1.out.lt; clear U2 B2 hb2)
      | ((with_reducible refine at_load (.tmp 22) ?_); refine wpList_load_1 3 (.tmp 22) rfl w.heap.size 0 (.int .i64 2) ((G1.out.to EX.out).cellAt (k := 0) hk0 rfl) rfl _ Try.underlying3 rfl rfl ?_)
      | ((with_reducible refine at_load (.tmp 25) ?_); refine wpList_load_1 3 (.tmp 25) rfl w.heap.size 0 (.int .i64 2) ((G2.out.to EX.out).cellAt (k := 0) hk0 rfl) rfl _ Try.underlying3 rfl rfl ?_)
      | ((with_reducible refine at_load (.tmp 29) ?_); refine wpList_load_part 32 (.tmp 29) rfl w.heap.size _ 1 1 L (G2.out.to EX.out) hpx.out (by rw [OO.out]; rfl) rfl _ Try.underlying32 rfl HIL.out rfl ?_)
      | ((with_reducible refine at_store (.tmp 31) ?_); refine wpList_store_part rfl 32 (.tmp 31) _ rfl w1.heap.size PY 1 q L (K2.out.to hY0.out.symm) hpy.out (by rw [hoy.out]; rfl) rfl hlq HIL.out HL1.out ?_; intro w3 U3 B3; rw [hY.out] at B3; have KY := Lib.hid B3; have G3 := Lib.hid (U3.blk G2.out (Nat.ne_of_lt HLT.out)); have HB3 := Lib.hid (U3.below HB2.out HB1.out.size); clear U3 B3)
      | ((with_reducible refine at_load (.tmp 1) ?_); refine wpList_load_g 48 (.tmp 1) rfl w.heap.size rfl X _ G3.out Try.underlying48 rfl HIX.out rfl ?_)
      | ((with_reducible refine at_load (.tmp 5) ?_); refine wpList_load_g 48 (.tmp 5) rfl w1.heap.size rfl Y _ KY.out Try.underlying48 rfl HIY.out rfl ?_)
      | (go_at_call 20; refine (DS.out _ HB3.out).mono ?_; rintro en w5 hh; obtain ⟨rfl, hb5⟩ := tells_false hh HP.out; have HB5 := Lib.hid (HB3.out.trans (hb5.mono HB3.out.size)); clear hh hb5)
      | ((with_reducible refine at_load (.tmp 1) ?_); refine wpList_load_g 48 (.tmp 1) rfl w.heap.size rfl X _ GX.out Try.underlying48 rfl HIX.out rfl ?_)
      | (go_at_call 18; refine (DF.out _ HB0.out).mono ?_; rintro en w1 ⟨u1, rfl, hy1, hb1⟩; have G1 := Lib.hid (GX.out.call hb1); have HB1 := Lib.hid (HB0.out.trans (hb1.mono HB0.out.size)); clear hy1 hb1)
      | fail)
    go_ret
    exact ⟨by rw [HRV.out, HOE.out, if_neg HP.out]; rfl, HB5.out⟩

set_option maxRecDepth 100000 in
set_option maxHeartbeats 16000000 in
theorem vo_3 (P : Value → Prop) (X : Array Value) (d : OpD) (w : World) (hX : OpIn P w X d) (hsm : SmallD d) (hk : d.k = 3) (he : fldE d = 0) : Calls Try.prog 11 #[.agg X] w (VoR w d) := by
  have hX0 := hX.size
  have HX1 := Lib.hid hX.one
  have HIX : Hid ((Try.prog.info? 48).map (·.size) = some X.size) := by show _ = _; rw [hX0]; exact info_op
  have HXI := Lib.hid (fun u (hu : Below w.heap.size w u) => opE.below hX hu)
  have HB0 := Lib.hid ((Below.refl w.heap.size w).alloc (Nat.le_refl _) (.cells X 48))
  have GX : Hid (Blk (w.alloc (.cells X 48)) w.heap.size X) := Blk.new rfl
  obtain ⟨v1, v2, v3, v4, eX, ok, ⟨i1, _⟩, ⟨i2, _⟩, ⟨i3, _⟩, ⟨i4, _⟩⟩ := hX
  have HIn := Lib.hid (fun u (hu : Below w.heap.size w u) => And.intro (i1.below hu) (And.intro (i2.below hu) (And.intro (i3.below hu) (i4.below hu))))
  have OO := Lib.hid (op_offs ok v1 v2 v3 v4)
  have LL := Lib.hid (OpD.lens ok v1 v2 v3 v4)
  obtain ⟨PX, hPX⟩ : ∃ PX, Hid (d.parts v1 v2 v3 v4 = PX) := ⟨_, rfl⟩
  have EX : Hid (X = flatP PX) := by show _ = _; rw [eX, hPX.out]
  rw [hPX.out] at OO LL
  have hk0 : PX[0]? = some [.int .i64 d.k] := by rw [← hPX.out]; rfl
  obtain ⟨ok1, ok2, ok3, ok4, ok5, ok6, ok7, ok8, ok9⟩ := ok
  have DF : Hid (∀ u, Below w.heap.size w u → Calls Try.prog 18 #[.agg X] u (EncR u (fldE d) (fldB d))) := fun u hu => rf_any P X d u (HXI.out u hu) hsm (by omega) (by omega)
  rw [he] at DF
  have hOE := opErr_at_ok (by omega) (by omega) he
  obtain ⟨Z, hZ⟩ : ∃ Z, Hid (flatP ((kOp 0).parts nilV nilV nilV nilV) = Z) := ⟨_, rfl⟩
  have hZ0 : Hid (Z.size = 446) := by show _ = _; rw [← hZ.out]; rfl
  obtain ⟨hzz, hst⟩ := zero_array (P := Try.prog) (t := 48) (n := 446) Z (by rw [← hZ.out]; exact zop_zero) hZ0.out (by rw [← hZ.out]; exact zop_one)
  obtain ⟨z1, z2, z3, z4, z5, z6, z7, z8, z9⟩ := kOp_ok (k := 3) (by unfold i64R; omega)
  obtain ⟨PY, hPY⟩ : ∃ PY, Hid ((kOp 3).parts nilV nilV nilV nilV = PY) := ⟨_, rfl⟩
  obtain ⟨Y0, hY0⟩ : ∃ Y, Hid (flatP PY = Y) := ⟨_, rfl⟩
  have BK := Lib.hid (build_kind 3)
  rw [hPY.out, hY0.out] at BK
  have hY00 : Hid (Y0.size = 446) := by show _ = _; rw [← hY0.out, ← hPY.out]; exact (kOp_shape 3).1
  have HY01 : Hid (∀ v ∈ Y0, v.oneCell' = true) := by show ∀ _ ∈ _, _; rw [← hY0.out, ← hPY.out]; exact (kOp_shape 3).2
  have HIY0 : Hid ((Try.prog.info? 48).map (·.size) = some Y0.size) := by show _ = _; rw [hY00.out]; exact info_op
  have HZY : Hid (Z.size = Y0.size) := by show _ = _; rw [hZ0.out, hY00.out]
  have hkeep : keepD d = { kOp 3 with a := d.a } := by unfold keepD; simp only [hk]; try rfl
  have hin : Hid (∀ u, Below w.heap.size w u → OpIn (fun _ => True) u (flatP (PY.set 2 ((d.a.d v1).parts.flatten))) (keepD d)) := fun u hu => by
    obtain ⟨j1, j2, j3, j4⟩ := HIn.out u hu
    rw [hkeep]
    exact ⟨v1, nilV, nilV, nilV, (by rw [← hPY.out]; try rfl), ⟨z1, z2, ok3, z4, z5, z6, z7, z8, z9⟩, ⟨j1, trivial⟩, ⟨intsV_nil _, trivial⟩, ⟨intsV_nil _, trivial⟩, ⟨numsV_nil _, trivial⟩⟩
  obtain ⟨Y, hY⟩ : ∃ Y, Hid (flatP (PY.set 2 ((d.a.d v1).parts.flatten)) = Y) := ⟨_, rfl⟩
  rw [hY.out] at hin
  have hYs := (hin.out w (Below.refl _ w)).size
  have HIY : Hid ((Try.prog.info? 48).map (·.size) = some Y.size) := by show _ = _; rw [hYs]; exact info_op
  have DS : Hid (∀ u, Below w.heap.size w u → Calls Try.prog 20 #[.agg X, .agg Y] u (Tells u (SameD d (keepD d)))) := fun u hu => sop_any _ _ X Y d (keepD d) u (HXI.out u hu) (hin.out u hu)
  rw [hk] at hk0
  have hl : ((d.a.d v1).parts.flatten).length = 67 := AtP.len ok3
  have hpx : Hid (PX[2]? = some ((d.a.d v1).parts.flatten)) := by show _ = _; rw [← hPX.out]; rfl
  have HL1 : Hid (∀ v ∈ (d.a.d v1).parts.flatten, v.oneCell' = true) := fun v hv => HX1.out v (by rw [EX.out, flatP, List.mem_toArray, List.mem_flatten]; exact ⟨_, List.mem_of_getElem? hpx.out, hv⟩)
  obtain ⟨q, hpy, hpl⟩ : ∃ q, Hid (PY[2]? = some q) ∧ Hid (q.length = 67) := ⟨_, (by show _ = _; rw [← hPY.out]; rfl), by show _ = _; rfl⟩
  have hoy : Hid (offP PY 2 = 239) := by show _ = _; rw [← hPY.out, kOp_off]; rfl
  obtain ⟨L, hL⟩ : ∃ L, (d.a.d v1).parts.flatten = L := ⟨_, rfl⟩
  rw [hL] at hl hpx HL1 hY
  have HIL : Hid ((Try.prog.info? 35).map (·.size) = some L.length) := by show _ = _; rw [hl]; kernel_rfl
  have hlq : L.length = q.length := by rw [hl, hpl.out]
  clear hl hL
  clear hsm eX i1 i2 i3 i4 ok1 ok2 ok3 ok4 ok5 ok6 ok7 ok8 ok9 hX0 hk he hkeep hYs z1 z2 z3 z4 z5 z6 z7 z8 z9
  unfold VoR
  rw [hOE]
  obtain ⟨sd, hsd⟩ : ∃ p : Prop, p = SameD d (keepD d) := ⟨_, rfl⟩
  rw [← hsd] at DS
  open Classical in
  have HOE : Hid ((if SameD d (keepD d) then (0 : Int) else 2) = if sd then 0 else 2) := by show _ = _; rw [hsd]
  obtain ⟨RV, HRV⟩ : ∃ r : Int, Hid (r = if SameD d (keepD d) then (0 : Int) else 2) := ⟨_, rfl⟩
  rw [← HRV.out]
  clear hOE hsd
  by_cases hp : sd
  case pos =>
    have HP := Lib.hid hp
    clear hp
    go_enter Try.func11, Try.ntmps11
    go_wp2_with (first
      | ((with_reducible refine at_load (.tmp 6) ?_); refine wpList_load_1 3 (.tmp 6) rfl w.heap.size 0 (.int .i64 3) ((GX.out.to EX.out).cellAt (k := 0) hk0 rfl) rfl _ Try.underlying3 rfl rfl ?_)
      | ((with_reducible refine at_load (.tmp 10) ?_); refine wpList_load_1 3 (.tmp 10) rfl w.heap.size 0 (.int .i64 3) ((GX.out.to EX.out).cellAt (k := 0) hk0 rfl) rfl _ Try.underlying3 rfl rfl ?_)
      | ((with_reducible refine at_build (some 24) ?_); refine wpList_build rfl 48 _ rfl #[(0, .int .i64 3)] (by simp [Act.eval, Act.put]) (.agg Y0) (BK.out _) ?_)
      | ((with_reducible refine at_store (.tmp 5) ?_); refine wpList_store_blk rfl 48 (.tmp 5) _ rfl w1.heap.size Y0 rfl rfl Z (Blk.new rfl) HZY.out HIY0.out HY01.out ?_; intro w2 U2 B2; have hb2 := U2.below ((Below.refl _ w1).alloc (Nat.le_refl _) (.cells Z 48)) (Nat.le_refl _); have K2 := Lib.hid B2; have G2 := Lib.hid (G1.out.call hb2); have HB2 := Lib.hid (HB1.out.trans (hb2.mono HB1.out.size)); have HLT := Lib.hid G1.out.lt; clear U2 B2 hb2)
      | ((with_reducible refine at_load (.tmp 22) ?_); refine wpList_load_1 3 (.tmp 22) rfl w.heap.size 0 (.int .i64 3) ((G1.out.to EX.out).cellAt (k := 0) hk0 rfl) rfl _ Try.underlying3 rfl rfl ?_)
      | ((with_reducible refine at_load (.tmp 25) ?_); refine wpList_load_1 3 (.tmp 25) rfl w.heap.size 0 (.int .i64 3) ((G2.out.to EX.out).cellAt (k := 0) hk0 rfl) rfl _ Try.underlying3 rfl rfl ?_)
      | ((with_reducible refine at_load (.tmp 34) ?_); refine wpList_load_part 35 (.tmp 34) rfl w.heap.size _ 2 239 L (G2.out.to EX.out) hpx.out (by rw [OO.out]; rfl) rfl _ Try.underlying35 rfl HIL.out rfl ?_)
      | ((with_reducible refine at_store (.tmp 36) ?_); refine wpList_store_part rfl 35 (.tmp 36) _ rfl w1.heap.size PY 2 q L (K2.out.to hY0.out.symm) hpy.out (by rw [hoy.out]; rfl) rfl hlq HIL.out HL1.out ?_; intro w3 U3 B3; rw [hY.out] at B3; have KY := Lib.hid B3; have G3 := Lib.hid (U3.blk G2.out (Nat.ne_of_lt HLT.out)); have HB3 := Lib.hid (U3.below HB2.out HB1.out.size); clear U3 B3)
      | ((with_reducible refine at_load (.tmp 1) ?_); refine wpList_load_g 48 (.tmp 1) rfl w.heap.size rfl X _ G3.out Try.underlying48 rfl HIX.out rfl ?_)
      | ((with_reducible refine at_load (.tmp 5) ?_); refine wpList_load_g 48 (.tmp 5) rfl w1.heap.size rfl Y _ KY.out Try.underlying48 rfl HIY.out rfl ?_)
      | (go_at_call 20; refine (DS.out _ HB3.out).mono ?_; rintro en w5 hh; obtain ⟨rfl, hb5⟩ := tells_true hh HP.out; have HB5 := Lib.hid (HB3.out.trans (hb5.mono HB3.out.size)); clear hh hb5)
      | ((with_reducible refine at_load (.tmp 1) ?_); refine wpList_load_g 48 (.tmp 1) rfl w.heap.size rfl X _ GX.out Try.underlying48 rfl HIX.out rfl ?_)
      | (go_at_call 18; refine (DF.out _ HB0.out).mono ?_; rintro en w1 ⟨u1, rfl, hy1, hb1⟩; have G1 := Lib.hid (GX.out.call hb1); have HB1 := Lib.hid (HB0.out.trans (hb1.mono HB0.out.size)); clear hy1 hb1)
      | fail)
    go_ret
    exact ⟨by rw [HRV.out, HOE.out, if_pos HP.out]; rfl, HB5.out⟩
  case neg =>
    have HP := Lib.hid hp
    clear hp
    go_enter Try.func11, Try.ntmps11
    go_wp2_with (first
      | ((with_reducible refine at_load (.tmp 6) ?_); refine wpList_load_1 3 (.tmp 6) rfl w.heap.size 0 (.int .i64 3) ((GX.out.to EX.out).cellAt (k := 0) hk0 rfl) rfl _ Try.underlying3 rfl rfl ?_)
      | ((with_reducible refine at_load (.tmp 10) ?_); refine wpList_load_1 3 (.tmp 10) rfl w.heap.size 0 (.int .i64 3) ((GX.out.to EX.out).cellAt (k := 0) hk0 rfl) rfl _ Try.underlying3 rfl rfl ?_)
      | ((with_reducible refine at_build (some 24) ?_); refine wpList_build rfl 48 _ rfl #[(0, .int .i64 3)] (by simp [Act.eval, Act.put]) (.agg Y0) (BK.out _) ?_)
      | ((with_reducible refine at_store (.tmp 5) ?_); refine wpList_store_blk rfl 48 (.tmp 5) _ rfl w1.heap.size Y0 rfl rfl Z (Blk.new rfl) HZY.out HIY0.out HY01.out ?_; intro w2 U2 B2; have hb2 := U2.below ((Below.refl _ w1).alloc (Nat.le_refl _) (.cells Z 48)) (Nat.le_refl _); have K2 := Lib.hid B2; have G2 := Lib.hid (G1.out.call hb2); have HB2 := Lib.hid (HB1.out.trans (hb2.mono HB1.out.size)); have HLT := Lib.hid G1.out.lt; clear U2 B2 hb2)
      | ((with_reducible refine at_load (.tmp 22) ?_); refine wpList_load_1 3 (.tmp 22) rfl w.heap.size 0 (.int .i64 3) ((G1.out.to EX.out).cellAt (k := 0) hk0 rfl) rfl _ Try.underlying3 rfl rfl ?_)
      | ((with_reducible refine at_load (.tmp 25) ?_); refine wpList_load_1 3 (.tmp 25) rfl w.heap.size 0 (.int .i64 3) ((G2.out.to EX.out).cellAt (k := 0) hk0 rfl) rfl _ Try.underlying3 rfl rfl ?_)
      | ((with_reducible refine at_load (.tmp 34) ?_); refine wpList_load_part 35 (.tmp 34) rfl w.heap.size _ 2 239 L (G2.out.to EX.out) hpx.out (by rw [OO.out]; rfl) rfl _ Try.underlying35 rfl HIL.out rfl ?_)
      | ((with_reducible refine at_store (.tmp 36) ?_); refine wpList_store_part rfl 35 (.tmp 36) _ rfl w1.heap.size PY 2 q L (K2.out.to hY0.out.symm) hpy.out (by rw [hoy.out]; rfl) rfl hlq HIL.out HL1.out ?_; intro w3 U3 B3; rw [hY.out] at B3; have KY := Lib.hid B3; have G3 := Lib.hid (U3.blk G2.out (Nat.ne_of_lt HLT.out)); have HB3 := Lib.hid (U3.below HB2.out HB1.out.size); clear U3 B3)
      | ((with_reducible refine at_load (.tmp 1) ?_); refine wpList_load_g 48 (.tmp 1) rfl w.heap.size rfl X _ G3.out Try.underlying48 rfl HIX.out rfl ?_)
      | ((with_reducible refine at_load (.tmp 5) ?_); refine wpList_load_g 48 (.tmp 5) rfl w1.heap.size rfl Y _ KY.out Try.underlying48 rfl HIY.out rfl ?_)
      | (go_at_call 20; refine (DS.out _ HB3.out).mono ?_; rintro en w5 hh; obtain ⟨rfl, hb5⟩ := tells_false hh HP.out; have HB5 := Lib.hid (HB3.out.trans (hb5.mono HB3.out.size)); clear hh hb5)
      | ((with_reducible refine at_load (.tmp 1) ?_); refine wpList_load_g 48 (.tmp 1) rfl w.heap.size rfl X _ GX.out Try.underlying48 rfl HIX.out rfl ?_)
      | (go_at_call 18; refine (DF.out _ HB0.out).mono ?_; rintro en w1 ⟨u1, rfl, hy1, hb1⟩; have G1 := Lib.hid (GX.out.call hb1); have HB1 := Lib.hid (HB0.out.trans (hb1.mono HB0.out.size)); clear hy1 hb1)
      | fail)
    go_ret
    exact ⟨by rw [HRV.out, HOE.out, if_neg HP.out]; rfl, HB5.out⟩

set_option maxRecDepth 100000 in
set_option maxHeartbeats 16000000 in
theorem vo_4 (P : Value → Prop) (X : Array Value) (d : OpD) (w : World) (hX : OpIn P w X d) (hsm : SmallD d) (hk : d.k = 4) (he : fldE d = 0) : Calls Try.prog 11 #[.agg X] w (VoR w d) := by
  have hX0 := hX.size
  have HX1 := Lib.hid hX.one
  have HIX : Hid ((Try.prog.info? 48).map (·.size) = some X.size) := by show _ = _; rw [hX0]; exact info_op
  have HXI := Lib.hid (fun u (hu : Below w.heap.size w u) => opE.below hX hu)
  have HB0 := Lib.hid ((Below.refl w.heap.size w).alloc (Nat.le_refl _) (.cells X 48))
  have GX : Hid (Blk (w.alloc (.cells X 48)) w.heap.size X) := Blk.new rfl
  obtain ⟨v1, v2, v3, v4, eX, ok, ⟨i1, _⟩, ⟨i2, _⟩, ⟨i3, _⟩, ⟨i4, _⟩⟩ := hX
  have HIn := Lib.hid (fun u (hu : Below w.heap.size w u) => And.intro (i1.below hu) (And.intro (i2.below hu) (And.intro (i3.below hu) (i4.below hu))))
  have OO := Lib.hid (op_offs ok v1 v2 v3 v4)
  have LL := Lib.hid (OpD.lens ok v1 v2 v3 v4)
  obtain ⟨PX, hPX⟩ : ∃ PX, Hid (d.parts v1 v2 v3 v4 = PX) := ⟨_, rfl⟩
  have EX : Hid (X = flatP PX) := by show _ = _; rw [eX, hPX.out]
  rw [hPX.out] at OO LL
  have hk0 : PX[0]? = some [.int .i64 d.k] := by rw [← hPX.out]; rfl
  obtain ⟨ok1, ok2, ok3, ok4, ok5, ok6, ok7, ok8, ok9⟩ := ok
  have DF : Hid (∀ u, Below w.heap.size w u → Calls Try.prog 18 #[.agg X] u (EncR u (fldE d) (fldB d))) := fun u hu => rf_any P X d u (HXI.out u hu) hsm (by omega) (by omega)
  rw [he] at DF
  have hOE := opErr_at_ok (by omega) (by omega) he
  obtain ⟨Z, hZ⟩ : ∃ Z, Hid (flatP ((kOp 0).parts nilV nilV nilV nilV) = Z) := ⟨_, rfl⟩
  have hZ0 : Hid (Z.size = 446) := by show _ = _; rw [← hZ.out]; rfl
  obtain ⟨hzz, hst⟩ := zero_array (P := Try.prog) (t := 48) (n := 446) Z (by rw [← hZ.out]; exact zop_zero) hZ0.out (by rw [← hZ.out]; exact zop_one)
  obtain ⟨z1, z2, z3, z4, z5, z6, z7, z8, z9⟩ := kOp_ok (k := 4) (by unfold i64R; omega)
  obtain ⟨PY, hPY⟩ : ∃ PY, Hid ((kOp 4).parts nilV nilV nilV nilV = PY) := ⟨_, rfl⟩
  obtain ⟨Y0, hY0⟩ : ∃ Y, Hid (flatP PY = Y) := ⟨_, rfl⟩
  have BK := Lib.hid (build_kind 4)
  rw [hPY.out, hY0.out] at BK
  have hY00 : Hid (Y0.size = 446) := by show _ = _; rw [← hY0.out, ← hPY.out]; exact (kOp_shape 4).1
  have HY01 : Hid (∀ v ∈ Y0, v.oneCell' = true) := by show ∀ _ ∈ _, _; rw [← hY0.out, ← hPY.out]; exact (kOp_shape 4).2
  have HIY0 : Hid ((Try.prog.info? 48).map (·.size) = some Y0.size) := by show _ = _; rw [hY00.out]; exact info_op
  have HZY : Hid (Z.size = Y0.size) := by show _ = _; rw [hZ0.out, hY00.out]
  have hkeep : keepD d = { kOp 4 with c1 := d.c1, c2 := d.c2 } := by unfold keepD; simp only [hk]; try rfl
  have hin : Hid (∀ u, Below w.heap.size w u → OpIn (fun _ => True) u (flatP (PY.set 3 ([(d.c1.d v2).cells, (d.c2.d v3).cells].flatten))) (keepD d)) := fun u hu => by
    obtain ⟨j1, j2, j3, j4⟩ := HIn.out u hu
    rw [hkeep]
    exact ⟨nilV, v2, v3, nilV, (by rw [← hPY.out]; try rfl), ⟨z1, z2, z3, ok4, ok5, z6, z7, z8, z9⟩, ⟨intsV_nil _, trivial⟩, ⟨j2, trivial⟩, ⟨j3, trivial⟩, ⟨numsV_nil _, trivial⟩⟩
  obtain ⟨Y, hY⟩ : ∃ Y, Hid (flatP (PY.set 3 ([(d.c1.d v2).cells, (d.c2.d v3).cells].flatten)) = Y) := ⟨_, rfl⟩
  rw [hY.out] at hin
  have hYs := (hin.out w (Below.refl _ w)).size
  have HIY : Hid ((Try.prog.info? 48).map (·.size) = some Y.size) := by show _ = _; rw [hYs]; exact info_op
  have DS : Hid (∀ u, Below w.heap.size w u → Calls Try.prog 20 #[.agg X, .agg Y] u (Tells u (SameD d (keepD d)))) := fun u hu => sop_any _ _ X Y d (keepD d) u (HXI.out u hu) (hin.out u hu)
  rw [hk] at hk0
  have hl : ([(d.c1.d v2).cells, (d.c2.d v3).cells].flatten).length = 70 := by simp [ClP.len ok4, ClP.len ok5]
  have hpx : Hid (PX[3]? = some ([(d.c1.d v2).cells, (d.c2.d v3).cells].flatten)) := by show _ = _; rw [← hPX.out]; rfl
  have HL1 : Hid (∀ v ∈ [(d.c1.d v2).cells, (d.c2.d v3).cells].flatten, v.oneCell' = true) := fun v hv => HX1.out v (by rw [EX.out, flatP, List.mem_toArray, List.mem_flatten]; exact ⟨_, List.mem_of_getElem? hpx.out, hv⟩)
  obtain ⟨q, hpy, hpl⟩ : ∃ q, Hid (PY[3]? = some q) ∧ Hid (q.length = 70) := ⟨_, (by show _ = _; rw [← hPY.out]; rfl), by show _ = _; rfl⟩
  have hoy : Hid (offP PY 3 = 306) := by show _ = _; rw [← hPY.out, kOp_off]; rfl
  obtain ⟨L, hL⟩ : ∃ L, [(d.c1.d v2).cells, (d.c2.d v3).cells].flatten = L := ⟨_, rfl⟩
  rw [hL] at hl hpx HL1 hY
  have HIL : Hid ((Try.prog.info? 39).map (·.size) = some L.length) := by show _ = _; rw [hl]; kernel_rfl
  have hlq : L.length = q.length := by rw [hl, hpl.out]
  clear hl hL
  clear hsm eX i1 i2 i3 i4 ok1 ok2 ok3 ok4 ok5 ok6 ok7 ok8 ok9 hX0 hk he hkeep hYs z1 z2 z3 z4 z5 z6 z7 z8 z9
  unfold VoR
  rw [hOE]
  obtain ⟨sd, hsd⟩ : ∃ p : Prop, p = SameD d (keepD d) := ⟨_, rfl⟩
  rw [← hsd] at DS
  open Classical in
  have HOE : Hid ((if SameD d (keepD d) then (0 : Int) else 2) = if sd then 0 else 2) := by show _ = _; rw [hsd]
  obtain ⟨RV, HRV⟩ : ∃ r : Int, Hid (r = if SameD d (keepD d) then (0 : Int) else 2) := ⟨_, rfl⟩
  rw [← HRV.out]
  clear hOE hsd
  by_cases hp : sd
  case pos =>
    have HP := Lib.hid hp
    clear hp
    go_enter Try.func11, Try.ntmps11
    go_wp2_with (first
      | ((with_reducible refine at_load (.tmp 6) ?_); refine wpList_load_1 3 (.tmp 6) rfl w.heap.size 0 (.int .i64 4) ((GX.out.to EX.out).cellAt (k := 0) hk0 rfl) rfl _ Try.underlying3 rfl rfl ?_)
      | ((with_reducible refine at_load (.tmp 10) ?_); refine wpList_load_1 3 (.tmp 10) rfl w.heap.size 0 (.int .i64 4) ((GX.out.to EX.out).cellAt (k := 0) hk0 rfl) rfl _ Try.underlying3 rfl rfl ?_)
      | ((with_reducible refine at_build (some 24) ?_); refine wpList_build rfl 48 _ rfl #[(0, .int .i64 4)] (by simp [Act.eval, Act.put]) (.agg Y0) (BK.out _) ?_)
      | ((with_reducible refine at_store (.tmp 5) ?_); refine wpList_store_blk rfl 48 (.tmp 5) _ rfl w1.heap.size Y0 rfl rfl Z (Blk.new rfl) HZY.out HIY0.out HY01.out ?_; intro w2 U2 B2; have hb2 := U2.below ((Below.refl _ w1).alloc (Nat.le_refl _) (.cells Z 48)) (Nat.le_refl _); have K2 := Lib.hid B2; have G2 := Lib.hid (G1.out.call hb2); have HB2 := Lib.hid (HB1.out.trans (hb2.mono HB1.out.size)); have HLT := Lib.hid G1.out.lt; clear U2 B2 hb2)
      | ((with_reducible refine at_load (.tmp 22) ?_); refine wpList_load_1 3 (.tmp 22) rfl w.heap.size 0 (.int .i64 4) ((G1.out.to EX.out).cellAt (k := 0) hk0 rfl) rfl _ Try.underlying3 rfl rfl ?_)
      | ((with_reducible refine at_load (.tmp 25) ?_); refine wpList_load_1 3 (.tmp 25) rfl w.heap.size 0 (.int .i64 4) ((G2.out.to EX.out).cellAt (k := 0) hk0 rfl) rfl _ Try.underlying3 rfl rfl ?_)
      | ((with_reducible refine at_load (.tmp 39) ?_); refine wpList_load_part 39 (.tmp 39) rfl w.heap.size _ 3 306 L (G2.out.to EX.out) hpx.out (by rw [OO.out]; rfl) rfl _ Try.underlying39 rfl HIL.out rfl ?_)
      | ((with_reducible refine at_store (.tmp 41) ?_); refine wpList_store_part rfl 39 (.tmp 41) _ rfl w1.heap.size PY 3 q L (K2.out.to hY0.out.symm) hpy.out (by rw [hoy.out]; rfl) rfl hlq HIL.out HL1.out ?_; intro w3 U3 B3; rw [hY.out] at B3; have KY := Lib.hid B3; have G3 := Lib.hid (U3.blk G2.out (Nat.ne_of_lt HLT.out)); have HB3 := Lib.hid (U3.below HB2.out HB1.out.size); clear U3 B3)
      | ((with_reducible refine at_load (.tmp 1) ?_); refine wpList_load_g 48 (.tmp 1) rfl w.heap.size rfl X _ G3.out Try.underlying48 rfl HIX.out rfl ?_)
      | ((with_reducible refine at_load (.tmp 5) ?_); refine wpList_load_g 48 (.tmp 5) rfl w1.heap.size rfl Y _ KY.out Try.underlying48 rfl HIY.out rfl ?_)
      | (go_at_call 20; refine (DS.out _ HB3.out).mono ?_; rintro en w5 hh; obtain ⟨rfl, hb5⟩ := tells_true hh HP.out; have HB5 := Lib.hid (HB3.out.trans (hb5.mono HB3.out.size)); clear hh hb5)
      | ((with_reducible refine at_load (.tmp 1) ?_); refine wpList_load_g 48 (.tmp 1) rfl w.heap.size rfl X _ GX.out Try.underlying48 rfl HIX.out rfl ?_)
      | (go_at_call 18; refine (DF.out _ HB0.out).mono ?_; rintro en w1 ⟨u1, rfl, hy1, hb1⟩; have G1 := Lib.hid (GX.out.call hb1); have HB1 := Lib.hid (HB0.out.trans (hb1.mono HB0.out.size)); clear hy1 hb1)
      | fail)
    go_ret
    exact ⟨by rw [HRV.out, HOE.out, if_pos HP.out]; rfl, HB5.out⟩
  case neg =>
    have HP := Lib.hid hp
    clear hp
    go_enter Try.func11, Try.ntmps11
    go_wp2_with (first
      | ((with_reducible refine at_load (.tmp 6) ?_); refine wpList_load_1 3 (.tmp 6) rfl w.heap.size 0 (.int .i64 4) ((GX.out.to EX.out).cellAt (k := 0) hk0 rfl) rfl _ Try.underlying3 rfl rfl ?_)
      | ((with_reducible refine at_load (.tmp 10) ?_); refine wpList_load_1 3 (.tmp 10) rfl w.heap.size 0 (.int .i64 4) ((GX.out.to EX.out).cellAt (k := 0) hk0 rfl) rfl _ Try.underlying3 rfl rfl ?_)
      | ((with_reducible refine at_build (some 24) ?_); refine wpList_build rfl 48 _ rfl #[(0, .int .i64 4)] (by simp [Act.eval, Act.put]) (.agg Y0) (BK.out _) ?_)
      | ((with_reducible refine at_store (.tmp 5) ?_); refine wpList_store_blk rfl 48 (.tmp 5) _ rfl w1.heap.size Y0 rfl rfl Z (Blk.new rfl) HZY.out HIY0.out HY01.out ?_; intro w2 U2 B2; have hb2 := U2.below ((Below.refl _ w1).alloc (Nat.le_refl _) (.cells Z 48)) (Nat.le_refl _); have K2 := Lib.hid B2; have G2 := Lib.hid (G1.out.call hb2); have HB2 := Lib.hid (HB1.out.trans (hb2.mono HB1.out.size)); have HLT := Lib.hid G1.out.lt; clear U2 B2 hb2)
      | ((with_reducible refine at_load (.tmp 22) ?_); refine wpList_load_1 3 (.tmp 22) rfl w.heap.size 0 (.int .i64 4) ((G1.out.to EX.out).cellAt (k := 0) hk0 rfl) rfl _ Try.underlying3 rfl rfl ?_)
      | ((with_reducible refine at_load (.tmp 25) ?_); refine wpList_load_1 3 (.tmp 25) rfl w.heap.size 0 (.int .i64 4) ((G2.out.to EX.out).cellAt (k := 0) hk0 rfl) rfl _ Try.underlying3 rfl rfl ?_)
      | ((with_reducible refine at_load (.tmp 39) ?_); refine wpList_load_part 39 (.tmp 39) rfl w.heap.size _ 3 306 L (G2.out.to EX.out) hpx.out (by rw [OO.out]; rfl) rfl _ Try.underlying39 rfl HIL.out rfl ?_)
      | ((with_reducible refine at_store (.tmp 41) ?_); refine wpList_store_part rfl 39 (.tmp 41) _ rfl w1.heap.size PY 3 q L (K2.out.to hY0.out.symm) hpy.out (by rw [hoy.out]; rfl) rfl hlq HIL.out HL1.out ?_; intro w3 U3 B3; rw [hY.out] at B3; have KY := Lib.hid B3; have G3 := Lib.hid (U3.blk G2.out (Nat.ne_of_lt HLT.out)); have HB3 := Lib.hid (U3.below HB2.out HB1.out.size); clear U3 B3)
      | ((with_reducible refine at_load (.tmp 1) ?_); refine wpList_load_g 48 (.tmp 1) rfl w.heap.size rfl X _ G3.out Try.underlying48 rfl HIX.out rfl ?_)
      | ((with_reducible refine at_load (.tmp 5) ?_); refine wpList_load_g 48 (.tmp 5) rfl w1.heap.size rfl Y _ KY.out Try.underlying48 rfl HIY.out rfl ?_)
      | (go_at_call 20; refine (DS.out _ HB3.out).mono ?_; rintro en w5 hh; obtain ⟨rfl, hb5⟩ := tells_false hh HP.out; have HB5 := Lib.hid (HB3.out.trans (hb5.mono HB3.out.size)); clear hh hb5)
      | ((with_reducible refine at_load (.tmp 1) ?_); refine wpList_load_g 48 (.tmp 1) rfl w.heap.size rfl X _ GX.out Try.underlying48 rfl HIX.out rfl ?_)
      | (go_at_call 18; refine (DF.out _ HB0.out).mono ?_; rintro en w1 ⟨u1, rfl, hy1, hb1⟩; have G1 := Lib.hid (GX.out.call hb1); have HB1 := Lib.hid (HB0.out.trans (hb1.mono HB0.out.size)); clear hy1 hb1)
      | fail)
    go_ret
    exact ⟨by rw [HRV.out, HOE.out, if_neg HP.out]; rfl, HB5.out⟩

set_option maxRecDepth 100000 in
set_option maxHeartbeats 16000000 in
theorem vo_5 (P : Value → Prop) (X : Array Value) (d : OpD) (w : World) (hX : OpIn P w X d) (hsm : SmallD d) (hk : d.k = 5) (he : fldE d = 0) : Calls Try.prog 11 #[.agg X] w (VoR w d) := by
  have hX0 := hX.size
  have HX1 := Lib.hid hX.one
  have HIX : Hid ((Try.prog.info? 48).map (·.size) = some X.size) := by show _ = _; rw [hX0]; exact info_op
  have HXI := Lib.hid (fun u (hu : Below w.heap.size w u) => opE.below hX hu)
  have HB0 := Lib.hid ((Below.refl w.heap.size w).alloc (Nat.le_refl _) (.cells X 48))
  have GX : Hid (Blk (w.alloc (.cells X 48)) w.heap.size X) := Blk.new rfl
  obtain ⟨v1, v2, v3, v4, eX, ok, ⟨i1, _⟩, ⟨i2, _⟩, ⟨i3, _⟩, ⟨i4, _⟩⟩ := hX
  have HIn := Lib.hid (fun u (hu : Below w.heap.size w u) => And.intro (i1.below hu) (And.intro (i2.below hu) (And.intro (i3.below hu) (i4.below hu))))
  have OO := Lib.hid (op_offs ok v1 v2 v3 v4)
  have LL := Lib.hid (OpD.lens ok v1 v2 v3 v4)
  obtain ⟨PX, hPX⟩ : ∃ PX, Hid (d.parts v1 v2 v3 v4 = PX) := ⟨_, rfl⟩
  have EX : Hid (X = flatP PX) := by show _ = _; rw [eX, hPX.out]
  rw [hPX.out] at OO LL
  have hk0 : PX[0]? = some [.int .i64 d.k] := by rw [← hPX.out]; rfl
  obtain ⟨ok1, ok2, ok3, ok4, ok5, ok6, ok7, ok8, ok9⟩ := ok
  have DF : Hid (∀ u, Below w.heap.size w u → Calls Try.prog 18 #[.agg X] u (EncR u (fldE d) (fldB d))) := fun u hu => rf_any P X d u (HXI.out u hu) hsm (by omega) (by omega)
  rw [he] at DF
  have hOE := opErr_at_ok (by omega) (by omega) he
  obtain ⟨Z, hZ⟩ : ∃ Z, Hid (flatP ((kOp 0).parts nilV nilV nilV nilV) = Z) := ⟨_, rfl⟩
  have hZ0 : Hid (Z.size = 446) := by show _ = _; rw [← hZ.out]; rfl
  obtain ⟨hzz, hst⟩ := zero_array (P := Try.prog) (t := 48) (n := 446) Z (by rw [← hZ.out]; exact zop_zero) hZ0.out (by rw [← hZ.out]; exact zop_one)
  obtain ⟨z1, z2, z3, z4, z5, z6, z7, z8, z9⟩ := kOp_ok (k := 5) (by unfold i64R; omega)
  obtain ⟨PY, hPY⟩ : ∃ PY, Hid ((kOp 5).parts nilV nilV nilV nilV = PY) := ⟨_, rfl⟩
  obtain ⟨Y0, hY0⟩ : ∃ Y, Hid (flatP PY = Y) := ⟨_, rfl⟩
  have BK := Lib.hid (build_kind 5)
  rw [hPY.out, hY0.out] at BK
  have hY00 : Hid (Y0.size = 446) := by show _ = _; rw [← hY0.out, ← hPY.out]; exact (kOp_shape 5).1
  have HY01 : Hid (∀ v ∈ Y0, v.oneCell' = true) := by show ∀ _ ∈ _, _; rw [← hY0.out, ← hPY.out]; exact (kOp_shape 5).2
  have HIY0 : Hid ((Try.prog.info? 48).map (·.size) = some Y0.size) := by show _ = _; rw [hY00.out]; exact info_op
  have HZY : Hid (Z.size = Y0.size) := by show _ = _; rw [hZ0.out, hY00.out]
  have hkeep : keepD d = { kOp 5 with tc := d.tc, tl := d.tl } := by unfold keepD; simp only [hk]; try rfl
  have hin : Hid (∀ u, Below w.heap.size w u → OpIn (fun _ => True) u (flatP (PY.set 4 ([d.tc.cells, [v4]].flatten))) (keepD d)) := fun u hu => by
    obtain ⟨j1, j2, j3, j4⟩ := HIn.out u hu
    rw [hkeep]
    exact ⟨nilV, nilV, nilV, v4, (by rw [← hPY.out]; try rfl), ⟨z1, z2, z3, z4, z5, ok6, z7, z8, z9⟩, ⟨intsV_nil _, trivial⟩, ⟨intsV_nil _, trivial⟩, ⟨intsV_nil _, trivial⟩, ⟨j4, trivial⟩⟩
  obtain ⟨Y, hY⟩ : ∃ Y, Hid (flatP (PY.set 4 ([d.tc.cells, [v4]].flatten)) = Y) := ⟨_, rfl⟩
  rw [hY.out] at hin
  have hYs := (hin.out w (Below.refl _ w)).size
  have HIY : Hid ((Try.prog.info? 48).map (·.size) = some Y.size) := by show _ = _; rw [hYs]; exact info_op
  have DS : Hid (∀ u, Below w.heap.size w u → Calls Try.prog 20 #[.agg X, .agg Y] u (Tells u (SameD d (keepD d)))) := fun u hu => sop_any _ _ X Y d (keepD d) u (HXI.out u hu) (hin.out u hu)
  rw [hk] at hk0
  have hl : ([d.tc.cells, [v4]].flatten).length = 34 := by simp [CpD.len ok6]
  have hpx : Hid (PX[4]? = some ([d.tc.cells, [v4]].flatten)) := by show _ = _; rw [← hPX.out]; rfl
  have HL1 : Hid (∀ v ∈ [d.tc.cells, [v4]].flatten, v.oneCell' = true) := fun v hv => HX1.out v (by rw [EX.out, flatP, List.mem_toArray, List.mem_flatten]; exact ⟨_, List.mem_of_getElem? hpx.out, hv⟩)
  obtain ⟨q, hpy, hpl⟩ : ∃ q, Hid (PY[4]? = some q) ∧ Hid (q.length = 34) := ⟨_, (by show _ = _; rw [← hPY.out]; rfl), by show _ = _; rfl⟩
  have hoy : Hid (offP PY 4 = 376) := by show _ = _; rw [← hPY.out, kOp_off]; rfl
  obtain ⟨L, hL⟩ : ∃ L, [d.tc.cells, [v4]].flatten = L := ⟨_, rfl⟩
  rw [hL] at hl hpx HL1 hY
  have HIL : Hid ((Try.prog.info? 42).map (·.size) = some L.length) := by show _ = _; rw [hl]; kernel_rfl
  have hlq : L.length = q.length := by rw [hl, hpl.out]
  clear hl hL
  clear hsm eX i1 i2 i3 i4 ok1 ok2 ok3 ok4 ok5 ok6 ok7 ok8 ok9 hX0 hk he hkeep hYs z1 z2 z3 z4 z5 z6 z7 z8 z9
  unfold VoR
  rw [hOE]
  obtain ⟨sd, hsd⟩ : ∃ p : Prop, p = SameD d (keepD d) := ⟨_, rfl⟩
  rw [← hsd] at DS
  open Classical in
  have HOE : Hid ((if SameD d (keepD d) then (0 : Int) else 2) = if sd then 0 else 2) := by show _ = _; rw [hsd]
  obtain ⟨RV, HRV⟩ : ∃ r : Int, Hid (r = if SameD d (keepD d) then (0 : Int) else 2) := ⟨_, rfl⟩
  rw [← HRV.out]
  clear hOE hsd
  by_cases hp : sd
  case pos =>
    have HP := Lib.hid hp
    clear hp
    go_enter Try.func11, Try.ntmps11
    go_wp2_with (first
      | ((with_reducible refine at_load (.tmp 6) ?_); refine wpList_load_1 3 (.tmp 6) rfl w.heap.size 0 (.int .i64 5) ((GX.out.to EX.out).cellAt (k := 0) hk0 rfl) rfl _ Try.underlying3 rfl rfl ?_)
      | ((with_reducible refine at_load (.tmp 10) ?_); refine wpList_load_1 3 (.tmp 10) rfl w.heap.size 0 (.int .i64 5) ((GX.out.to EX.out).cellAt (k := 0) hk0 rfl) rfl _ Try.underlying3 rfl rfl ?_)
      | ((with_reducible refine at_build (some 24) ?_); refine wpList_build rfl 48 _ rfl #[(0, .int .i64 5)] (by simp [Act.eval, Act.put]) (.agg Y0) (BK.out _) ?_)
      | ((with_reducible refine at_store (.tmp 5) ?_); refine wpList_store_blk rfl 48 (.tmp 5) _ rfl w1.heap.size Y0 rfl rfl Z (Blk.new rfl) HZY.out HIY0.out HY01.out ?_; intro w2 U2 B2; have hb2 := U2.below ((Below.refl _ w1).alloc (Nat.le_refl _) (.cells Z 48)) (Nat.le_refl _); have K2 := Lib.hid B2; have G2 := Lib.hid (G1.out.call hb2); have HB2 := Lib.hid (HB1.out.trans (hb2.mono HB1.out.size)); have HLT := Lib.hid G1.out.lt; clear U2 B2 hb2)
      | ((with_reducible refine at_load (.tmp 22) ?_); refine wpList_load_1 3 (.tmp 22) rfl w.heap.size 0 (.int .i64 5) ((G1.out.to EX.out).cellAt (k := 0) hk0 rfl) rfl _ Try.underlying3 rfl rfl ?_)
      | ((with_reducible refine at_load (.tmp 25) ?_); refine wpList_load_1 3 (.tmp 25) rfl w.heap.size 0 (.int .i64 5) ((G2.out.to EX.out).cellAt (k := 0) hk0 rfl) rfl _ Try.underlying3 rfl rfl ?_)
      | ((with_reducible refine at_load (.tmp 44) ?_); refine wpList_load_part 42 (.tmp 44) rfl w.heap.size _ 4 376 L (G2.out.to EX.out) hpx.out (by rw [OO.out]; rfl) rfl _ Try.underlying42 rfl HIL.out rfl ?_)
      | ((with_reducible refine at_store (.tmp 46) ?_); refine wpList_store_part rfl 42 (.tmp 46) _ rfl w1.heap.size PY 4 q L (K2.out.to hY0.out.symm) hpy.out (by rw [hoy.out]; rfl) rfl hlq HIL.out HL1.out ?_; intro w3 U3 B3; rw [hY.out] at B3; have KY := Lib.hid B3; have G3 := Lib.hid (U3.blk G2.out (Nat.ne_of_lt HLT.out)); have HB3 := Lib.hid (U3.below HB2.out HB1.out.size); clear U3 B3)
      | ((with_reducible refine at_load (.tmp 1) ?_); refine wpList_load_g 48 (.tmp 1) rfl w.heap.size rfl X _ G3.out Try.underlying48 rfl HIX.out rfl ?_)
      | ((with_reducible refine at_load (.tmp 5) ?_); refine wpList_load_g 48 (.tmp 5) rfl w1.heap.size rfl Y _ KY.out Try.underlying48 rfl HIY.out rfl ?_)
      | (go_at_call 20; refine (DS.out _ HB3.out).mono ?_; rintro en w5 hh; obtain ⟨rfl, hb5⟩ := tells_true hh HP.out; have HB5 := Lib.hid (HB3.out.trans (hb5.mono HB3.out.size)); clear hh hb5)
      | ((with_reducible refine at_load (.tmp 1) ?_); refine wpList_load_g 48 (.tmp 1) rfl w.heap.size rfl X _ GX.out Try.underlying48 rfl HIX.out rfl ?_)
      | (go_at_call 18; refine (DF.out _ HB0.out).mono ?_; rintro en w1 ⟨u1, rfl, hy1, hb1⟩; have G1 := Lib.hid (GX.out.call hb1); have HB1 := Lib.hid (HB0.out.trans (hb1.mono HB0.out.size)); clear hy1 hb1)
      | fail)
    go_ret
    exact ⟨by rw [HRV.out, HOE.out, if_pos HP.out]; rfl, HB5.out⟩
  case neg =>
    have HP := Lib.hid hp
    clear hp
    go_enter Try.func11, Try.ntmps11
    go_wp2_with (first
      | ((with_reducible refine at_load (.tmp 6) ?_); refine wpList_load_1 3 (.tmp 6) rfl w.heap.size 0 (.int .i64 5) ((GX.out.to EX.out).cellAt (k := 0) hk0 rfl) rfl _ Try.underlying3 rfl rfl ?_)
      | ((with_reducible refine at_load (.tmp 10) ?_); refine wpList_load_1 3 (.tmp 10) rfl w.heap.size 0 (.int .i64 5) ((GX.out.to EX.out).cellAt (k := 0) hk0 rfl) rfl _ Try.underlying3 rfl rfl ?_)
      | ((with_reducible refine at_build (some 24) ?_); refine wpList_build rfl 48 _ rfl #[(0, .int .i64 5)] (by simp [Act.eval, Act.put]) (.agg Y0) (BK.out _) ?_)
      | ((with_reducible refine at_store (.tmp 5) ?_); refine wpList_store_blk rfl 48 (.tmp 5) _ rfl w1.heap.size Y0 rfl rfl Z (Blk.new rfl) HZY.out HIY0.out HY01.out ?_; intro w2 U2 B2; have hb2 := U2.below ((Below.refl _ w1).alloc (Nat.le_refl _) (.cells Z 48)) (Nat.le_refl _); have K2 := Lib.hid B2; have G2 := Lib.hid (G1.out.call hb2); have HB2 := Lib.hid (HB1.out.trans (hb2.mono HB1.out.size)); have HLT := Lib.hid G1.out.lt; clear U2 B2 hb2)
      | ((with_reducible refine at_load (.tmp 22) ?_); refine wpList_load_1 3 (.tmp 22) rfl w.heap.size 0 (.int .i64 5) ((G1.out.to EX.out).cellAt (k := 0) hk0 rfl) rfl _ Try.underlying3 rfl rfl ?_)
      | ((with_reducible refine at_load (.tmp 25) ?_); refine wpList_load_1 3 (.tmp 25) rfl w.heap.size 0 (.int .i64 5) ((G2.out.to EX.out).cellAt (k := 0) hk0 rfl) rfl _ Try.underlying3 rfl rfl ?_)
      | ((with_reducible refine at_load (.tmp 44) ?_); refine wpList_load_part 42 (.tmp 44) rfl w.heap.size _ 4 376 L (G2.out.to EX.out) hpx.out (by rw [OO.out]; rfl) rfl _ Try.underlying42 rfl HIL.out rfl ?_)
      | ((with_reducible refine at_store (.tmp 46) ?_); refine wpList_store_part rfl 42 (.tmp 46) _ rfl w1.heap.size PY 4 q L (K2.out.to hY0.out.symm) hpy.out (by rw [hoy.out]; rfl) rfl hlq HIL.out HL1.out ?_; intro w3 U3 B3; rw [hY.out] at B3; have KY := Lib.hid B3; have G3 := Lib.hid (U3.blk G2.out (Nat.ne_of_lt HLT.out)); have HB3 := Lib.hid (U3.below HB2.out HB1.out.size); clear U3 B3)
      | ((with_reducible refine at_load (.tmp 1) ?_); refine wpList_load_g 48 (.tmp 1) rfl w.heap.size rfl X _ G3.out Try.underlying48 rfl HIX.out rfl ?_)
      | ((with_reducible refine at_load (.tmp 5) ?_); refine wpList_load_g 48 (.tmp 5) rfl w1.heap.size rfl Y _ KY.out Try.underlying48 rfl HIY.out rfl ?_)
      | (go_at_call 20; refine (DS.out _ HB3.out).mono ?_; rintro en w5 hh; obtain ⟨rfl, hb5⟩ := tells_false hh HP.out; have HB5 := Lib.hid (HB3.out.trans (hb5.mono HB3.out.size)); clear hh hb5)
      | ((with_reducible refine at_load (.tmp 1) ?_); refine wpList_load_g 48 (.tmp 1) rfl w.heap.size rfl X _ GX.out Try.underlying48 rfl HIX.out rfl ?_)
      | (go_at_call 18; refine (DF.out _ HB0.out).mono ?_; rintro en w1 ⟨u1, rfl, hy1, hb1⟩; have G1 := Lib.hid (GX.out.call hb1); have HB1 := Lib.hid (HB0.out.trans (hb1.mono HB0.out.size)); clear hy1 hb1)
      | fail)
    go_ret
    exact ⟨by rw [HRV.out, HOE.out, if_neg HP.out]; rfl, HB5.out⟩

set_option maxRecDepth 100000 in
set_option maxHeartbeats 16000000 in
theorem vo_6 (P : Value → Prop) (X : Array Value) (d : OpD) (w : World) (hX : OpIn P w X d) (hsm : SmallD d) (hk : d.k = 6) (he : fldE d = 0) : Calls Try.prog 11 #[.agg X] w (VoR w d) := by
  have hX0 := hX.size
  have HX1 := Lib.hid hX.one
  have HIX : Hid ((Try.prog.info? 48).map (·.size) = some X.size) := by show _ = _; rw [hX0]; exact info_op
  have HXI := Lib.hid (fun u (hu : Below w.heap.size w u) => opE.below hX hu)
  have HB0 := Lib.hid ((Below.refl w.heap.size w).alloc (Nat.le_refl _) (.cells X 48))
  have GX : Hid (Blk (w.alloc (.cells X 48)) w.heap.size X) := Blk.new rfl
  obtain ⟨v1, v2, v3, v4, eX, ok, ⟨i1, _⟩, ⟨i2, _⟩, ⟨i3, _⟩, ⟨i4, _⟩⟩ := hX
  have HIn := Lib.hid (fun u (hu : Below w.heap.size w u) => And.intro (i1.below hu) (And.intro (i2.below hu) (And.intro (i3.below hu) (i4.below hu))))
  have OO := Lib.hid (op_offs ok v1 v2 v3 v4)
  have LL := Lib.hid (OpD.lens ok v1 v2 v3 v4)
  obtain ⟨PX, hPX⟩ : ∃ PX, Hid (d.parts v1 v2 v3 v4 = PX) := ⟨_, rfl⟩
  have EX : Hid (X = flatP PX) := by show _ = _; rw [eX, hPX.out]
  rw [hPX.out] at OO LL
  have hk0 : PX[0]? = some [.int .i64 d.k] := by rw [← hPX.out]; rfl
  obtain ⟨ok1, ok2, ok3, ok4, ok5, ok6, ok7, ok8, ok9⟩ := ok
  have DF : Hid (∀ u, Below w.heap.size w u → Calls Try.prog 18 #[.agg X] u (EncR u (fldE d) (fldB d))) := fun u hu => rf_any P X d u (HXI.out u hu) hsm (by omega) (by omega)
  rw [he] at DF
  have hOE := opErr_at_ok (by omega) (by omega) he
  obtain ⟨Z, hZ⟩ : ∃ Z, Hid (flatP ((kOp 0).parts nilV nilV nilV nilV) = Z) := ⟨_, rfl⟩
  have hZ0 : Hid (Z.size = 446) := by show _ = _; rw [← hZ.out]; rfl
  obtain ⟨hzz, hst⟩ := zero_array (P := Try.prog) (t := 48) (n := 446) Z (by rw [← hZ.out]; exact zop_zero) hZ0.out (by rw [← hZ.out]; exact zop_one)
  obtain ⟨z1, z2, z3, z4, z5, z6, z7, z8, z9⟩ := kOp_ok (k := 6) (by unfold i64R; omega)
  obtain ⟨PY, hPY⟩ : ∃ PY, Hid ((kOp 6).parts nilV nilV nilV nilV = PY) := ⟨_, rfl⟩
  obtain ⟨Y0, hY0⟩ : ∃ Y, Hid (flatP PY = Y) := ⟨_, rfl⟩
  have BK := Lib.hid (build_kind 6)
  rw [hPY.out, hY0.out] at BK
  have hY00 : Hid (Y0.size = 446) := by show _ = _; rw [← hY0.out, ← hPY.out]; exact (kOp_shape 6).1
  have HY01 : Hid (∀ v ∈ Y0, v.oneCell' = true) := by show ∀ _ ∈ _, _; rw [← hY0.out, ← hPY.out]; exact (kOp_shape 6).2
  have HIY0 : Hid ((Try.prog.info? 48).map (·.size) = some Y0.size) := by show _ = _; rw [hY00.out]; exact info_op
  have HZY : Hid (Z.size = Y0.size) := by show _ = _; rw [hZ0.out, hY00.out]
  have hkeep : keepD d = { kOp 6 with v := d.v } := by unfold keepD; simp only [hk]; try rfl
  have hin : Hid (∀ u, Below w.heap.size w u → OpIn (fun _ => True) u (flatP (PY.set 5 (d.v.parts.flatten))) (keepD d)) := fun u hu => by
    obtain ⟨j1, j2, j3, j4⟩ := HIn.out u hu
    rw [hkeep]
    exact ⟨nilV, nilV, nilV, nilV, (by rw [← hPY.out]; try rfl), ⟨z1, z2, z3, z4, z5, z6, ok7, z8, z9⟩, ⟨intsV_nil _, trivial⟩, ⟨intsV_nil _, trivial⟩, ⟨intsV_nil _, trivial⟩, ⟨numsV_nil _, trivial⟩⟩
  obtain ⟨Y, hY⟩ : ∃ Y, Hid (flatP (PY.set 5 (d.v.parts.flatten)) = Y) := ⟨_, rfl⟩
  rw [hY.out] at hin
  have hYs := (hin.out w (Below.refl _ w)).size
  have HIY : Hid ((Try.prog.info? 48).map (·.size) = some Y.size) := by show _ = _; rw [hYs]; exact info_op
  have DS : Hid (∀ u, Below w.heap.size w u → Calls Try.prog 20 #[.agg X, .agg Y] u (Tells u (SameD d (keepD d)))) := fun u hu => sop_any _ _ X Y d (keepD d) u (HXI.out u hu) (hin.out u hu)
  rw [hk] at hk0
  have hl : (d.v.parts.flatten).length = 34 := VdD.len ok7
  have hpx : Hid (PX[5]? = some (d.v.parts.flatten)) := by show _ = _; rw [← hPX.out]; rfl
  have HL1 : Hid (∀ v ∈ d.v.parts.flatten, v.oneCell' = true) := fun v hv => HX1.out v (by rw [EX.out, flatP, List.mem_toArray, List.mem_flatten]; exact ⟨_, List.mem_of_getElem? hpx.out, hv⟩)
  obtain ⟨q, hpy, hpl⟩ : ∃ q, Hid (PY[5]? = some q) ∧ Hid (q.length = 34) := ⟨_, (by show _ = _; rw [← hPY.out]; rfl), by show _ = _; rfl⟩
  have hoy : Hid (offP PY 5 = 410) := by show _ = _; rw [← hPY.out, kOp_off]; rfl
  obtain ⟨L, hL⟩ : ∃ L, d.v.parts.flatten = L := ⟨_, rfl⟩
  rw [hL] at hl hpx HL1 hY
  have HIL : Hid ((Try.prog.info? 46).map (·.size) = some L.length) := by show _ = _; rw [hl]; kernel_rfl
  have hlq : L.length = q.length := by rw [hl, hpl.out]
  clear hl hL
  clear hsm eX i1 i2 i3 i4 ok1 ok2 ok3 ok4 ok5 ok6 ok7 ok8 ok9 hX0 hk he hkeep hYs z1 z2 z3 z4 z5 z6 z7 z8 z9
  unfold VoR
  rw [hOE]
  obtain ⟨sd, hsd⟩ : ∃ p : Prop, p = SameD d (keepD d) := ⟨_, rfl⟩
  rw [← hsd] at DS
  open Classical in
  have HOE : Hid ((if SameD d (keepD d) then (0 : Int) else 2) = if sd then 0 else 2) := by show _ = _; rw [hsd]
  obtain ⟨RV, HRV⟩ : ∃ r : Int, Hid (r = if SameD d (keepD d) then (0 : Int) else 2) := ⟨_, rfl⟩
  rw [← HRV.out]
  clear hOE hsd
  by_cases hp : sd
  case pos =>
    have HP := Lib.hid hp
    clear hp
    go_enter Try.func11, Try.ntmps11
    go_wp2_with (first
      | ((with_reducible refine at_load (.tmp 6) ?_); refine wpList_load_1 3 (.tmp 6) rfl w.heap.size 0 (.int .i64 6) ((GX.out.to EX.out).cellAt (k := 0) hk0 rfl) rfl _ Try.underlying3 rfl rfl ?_)
      | ((with_reducible refine at_load (.tmp 10) ?_); refine wpList_load_1 3 (.tmp 10) rfl w.heap.size 0 (.int .i64 6) ((GX.out.to EX.out).cellAt (k := 0) hk0 rfl) rfl _ Try.underlying3 rfl rfl ?_)
      | ((with_reducible refine at_build (some 24) ?_); refine wpList_build rfl 48 _ rfl #[(0, .int .i64 6)] (by simp [Act.eval, Act.put]) (.agg Y0) (BK.out _) ?_)
      | ((with_reducible refine at_store (.tmp 5) ?_); refine wpList_store_blk rfl 48 (.tmp 5) _ rfl w1.heap.size Y0 rfl rfl Z (Blk.new rfl) HZY.out HIY0.out HY01.out ?_; intro w2 U2 B2; have hb2 := U2.below ((Below.refl _ w1).alloc (Nat.le_refl _) (.cells Z 48)) (Nat.le_refl _); have K2 := Lib.hid B2; have G2 := Lib.hid (G1.out.call hb2); have HB2 := Lib.hid (HB1.out.trans (hb2.mono HB1.out.size)); have HLT := Lib.hid G1.out.lt; clear U2 B2 hb2)
      | ((with_reducible refine at_load (.tmp 22) ?_); refine wpList_load_1 3 (.tmp 22) rfl w.heap.size 0 (.int .i64 6) ((G1.out.to EX.out).cellAt (k := 0) hk0 rfl) rfl _ Try.underlying3 rfl rfl ?_)
      | ((with_reducible refine at_load (.tmp 25) ?_); refine wpList_load_1 3 (.tmp 25) rfl w.heap.size 0 (.int .i64 6) ((G2.out.to EX.out).cellAt (k := 0) hk0 rfl) rfl _ Try.underlying3 rfl rfl ?_)
      | ((with_reducible refine at_load (.tmp 49) ?_); refine wpList_load_part 46 (.tmp 49) rfl w.heap.size _ 5 410 L (G2.out.to EX.out) hpx.out (by rw [OO.out]; rfl) rfl _ Try.underlying46 rfl HIL.out rfl ?_)
      | ((with_reducible refine at_store (.tmp 51) ?_); refine wpList_store_part rfl 46 (.tmp 51) _ rfl w1.heap.size PY 5 q L (K2.out.to hY0.out.symm) hpy.out (by rw [hoy.out]; rfl) rfl hlq HIL.out HL1.out ?_; intro w3 U3 B3; rw [hY.out] at B3; have KY := Lib.hid B3; have G3 := Lib.hid (U3.blk G2.out (Nat.ne_of_lt HLT.out)); have HB3 := Lib.hid (U3.below HB2.out HB1.out.size); clear U3 B3)
      | ((with_reducible refine at_load (.tmp 1) ?_); refine wpList_load_g 48 (.tmp 1) rfl w.heap.size rfl X _ G3.out Try.underlying48 rfl HIX.out rfl ?_)
      | ((with_reducible refine at_load (.tmp 5) ?_); refine wpList_load_g 48 (.tmp 5) rfl w1.heap.size rfl Y _ KY.out Try.underlying48 rfl HIY.out rfl ?_)
      | (go_at_call 20; refine (DS.out _ HB3.out).mono ?_; rintro en w5 hh; obtain ⟨rfl, hb5⟩ := tells_true hh HP.out; have HB5 := Lib.hid (HB3.out.trans (hb5.mono HB3.out.size)); clear hh hb5)
      | ((with_reducible refine at_load (.tmp 1) ?_); refine wpList_load_g 48 (.tmp 1) rfl w.heap.size rfl X _ GX.out Try.underlying48 rfl HIX.out rfl ?_)
      | (go_at_call 18; refine (DF.out _ HB0.out).mono ?_; rintro en w1 ⟨u1, rfl, hy1, hb1⟩; have G1 := Lib.hid (GX.out.call hb1); have HB1 := Lib.hid (HB0.out.trans (hb1.mono HB0.out.size)); clear hy1 hb1)
      | fail)
    go_ret
    exact ⟨by rw [HRV.out, HOE.out, if_pos HP.out]; rfl, HB5.out⟩
  case neg =>
    have HP := Lib.hid hp
    clear hp
    go_enter Try.func11, Try.ntmps11
    go_wp2_with (first
      | ((with_reducible refine at_load (.tmp 6) ?_); refine wpList_load_1 3 (.tmp 6) rfl w.heap.size 0 (.int .i64 6) ((GX.out.to EX.out).cellAt (k := 0) hk0 rfl) rfl _ Try.underlying3 rfl rfl ?_)
      | ((with_reducible refine at_load (.tmp 10) ?_); refine wpList_load_1 3 (.tmp 10) rfl w.heap.size 0 (.int .i64 6) ((GX.out.to EX.out).cellAt (k := 0) hk0 rfl) rfl _ Try.underlying3 rfl rfl ?_)
      | ((with_reducible refine at_build (some 24) ?_); refine wpList_build rfl 48 _ rfl #[(0, .int .i64 6)] (by simp [Act.eval, Act.put]) (.agg Y0) (BK.out _) ?_)
      | ((with_reducible refine at_store (.tmp 5) ?_); refine wpList_store_blk rfl 48 (.tmp 5) _ rfl w1.heap.size Y0 rfl rfl Z (Blk.new rfl) HZY.out HIY0.out HY01.out ?_; intro w2 U2 B2; have hb2 := U2.below ((Below.refl _ w1).alloc (Nat.le_refl _) (.cells Z 48)) (Nat.le_refl _); have K2 := Lib.hid B2; have G2 := Lib.hid (G1.out.call hb2); have HB2 := Lib.hid (HB1.out.trans (hb2.mono HB1.out.size)); have HLT := Lib.hid G1.out.lt; clear U2 B2 hb2)
      | ((with_reducible refine at_load (.tmp 22) ?_); refine wpList_load_1 3 (.tmp 22) rfl w.heap.size 0 (.int .i64 6) ((G1.out.to EX.out).cellAt (k := 0) hk0 rfl) rfl _ Try.underlying3 rfl rfl ?_)
      | ((with_reducible refine at_load (.tmp 25) ?_); refine wpList_load_1 3 (.tmp 25) rfl w.heap.size 0 (.int .i64 6) ((G2.out.to EX.out).cellAt (k := 0) hk0 rfl) rfl _ Try.underlying3 rfl rfl ?_)
      | ((with_reducible refine at_load (.tmp 49) ?_); refine wpList_load_part 46 (.tmp 49) rfl w.heap.size _ 5 410 L (G2.out.to EX.out) hpx.out (by rw [OO.out]; rfl) rfl _ Try.underlying46 rfl HIL.out rfl ?_)
      | ((with_reducible refine at_store (.tmp 51) ?_); refine wpList_store_part rfl 46 (.tmp 51) _ rfl w1.heap.size PY 5 q L (K2.out.to hY0.out.symm) hpy.out (by rw [hoy.out]; rfl) rfl hlq HIL.out HL1.out ?_; intro w3 U3 B3; rw [hY.out] at B3; have KY := Lib.hid B3; have G3 := Lib.hid (U3.blk G2.out (Nat.ne_of_lt HLT.out)); have HB3 := Lib.hid (U3.below HB2.out HB1.out.size); clear U3 B3)
      | ((with_reducible refine at_load (.tmp 1) ?_); refine wpList_load_g 48 (.tmp 1) rfl w.heap.size rfl X _ G3.out Try.underlying48 rfl HIX.out rfl ?_)
      | ((with_reducible refine at_load (.tmp 5) ?_); refine wpList_load_g 48 (.tmp 5) rfl w1.heap.size rfl Y _ KY.out Try.underlying48 rfl HIY.out rfl ?_)
      | (go_at_call 20; refine (DS.out _ HB3.out).mono ?_; rintro en w5 hh; obtain ⟨rfl, hb5⟩ := tells_false hh HP.out; have HB5 := Lib.hid (HB3.out.trans (hb5.mono HB3.out.size)); clear hh hb5)
      | ((with_reducible refine at_load (.tmp 1) ?_); refine wpList_load_g 48 (.tmp 1) rfl w.heap.size rfl X _ GX.out Try.underlying48 rfl HIX.out rfl ?_)
      | (go_at_call 18; refine (DF.out _ HB0.out).mono ?_; rintro en w1 ⟨u1, rfl, hy1, hb1⟩; have G1 := Lib.hid (GX.out.call hb1); have HB1 := Lib.hid (HB0.out.trans (hb1.mono HB0.out.size)); clear hy1 hb1)
      | fail)
    go_ret
    exact ⟨by rw [HRV.out, HOE.out, if_neg HP.out]; rfl, HB5.out⟩

set_option maxRecDepth 100000 in
set_option maxHeartbeats 16000000 in
theorem vo_1 (P : Value → Prop) (X : Array Value) (d : OpD) (w : World) (hX : OpIn P w X d) (hsm : SmallD d) (hk : d.k = 1) (he : fldE d = 0) : Calls Try.prog 11 #[.agg X] w (VoR w d) := by
  have hX0 := hX.size
  have HX1 := Lib.hid hX.one
  have HIX : Hid ((Try.prog.info? 48).map (·.size) = some X.size) := by show _ = _; rw [hX0]; exact info_op
  have HXI := Lib.hid (fun u (hu : Below w.heap.size w u) => opE.below hX hu)
  have HB0 := Lib.hid ((Below.refl w.heap.size w).alloc (Nat.le_refl _) (.cells X 48))
  have GX : Hid (Blk (w.alloc (.cells X 48)) w.heap.size X) := Blk.new rfl
  obtain ⟨v1, v2, v3, v4, eX, ok, ⟨i1, _⟩, ⟨i2, _⟩, ⟨i3, _⟩, ⟨i4, _⟩⟩ := hX
  have HIn := Lib.hid (fun u (hu : Below w.heap.size w u) => And.intro (i1.below hu) (And.intro (i2.below hu) (And.intro (i3.below hu) (i4.below hu))))
  have OO := Lib.hid (op_offs ok v1 v2 v3 v4)
  have LL := Lib.hid (OpD.lens ok v1 v2 v3 v4)
  obtain ⟨PX, hPX⟩ : ∃ PX, Hid (d.parts v1 v2 v3 v4 = PX) := ⟨_, rfl⟩
  have EX : Hid (X = flatP PX) := by show _ = _; rw [eX, hPX.out]
  rw [hPX.out] at OO LL
  have hk0 : PX[0]? = some [.int .i64 d.k] := by rw [← hPX.out]; rfl
  obtain ⟨ok1, ok2, ok3, ok4, ok5, ok6, ok7, ok8, ok9⟩ := ok
  have DF : Hid (∀ u, Below w.heap.size w u → Calls Try.prog 18 #[.agg X] u (EncR u (fldE d) (fldB d))) := fun u hu => rf_any P X d u (HXI.out u hu) hsm (by omega) (by omega)
  rw [he] at DF
  have hOE := opErr_at_ok (by omega) (by omega) he
  obtain ⟨Z, hZ⟩ : ∃ Z, Hid (flatP ((kOp 0).parts nilV nilV nilV nilV) = Z) := ⟨_, rfl⟩
  have hZ0 : Hid (Z.size = 446) := by show _ = _; rw [← hZ.out]; rfl
  obtain ⟨hzz, hst⟩ := zero_array (P := Try.prog) (t := 48) (n := 446) Z (by rw [← hZ.out]; exact zop_zero) hZ0.out (by rw [← hZ.out]; exact zop_one)
  obtain ⟨z1, z2, z3, z4, z5, z6, z7, z8, z9⟩ := kOp_ok (k := 1) (by unfold i64R; omega)
  obtain ⟨PY, hPY⟩ : ∃ PY, Hid ((kOp 1).parts nilV nilV nilV nilV = PY) := ⟨_, rfl⟩
  obtain ⟨Y0, hY0⟩ : ∃ Y, Hid (flatP PY = Y) := ⟨_, rfl⟩
  have BK := Lib.hid (build_kind 1)
  rw [hPY.out, hY0.out] at BK
  have hY00 : Hid (Y0.size = 446) := by show _ = _; rw [← hY0.out, ← hPY.out]; exact (kOp_shape 1).1
  have HY01 : Hid (∀ v ∈ Y0, v.oneCell' = true) := by show ∀ _ ∈ _, _; rw [← hY0.out, ← hPY.out]; exact (kOp_shape 1).2
  have HIY0 : Hid ((Try.prog.info? 48).map (·.size) = some Y0.size) := by show _ = _; rw [hY00.out]; exact info_op
  have HZY : Hid (Z.size = Y0.size) := by show _ = _; rw [hZ0.out, hY00.out]
  have hkeep : keepD d = kOp 1 := by unfold keepD; simp only [hk]; try rfl
  have hin : Hid (∀ u, Below w.heap.size w u → OpIn (fun _ => True) u (flatP (PY)) (keepD d)) := fun u hu => by
    obtain ⟨j1, j2, j3, j4⟩ := HIn.out u hu
    rw [hkeep]
    exact ⟨nilV, nilV, nilV, nilV, (by rw [← hPY.out]; try rfl), ⟨z1, z2, z3, z4, z5, z6, z7, z8, z9⟩, ⟨intsV_nil _, trivial⟩, ⟨intsV_nil _, trivial⟩, ⟨intsV_nil _, trivial⟩, ⟨numsV_nil _, trivial⟩⟩
  obtain ⟨Y, hY⟩ : ∃ Y, Hid (flatP (PY) = Y) := ⟨_, rfl⟩
  rw [hY.out] at hin
  have hYs := (hin.out w (Below.refl _ w)).size
  have HIY : Hid ((Try.prog.info? 48).map (·.size) = some Y.size) := by show _ = _; rw [hYs]; exact info_op
  have DS : Hid (∀ u, Below w.heap.size w u → Calls Try.prog 20 #[.agg X, .agg Y] u (Tells u (SameD d (keepD d)))) := fun u hu => sop_any _ _ X Y d (keepD d) u (HXI.out u hu) (hin.out u hu)
  rw [hk] at hk0
  rw [hY0.out] at hY
  have HYY : Hid (Y0 = Y) := hY.out
  clear hsm eX i1 i2 i3 i4 ok1 ok2 ok3 ok4 ok5 ok6 ok7 ok8 ok9 hX0 hk he hkeep hYs z1 z2 z3 z4 z5 z6 z7 z8 z9
  unfold VoR
  rw [hOE]
  obtain ⟨sd, hsd⟩ : ∃ p : Prop, p = SameD d (keepD d) := ⟨_, rfl⟩
  rw [← hsd] at DS
  open Classical in
  have HOE : Hid ((if SameD d (keepD d) then (0 : Int) else 2) = if sd then 0 else 2) := by show _ = _; rw [hsd]
  obtain ⟨RV, HRV⟩ : ∃ r : Int, Hid (r = if SameD d (keepD d) then (0 : Int) else 2) := ⟨_, rfl⟩
  rw [← HRV.out]
  clear hOE hsd
  by_cases hp : sd
  case pos =>
    have HP := Lib.hid hp
    clear hp
    go_enter Try.func11, Try.ntmps11
    go_wp2_with (first
      | ((with_reducible refine at_load (.tmp 6) ?_); refine wpList_load_1 3 (.tmp 6) rfl w.heap.size 0 (.int .i64 1) ((GX.out.to EX.out).cellAt (k := 0) hk0 rfl) rfl _ Try.underlying3 rfl rfl ?_)
      | ((with_reducible refine at_load (.tmp 10) ?_); refine wpList_load_1 3 (.tmp 10) rfl w.heap.size 0 (.int .i64 1) ((GX.out.to EX.out).cellAt (k := 0) hk0 rfl) rfl _ Try.underlying3 rfl rfl ?_)
      | ((with_reducible refine at_build (some 24) ?_); refine wpList_build rfl 48 _ rfl #[(0, .int .i64 1)] (by simp [Act.eval, Act.put]) (.agg Y0) (BK.out _) ?_)
      | ((with_reducible refine at_store (.tmp 5) ?_); refine wpList_store_blk rfl 48 (.tmp 5) _ rfl w1.heap.size Y0 rfl rfl Z (Blk.new rfl) HZY.out HIY0.out HY01.out ?_; intro w2 U2 B2; have hb2 := U2.below ((Below.refl _ w1).alloc (Nat.le_refl _) (.cells Z 48)) (Nat.le_refl _); have K2 := Lib.hid B2; have G2 := Lib.hid (G1.out.call hb2); have HB2 := Lib.hid (HB1.out.trans (hb2.mono HB1.out.size)); have HLT := Lib.hid G1.out.lt; have KY := Lib.hid (K2.out.to HYY.out); clear U2 B2 hb2)
      | ((with_reducible refine at_load (.tmp 22) ?_); refine wpList_load_1 3 (.tmp 22) rfl w.heap.size 0 (.int .i64 1) ((G1.out.to EX.out).cellAt (k := 0) hk0 rfl) rfl _ Try.underlying3 rfl rfl ?_)
      | ((with_reducible refine at_load (.tmp 25) ?_); refine wpList_load_1 3 (.tmp 25) rfl w.heap.size 0 (.int .i64 1) ((G2.out.to EX.out).cellAt (k := 0) hk0 rfl) rfl _ Try.underlying3 rfl rfl ?_)
      | ((with_reducible refine at_load (.tmp 1) ?_); refine wpList_load_g 48 (.tmp 1) rfl w.heap.size rfl X _ G2.out Try.underlying48 rfl HIX.out rfl ?_)
      | ((with_reducible refine at_load (.tmp 5) ?_); refine wpList_load_g 48 (.tmp 5) rfl w1.heap.size rfl Y _ KY.out Try.underlying48 rfl HIY.out rfl ?_)
      | (go_at_call 20; refine (DS.out _ HB2.out).mono ?_; rintro en w5 hh; obtain ⟨rfl, hb5⟩ := tells_true hh HP.out; have HB5 := Lib.hid (HB2.out.trans (hb5.mono HB2.out.size)); clear hh hb5)
      | ((with_reducible refine at_load (.tmp 1) ?_); refine wpList_load_g 48 (.tmp 1) rfl w.heap.size rfl X _ GX.out Try.underlying48 rfl HIX.out rfl ?_)
      | (go_at_call 18; refine (DF.out _ HB0.out).mono ?_; rintro en w1 ⟨u1, rfl, hy1, hb1⟩; have G1 := Lib.hid (GX.out.call hb1); have HB1 := Lib.hid (HB0.out.trans (hb1.mono HB0.out.size)); clear hy1 hb1)
      | fail)
    go_ret
    exact ⟨by rw [HRV.out, HOE.out, if_pos HP.out]; rfl, HB5.out⟩
  case neg =>
    have HP := Lib.hid hp
    clear hp
    go_enter Try.func11, Try.ntmps11
    go_wp2_with (first
      | ((with_reducible refine at_load (.tmp 6) ?_); refine wpList_load_1 3 (.tmp 6) rfl w.heap.size 0 (.int .i64 1) ((GX.out.to EX.out).cellAt (k := 0) hk0 rfl) rfl _ Try.underlying3 rfl rfl ?_)
      | ((with_reducible refine at_load (.tmp 10) ?_); refine wpList_load_1 3 (.tmp 10) rfl w.heap.size 0 (.int .i64 1) ((GX.out.to EX.out).cellAt (k := 0) hk0 rfl) rfl _ Try.underlying3 rfl rfl ?_)
      | ((with_reducible refine at_build (some 24) ?_); refine wpList_build rfl 48 _ rfl #[(0, .int .i64 1)] (by simp [Act.eval, Act.put]) (.agg Y0) (BK.out _) ?_)
      | ((with_reducible refine at_store (.tmp 5) ?_); refine wpList_store_blk rfl 48 (.tmp 5) _ rfl w1.heap.size Y0 rfl rfl Z (Blk.new rfl) HZY.out HIY0.out HY01.out ?_; intro w2 U2 B2; have hb2 := U2.below ((Below.refl _ w1).alloc (Nat.le_refl _) (.cells Z 48)) (Nat.le_refl _); have K2 := Lib.hid B2; have G2 := Lib.hid (G1.out.call hb2); have HB2 := Lib.hid (HB1.out.trans (hb2.mono HB1.out.size)); have HLT := Lib.hid G1.out.lt; have KY := Lib.hid (K2.out.to HYY.out); clear U2 B2 hb2)
      | ((with_reducible refine at_load (.tmp 22) ?_); refine wpList_load_1 3 (.tmp 22) rfl w.heap.size 0 (.int .i64 1) ((G1.out.to EX.out).cellAt (k := 0) hk0 rfl) rfl _ Try.underlying3 rfl rfl ?_)
      | ((with_reducible refine at_load (.tmp 25) ?_); refine wpList_load_1 3 (.tmp 25) rfl w.heap.size 0 (.int .i64 1) ((G2.out.to EX.out).cellAt (k := 0) hk0 rfl) rfl _ Try.underlying3 rfl rfl ?_)
      | ((with_reducible refine at_load (.tmp 1) ?_); refine wpList_load_g 48 (.tmp 1) rfl w.heap.size rfl X _ G2.out Try.underlying48 rfl HIX.out rfl ?_)
      | ((with_reducible refine at_load (.tmp 5) ?_); refine wpList_load_g 48 (.tmp 5) rfl w1.heap.size rfl Y _ KY.out Try.underlying48 rfl HIY.out rfl ?_)
      | (go_at_call 20; refine (DS.out _ HB2.out).mono ?_; rintro en w5 hh; obtain ⟨rfl, hb5⟩ := tells_false hh HP.out; have HB5 := Lib.hid (HB2.out.trans (hb5.mono HB2.out.size)); clear hh hb5)
      | ((with_reducible refine at_load (.tmp 1) ?_); refine wpList_load_g 48 (.tmp 1) rfl w.heap.size rfl X _ GX.out Try.underlying48 rfl HIX.out rfl ?_)
      | (go_at_call 18; refine (DF.out _ HB0.out).mono ?_; rintro en w1 ⟨u1, rfl, hy1, hb1⟩; have G1 := Lib.hid (GX.out.call hb1); have HB1 := Lib.hid (HB0.out.trans (hb1.mono HB0.out.size)); clear hy1 hb1)
      | fail)
    go_ret
    exact ⟨by rw [HRV.out, HOE.out, if_neg HP.out]; rfl, HB5.out⟩

set_option maxRecDepth 100000 in
set_option maxHeartbeats 16000000 in
theorem vo_7 (P : Value → Prop) (X : Array Value) (d : OpD) (w : World) (hX : OpIn P w X d) (hsm : SmallD d) (hk : d.k = 7) (he : fldE d = 0) : Calls Try.prog 11 #[.agg X] w (VoR w d) := by
  have hX0 := hX.size
  have HX1 := Lib.hid hX.one
  have HIX : Hid ((Try.prog.info? 48).map (·.size) = some X.size) := by show _ = _; rw [hX0]; exact info_op
  have HXI := Lib.hid (fun u (hu : Below w.heap.size w u) => opE.below hX hu)
  have HB0 := Lib.hid ((Below.refl w.heap.size w).alloc (Nat.le_refl _) (.cells X 48))
  have GX : Hid (Blk (w.alloc (.cells X 48)) w.heap.size X) := Blk.new rfl
  obtain ⟨v1, v2, v3, v4, eX, ok, ⟨i1, _⟩, ⟨i2, _⟩, ⟨i3, _⟩, ⟨i4, _⟩⟩ := hX
  have HIn := Lib.hid (fun u (hu : Below w.heap.size w u) => And.intro (i1.below hu) (And.intro (i2.below hu) (And.intro (i3.below hu) (i4.below hu))))
  have OO := Lib.hid (op_offs ok v1 v2 v3 v4)
  have LL := Lib.hid (OpD.lens ok v1 v2 v3 v4)
  obtain ⟨PX, hPX⟩ : ∃ PX, Hid (d.parts v1 v2 v3 v4 = PX) := ⟨_, rfl⟩
  have EX : Hid (X = flatP PX) := by show _ = _; rw [eX, hPX.out]
  rw [hPX.out] at OO LL
  have hk0 : PX[0]? = some [.int .i64 d.k] := by rw [← hPX.out]; rfl
  obtain ⟨ok1, ok2, ok3, ok4, ok5, ok6, ok7, ok8, ok9⟩ := ok
  have DF : Hid (∀ u, Below w.heap.size w u → Calls Try.prog 18 #[.agg X] u (EncR u (fldE d) (fldB d))) := fun u hu => rf_any P X d u (HXI.out u hu) hsm (by omega) (by omega)
  rw [he] at DF
  have hOE := opErr_at_ok (by omega) (by omega) he
  obtain ⟨Z, hZ⟩ : ∃ Z, Hid (flatP ((kOp 0).parts nilV nilV nilV nilV) = Z) := ⟨_, rfl⟩
  have hZ0 : Hid (Z.size = 446) := by show _ = _; rw [← hZ.out]; rfl
  obtain ⟨hzz, hst⟩ := zero_array (P := Try.prog) (t := 48) (n := 446) Z (by rw [← hZ.out]; exact zop_zero) hZ0.out (by rw [← hZ.out]; exact zop_one)
  obtain ⟨z1, z2, z3, z4, z5, z6, z7, z8, z9⟩ := kOp_ok (k := 7) (by unfold i64R; omega)
  obtain ⟨PY, hPY⟩ : ∃ PY, Hid ((kOp 7).parts nilV nilV nilV nilV = PY) := ⟨_, rfl⟩
  obtain ⟨Y0, hY0⟩ : ∃ Y, Hid (flatP PY = Y) := ⟨_, rfl⟩
  have BK := Lib.hid (build_kind 7)
  rw [hPY.out, hY0.out] at BK
  have hY00 : Hid (Y0.size = 446) := by show _ = _; rw [← hY0.out, ← hPY.out]; exact (kOp_shape 7).1
  have HY01 : Hid (∀ v ∈ Y0, v.oneCell' = true) := by show ∀ _ ∈ _, _; rw [← hY0.out, ← hPY.out]; exact (kOp_shape 7).2
  have HIY0 : Hid ((Try.prog.info? 48).map (·.size) = some Y0.size) := by show _ = _; rw [hY00.out]; exact info_op
  have HZY : Hid (Z.size = Y0.size) := by show _ = _; rw [hZ0.out, hY00.out]
  have hkeep : keepD d = kOp 7 := by unfold keepD; simp only [hk]; try rfl
  have hin : Hid (∀ u, Below w.heap.size w u → OpIn (fun _ => True) u (flatP (PY)) (keepD d)) := fun u hu => by
    obtain ⟨j1, j2, j3, j4⟩ := HIn.out u hu
    rw [hkeep]
    exact ⟨nilV, nilV, nilV, nilV, (by rw [← hPY.out]; try rfl), ⟨z1, z2, z3, z4, z5, z6, z7, z8, z9⟩, ⟨intsV_nil _, trivial⟩, ⟨intsV_nil _, trivial⟩, ⟨intsV_nil _, trivial⟩, ⟨numsV_nil _, trivial⟩⟩
  obtain ⟨Y, hY⟩ : ∃ Y, Hid (flatP (PY) = Y) := ⟨_, rfl⟩
  rw [hY.out] at hin
  have hYs := (hin.out w (Below.refl _ w)).size
  have HIY : Hid ((Try.prog.info? 48).map (·.size) = some Y.size) := by show _ = _; rw [hYs]; exact info_op
  have DS : Hid (∀ u, Below w.heap.size w u → Calls Try.prog 20 #[.agg X, .agg Y] u (Tells u (SameD d (keepD d)))) := fun u hu => sop_any _ _ X Y d (keepD d) u (HXI.out u hu) (hin.out u hu)
  rw [hk] at hk0
  rw [hY0.out] at hY
  have HYY : Hid (Y0 = Y) := hY.out
  clear hsm eX i1 i2 i3 i4 ok1 ok2 ok3 ok4 ok5 ok6 ok7 ok8 ok9 hX0 hk he hkeep hYs z1 z2 z3 z4 z5 z6 z7 z8 z9
  unfold VoR
  rw [hOE]
  obtain ⟨sd, hsd⟩ : ∃ p : Prop, p = SameD d (keepD d) := ⟨_, rfl⟩
  rw [← hsd] at DS
  open Classical in
  have HOE : Hid ((if SameD d (keepD d) then (0 : Int) else 2) = if sd then 0 else 2) := by show _ = _; rw [hsd]
  obtain ⟨RV, HRV⟩ : ∃ r : Int, Hid (r = if SameD d (keepD d) then (0 : Int) else 2) := ⟨_, rfl⟩
  rw [← HRV.out]
  clear hOE hsd
  by_cases hp : sd
  case pos =>
    have HP := Lib.hid hp
    clear hp
    go_enter Try.func11, Try.ntmps11
    go_wp2_with (first
      | ((with_reducible refine at_load (.tmp 6) ?_); refine wpList_load_1 3 (.tmp 6) rfl w.heap.size 0 (.int .i64 7) ((GX.out.to EX.out).cellAt (k := 0) hk0 rfl) rfl _ Try.underlying3 rfl rfl ?_)
      | ((with_reducible refine at_load (.tmp 10) ?_); refine wpList_load_1 3 (.tmp 10) rfl w.heap.size 0 (.int .i64 7) ((GX.out.to EX.out).cellAt (k := 0) hk0 rfl) rfl _ Try.underlying3 rfl rfl ?_)
      | ((with_reducible refine at_build (some 24) ?_); refine wpList_build rfl 48 _ rfl #[(0, .int .i64 7)] (by simp [Act.eval, Act.put]) (.agg Y0) (BK.out _) ?_)
      | ((with_reducible refine at_store (.tmp 5) ?_); refine wpList_store_blk rfl 48 (.tmp 5) _ rfl w1.heap.size Y0 rfl rfl Z (Blk.new rfl) HZY.out HIY0.out HY01.out ?_; intro w2 U2 B2; have hb2 := U2.below ((Below.refl _ w1).alloc (Nat.le_refl _) (.cells Z 48)) (Nat.le_refl _); have K2 := Lib.hid B2; have G2 := Lib.hid (G1.out.call hb2); have HB2 := Lib.hid (HB1.out.trans (hb2.mono HB1.out.size)); have HLT := Lib.hid G1.out.lt; have KY := Lib.hid (K2.out.to HYY.out); clear U2 B2 hb2)
      | ((with_reducible refine at_load (.tmp 22) ?_); refine wpList_load_1 3 (.tmp 22) rfl w.heap.size 0 (.int .i64 7) ((G1.out.to EX.out).cellAt (k := 0) hk0 rfl) rfl _ Try.underlying3 rfl rfl ?_)
      | ((with_reducible refine at_load (.tmp 25) ?_); refine wpList_load_1 3 (.tmp 25) rfl w.heap.size 0 (.int .i64 7) ((G2.out.to EX.out).cellAt (k := 0) hk0 rfl) rfl _ Try.underlying3 rfl rfl ?_)
      | ((with_reducible refine at_load (.tmp 1) ?_); refine wpList_load_g 48 (.tmp 1) rfl w.heap.size rfl X _ G2.out Try.underlying48 rfl HIX.out rfl ?_)
      | ((with_reducible refine at_load (.tmp 5) ?_); refine wpList_load_g 48 (.tmp 5) rfl w1.heap.size rfl Y _ KY.out Try.underlying48 rfl HIY.out rfl ?_)
      | (go_at_call 20; refine (DS.out _ HB2.out).mono ?_; rintro en w5 hh; obtain ⟨rfl, hb5⟩ := tells_true hh HP.out; have HB5 := Lib.hid (HB2.out.trans (hb5.mono HB2.out.size)); clear hh hb5)
      | ((with_reducible refine at_load (.tmp 1) ?_); refine wpList_load_g 48 (.tmp 1) rfl w.heap.size rfl X _ GX.out Try.underlying48 rfl HIX.out rfl ?_)
      | (go_at_call 18; refine (DF.out _ HB0.out).mono ?_; rintro en w1 ⟨u1, rfl, hy1, hb1⟩; have G1 := Lib.hid (GX.out.call hb1); have HB1 := Lib.hid (HB0.out.trans (hb1.mono HB0.out.size)); clear hy1 hb1)
      | fail)
    go_ret
    exact ⟨by rw [HRV.out, HOE.out, if_pos HP.out]; rfl, HB5.out⟩
  case neg =>
    have HP := Lib.hid hp
    clear hp
    go_enter Try.func11, Try.ntmps11
    go_wp2_with (first
      | ((with_reducible refine at_load (.tmp 6) ?_); refine wpList_load_1 3 (.tmp 6) rfl w.heap.size 0 (.int .i64 7) ((GX.out.to EX.out).cellAt (k := 0) hk0 rfl) rfl _ Try.underlying3 rfl rfl ?_)
      | ((with_reducible refine at_load (.tmp 10) ?_); refine wpList_load_1 3 (.tmp 10) rfl w.heap.size 0 (.int .i64 7) ((GX.out.to EX.out).cellAt (k := 0) hk0 rfl) rfl _ Try.underlying3 rfl rfl ?_)
      | ((with_reducible refine at_build (some 24) ?_); refine wpList_build rfl 48 _ rfl #[(0, .int .i64 7)] (by simp [Act.eval, Act.put]) (.agg Y0) (BK.out _) ?_)
      | ((with_reducible refine at_store (.tmp 5) ?_); refine wpList_store_blk rfl 48 (.tmp 5) _ rfl w1.heap.size Y0 rfl rfl Z (Blk.new rfl) HZY.out HIY0.out HY01.out ?_; intro w2 U2 B2; have hb2 := U2.below ((Below.refl _ w1).alloc (Nat.le_refl _) (.cells Z 48)) (Nat.le_refl _); have K2 := Lib.hid B2; have G2 := Lib.hid (G1.out.call hb2); have HB2 := Lib.hid (HB1.out.trans (hb2.mono HB1.out.size)); have HLT := Lib.hid G1.out.lt; have KY := Lib.hid (K2.out.to HYY.out); clear U2 B2 hb2)
      | ((with_reducible refine at_load (.tmp 22) ?_); refine wpList_load_1 3 (.tmp 22) rfl w.heap.size 0 (.int .i64 7) ((G1.out.to EX.out).cellAt (k := 0) hk0 rfl) rfl _ Try.underlying3 rfl rfl ?_)
      | ((with_reducible refine at_load (.tmp 25) ?_); refine wpList_load_1 3 (.tmp 25) rfl w.heap.size 0 (.int .i64 7) ((G2.out.to EX.out).cellAt (k := 0) hk0 rfl) rfl _ Try.underlying3 rfl rfl ?_)
      | ((with_reducible refine at_load (.tmp 1) ?_); refine wpList_load_g 48 (.tmp 1) rfl w.heap.size rfl X _ G2.out Try.underlying48 rfl HIX.out rfl ?_)
      | ((with_reducible refine at_load (.tmp 5) ?_); refine wpList_load_g 48 (.tmp 5) rfl w1.heap.size rfl Y _ KY.out Try.underlying48 rfl HIY.out rfl ?_)
      | (go_at_call 20; refine (DS.out _ HB2.out).mono ?_; rintro en w5 hh; obtain ⟨rfl, hb5⟩ := tells_false hh HP.out; have HB5 := Lib.hid (HB2.out.trans (hb5.mono HB2.out.size)); clear hh hb5)
      | ((with_reducible refine at_load (.tmp 1) ?_); refine wpList_load_g 48 (.tmp 1) rfl w.heap.size rfl X _ GX.out Try.underlying48 rfl HIX.out rfl ?_)
      | (go_at_call 18; refine (DF.out _ HB0.out).mono ?_; rintro en w1 ⟨u1, rfl, hy1, hb1⟩; have G1 := Lib.hid (GX.out.call hb1); have HB1 := Lib.hid (HB0.out.trans (hb1.mono HB0.out.size)); clear hy1 hb1)
      | fail)
    go_ret
    exact ⟨by rw [HRV.out, HOE.out, if_neg HP.out]; rfl, HB5.out⟩

set_option maxRecDepth 100000 in
set_option maxHeartbeats 16000000 in
theorem vo_8 (P : Value → Prop) (X : Array Value) (d : OpD) (w : World) (hX : OpIn P w X d) (hsm : SmallD d) (hk : d.k = 8) (he : fldE d = 0) : Calls Try.prog 11 #[.agg X] w (VoR w d) := by
  have hX0 := hX.size
  have HX1 := Lib.hid hX.one
  have HIX : Hid ((Try.prog.info? 48).map (·.size) = some X.size) := by show _ = _; rw [hX0]; exact info_op
  have HXI := Lib.hid (fun u (hu : Below w.heap.size w u) => opE.below hX hu)
  have HB0 := Lib.hid ((Below.refl w.heap.size w).alloc (Nat.le_refl _) (.cells X 48))
  have GX : Hid (Blk (w.alloc (.cells X 48)) w.heap.size X) := Blk.new rfl
  obtain ⟨v1, v2, v3, v4, eX, ok, ⟨i1, _⟩, ⟨i2, _⟩, ⟨i3, _⟩, ⟨i4, _⟩⟩ := hX
  have HIn := Lib.hid (fun u (hu : Below w.heap.size w u) => And.intro (i1.below hu) (And.intro (i2.below hu) (And.intro (i3.below hu) (i4.below hu))))
  have OO := Lib.hid (op_offs ok v1 v2 v3 v4)
  have LL := Lib.hid (OpD.lens ok v1 v2 v3 v4)
  obtain ⟨PX, hPX⟩ : ∃ PX, Hid (d.parts v1 v2 v3 v4 = PX) := ⟨_, rfl⟩
  have EX : Hid (X = flatP PX) := by show _ = _; rw [eX, hPX.out]
  rw [hPX.out] at OO LL
  have hk0 : PX[0]? = some [.int .i64 d.k] := by rw [← hPX.out]; rfl
  obtain ⟨ok1, ok2, ok3, ok4, ok5, ok6, ok7, ok8, ok9⟩ := ok
  have DF : Hid (∀ u, Below w.heap.size w u → Calls Try.prog 18 #[.agg X] u (EncR u (fldE d) (fldB d))) := fun u hu => rf_any P X d u (HXI.out u hu) hsm (by omega) (by omega)
  rw [he] at DF
  have hOE := opErr_at_ok (by omega) (by omega) he
  obtain ⟨Z, hZ⟩ : ∃ Z, Hid (flatP ((kOp 0).parts nilV nilV nilV nilV) = Z) := ⟨_, rfl⟩
  have hZ0 : Hid (Z.size = 446) := by show _ = _; rw [← hZ.out]; rfl
  obtain ⟨hzz, hst⟩ := zero_array (P := Try.prog) (t := 48) (n := 446) Z (by rw [← hZ.out]; exact zop_zero) hZ0.out (by rw [← hZ.out]; exact zop_one)
  obtain ⟨z1, z2, z3, z4, z5, z6, z7, z8, z9⟩ := kOp_ok (k := 8) (by unfold i64R; omega)
  obtain ⟨PY, hPY⟩ : ∃ PY, Hid ((kOp 8).parts nilV nilV nilV nilV = PY) := ⟨_, rfl⟩
  obtain ⟨Y0, hY0⟩ : ∃ Y, Hid (flatP PY = Y) := ⟨_, rfl⟩
  have BK := Lib.hid (build_kind 8)
  rw [hPY.out, hY0.out] at BK
  have hY00 : Hid (Y0.size = 446) := by show _ = _; rw [← hY0.out, ← hPY.out]; exact (kOp_shape 8).1
  have HY01 : Hid (∀ v ∈ Y0, v.oneCell' = true) := by show ∀ _ ∈ _, _; rw [← hY0.out, ← hPY.out]; exact (kOp_shape 8).2
  have HIY0 : Hid ((Try.prog.info? 48).map (·.size) = some Y0.size) := by show _ = _; rw [hY00.out]; exact info_op
  have HZY : Hid (Z.size = Y0.size) := by show _ = _; rw [hZ0.out, hY00.out]
  have hkeep : keepD d = { kOp 8 with w := d.w, p := d.p } := by unfold keepD; simp only [hk]; try rfl
  have hin : Hid (∀ u, Below w.heap.size w u → OpIn (fun _ => True) u (flatP ((PY.set 6 [.int .i64 d.w]).set 7 [.int .i64 d.p])) (keepD d)) := fun u hu => by
    obtain ⟨j1, j2, j3, j4⟩ := HIn.out u hu
    rw [hkeep]
    exact ⟨nilV, nilV, nilV, nilV, (by rw [← hPY.out]; try rfl), ⟨z1, z2, z3, z4, z5, z6, z7, ok8, ok9⟩, ⟨intsV_nil _, trivial⟩, ⟨intsV_nil _, trivial⟩, ⟨intsV_nil _, trivial⟩, ⟨numsV_nil _, trivial⟩⟩
  obtain ⟨Y, hY⟩ : ∃ Y, Hid (flatP ((PY.set 6 [.int .i64 d.w]).set 7 [.int .i64 d.p]) = Y) := ⟨_, rfl⟩
  rw [hY.out] at hin
  have hYs := (hin.out w (Below.refl _ w)).size
  have HIY : Hid ((Try.prog.info? 48).map (·.size) = some Y.size) := by show _ = _; rw [hYs]; exact info_op
  have DS : Hid (∀ u, Below w.heap.size w u → Calls Try.prog 20 #[.agg X, .agg Y] u (Tells u (SameD d (keepD d)))) := fun u hu => sop_any _ _ X Y d (keepD d) u (HXI.out u hu) (hin.out u hu)
  rw [hk] at hk0
  have hp6 : Hid (PX[6]? = some [.int .i64 d.w]) := by show _ = _; rw [← hPX.out]; rfl
  have hp7 : Hid (PX[7]? = some [.int .i64 d.p]) := by show _ = _; rw [← hPX.out]; rfl
  have hq6 : Hid (PY[6]? = some [.int .i64 0]) := by show _ = _; rw [← hPY.out]; rfl
  have hq7 : Hid ((PY.set 6 [.int .i64 d.w])[7]? = some [.int .i64 0]) := by show _ = _; rw [← hPY.out]; rfl
  have ho6 : Hid (offP PY 6 = 444) := by show _ = _; rw [← hPY.out, kOp_off]; rfl
  have ho7 : Hid (offP (PY.set 6 [.int .i64 d.w]) 7 = 445) := by show _ = _; rw [← hPY.out, offs_of (ls := [1, 238, 67, 70, 34, 34, 1, 1]) (by rw [List.map_set, kOp_lens]; rfl)]; rfl
  obtain ⟨x, hx⟩ : ∃ x, d.w = x := ⟨_, rfl⟩
  obtain ⟨y, hy⟩ : ∃ y, d.p = y := ⟨_, rfl⟩
  rw [hx] at hp6 hq7 ho7 hY
  rw [hy] at hp7 hY
  clear hx hy
  clear hsm eX i1 i2 i3 i4 ok1 ok2 ok3 ok4 ok5 ok6 ok7 ok8 ok9 hX0 hk he hkeep hYs z1 z2 z3 z4 z5 z6 z7 z8 z9
  unfold VoR
  rw [hOE]
  obtain ⟨sd, hsd⟩ : ∃ p : Prop, p = SameD d (keepD d) := ⟨_, rfl⟩
  rw [← hsd] at DS
  open Classical in
  have HOE : Hid ((if SameD d (keepD d) then (0 : Int) else 2) = if sd then 0 else 2) := by show _ = _; rw [hsd]
  obtain ⟨RV, HRV⟩ : ∃ r : Int, Hid (r = if SameD d (keepD d) then (0 : Int) else 2) := ⟨_, rfl⟩
  rw [← HRV.out]
  clear hOE hsd
  go_enter Try.func11, Try.ntmps11
  go_wp2_with (first
    | ((with_reducible refine at_load (.tmp 6) ?_); refine wpList_load_1 3 (.tmp 6) rfl w.heap.size 0 (.int .i64 8) ((GX.out.to EX.out).cellAt (k := 0) hk0 rfl) rfl _ Try.underlying3 rfl rfl ?_)
    | ((with_reducible refine at_load (.tmp 10) ?_); refine wpList_load_1 3 (.tmp 10) rfl w.heap.size 0 (.int .i64 8) ((GX.out.to EX.out).cellAt (k := 0) hk0 rfl) rfl _ Try.underlying3 rfl rfl ?_)
    | ((with_reducible refine at_build (some 24) ?_); refine wpList_build rfl 48 _ rfl #[(0, .int .i64 8)] (by simp [Act.eval, Act.put]) (.agg Y0) (BK.out _) ?_)
    | ((with_reducible refine at_store (.tmp 5) ?_); refine wpList_store_blk rfl 48 (.tmp 5) _ rfl w1.heap.size Y0 rfl rfl Z (Blk.new rfl) HZY.out HIY0.out HY01.out ?_; intro w2 U2 B2; have hb2 := U2.below ((Below.refl _ w1).alloc (Nat.le_refl _) (.cells Z 48)) (Nat.le_refl _); have K2 := Lib.hid B2; have G2 := Lib.hid (G1.out.call hb2); have HB2 := Lib.hid (HB1.out.trans (hb2.mono HB1.out.size)); have HLT := Lib.hid G1.out.lt; clear U2 B2 hb2)
    | ((with_reducible refine at_load (.tmp 22) ?_); refine wpList_load_1 3 (.tmp 22) rfl w.heap.size 0 (.int .i64 8) ((G1.out.to EX.out).cellAt (k := 0) hk0 rfl) rfl _ Try.underlying3 rfl rfl ?_)
    | ((with_reducible refine at_load (.tmp 25) ?_); refine wpList_load_1 3 (.tmp 25) rfl w.heap.size 0 (.int .i64 8) ((G2.out.to EX.out).cellAt (k := 0) hk0 rfl) rfl _ Try.underlying3 rfl rfl ?_)
    | ((with_reducible refine at_load (.tmp 1) ?_); refine wpList_load_g 48 (.tmp 1) rfl w.heap.size rfl X _ GX.out Try.underlying48 rfl HIX.out rfl ?_)
    | (go_at_call 18; refine (DF.out _ HB0.out).mono ?_; rintro en w1 ⟨u1, rfl, hy1, hb1⟩; have G1 := Lib.hid (GX.out.call hb1); have HB1 := Lib.hid (HB0.out.trans (hb1.mono HB0.out.size)); clear hy1 hb1)
    | fail)
  obtain ⟨u, hu⟩ : ∃ u, w2.drew = u := ⟨_, rfl⟩
  have HBU : Hid (Below w.heap.size w u) := by rw [← hu]; exact Below.drewN (n := 1) HB2.out
  have GU : Hid (Blk u w.heap.size X) := by rw [← hu]; exact G2.out
  have KU : Hid (Blk u w1.heap.size Y0) := by rw [← hu]; exact K2.out
  have HS : Hid (u.cell? ⟨w.heap.size, 444, none⟩ = some (.int .i64 x) ∧ u.cell? ⟨w.heap.size, 445, none⟩ = some (.int .i64 y)) := ⟨(GU.out.to EX.out).cellAt (k := 6) hp6.out (by rw [OO.out]; rfl), (GU.out.to EX.out).cellAt (k := 7) hp7.out (by rw [OO.out]; rfl)⟩
  refine wp_region_held_drew (S := fun u => u.cell? ⟨w.heap.size, 444, none⟩ = some (.int .i64 x) ∧ u.cell? ⟨w.heap.size, 445, none⟩ = some (.int .i64 y)) (by kernel_rfl) (by rw [hu]; exact HS.out) (fun _ => ?_)
  rw [hu]
  clear hu
  (try simp only [Act.put, List.setIfInBounds_toArray, List.set_cons_zero, List.set_cons_succ])
  refine wpAnyH_take (i := 0) (oi := ⟨some 54, _, _, _, _, _⟩) (v := .pointer (some ⟨w.heap.size, 444, none⟩)) rfl (by kernel_rfl) (by kernel_rfl) (by kernel_rfl) (fun _ _ _ h => h) (Or.inl ⟨by rfl, fun wz hz => ?_⟩) HS.out ?_
  · clear hz; go_simp; first | done | with_reducible rfl | rfl
  (try simp only [Act.put, List.setIfInBounds_toArray, List.set_cons_zero, List.set_cons_succ])
  refine held_load1 1 (oi := ⟨some 55, _, _, _, _, _⟩) rfl (by kernel_rfl) (by kernel_rfl) (by kernel_rfl) (fun _ _ _ _ h => h) rfl 3 (.tmp 54) rfl w.heap.size 444 rfl (.int .i64 x) _ (fun u' hu => hu.1) Try.underlying3 rfl HS.out ?_
  (try simp only [Act.put, List.setIfInBounds_toArray, List.set_cons_zero, List.set_cons_succ])
  refine wpAnyH_take (i := 2) (oi := ⟨some 56, _, _, _, _, _⟩) (v := .pointer (some ⟨w.heap.size, 445, none⟩)) rfl (by kernel_rfl) (by kernel_rfl) (by kernel_rfl) (fun _ _ _ h => h) (Or.inl ⟨by rfl, fun wz hz => ?_⟩) HS.out ?_
  · clear hz; go_simp; first | done | with_reducible rfl | rfl
  (try simp only [Act.put, List.setIfInBounds_toArray, List.set_cons_zero, List.set_cons_succ])
  refine held_load1 3 (oi := ⟨some 57, _, _, _, _, _⟩) rfl (by kernel_rfl) (by kernel_rfl) (by kernel_rfl) (fun _ _ _ _ h => h) rfl 3 (.tmp 56) rfl w.heap.size 445 rfl (.int .i64 y) _ (fun u' hu => hu.2) Try.underlying3 rfl HS.out ?_
  (try simp only [Act.put, List.setIfInBounds_toArray, List.set_cons_zero, List.set_cons_succ])
  refine wpAnyH_take (i := 4) (oi := ⟨some 58, _, _, _, _, _⟩) (v := .pointer (some ⟨w1.heap.size, 444, none⟩)) rfl (by kernel_rfl) (by kernel_rfl) (by kernel_rfl) (fun _ _ _ h => h) (Or.inl ⟨by rfl, fun wz hz => ?_⟩) HS.out ?_
  · clear hz; go_simp; first | done | with_reducible rfl | rfl
  (try simp only [Act.put, List.setIfInBounds_toArray, List.set_cons_zero, List.set_cons_succ])
  refine wpAnyH_ready (rs := [5]) (by kernel_rfl) (by simp) ?_
  refine AllReadyH.cons rfl (fun K hK => ?_) AllReadyH.nil
  rw [if_pos (by rfl)]
  refine wp_store_part1 3 (.tmp 58) (.tmp 55) rfl w1.heap.size PY 6 (.int .i64 0) (.int .i64 x) (KU.out.to hY0.out.symm) hq6.out (by rw [ho6.out]; rfl) rfl (by kernel_rfl) rfl rfl ?_
  intro w6 U B
  have K6 := Lib.hid B
  have HB6 := Lib.hid (U.below HBU.out HB1.out.size)
  have HS6 : Hid (w6.cell? ⟨w.heap.size, 444, none⟩ = some (.int .i64 x) ∧ w6.cell? ⟨w.heap.size, 445, none⟩ = some (.int .i64 y)) := by
    have h := HS.out
    simp only [World.cell?, U.block w.heap.size (Nat.ne_of_lt HLT.out)] at h ⊢
    exact h
  have G6 := Lib.hid (U.blk GU.out (Nat.ne_of_lt HLT.out))
  clear U B
  refine hK.out _ _ HS6.out (fun _ => ?_)
  clear hK K
  (try simp only [Act.put, List.setIfInBounds_toArray, List.set_cons_zero, List.set_cons_succ])
  refine wpAnyH_take (i := 6) (oi := ⟨some 59, _, _, _, _, _⟩) (v := .pointer (some ⟨w1.heap.size, 445, none⟩)) rfl (by kernel_rfl) (by kernel_rfl) (by kernel_rfl) (fun _ _ _ h => h) (Or.inl ⟨by rfl, fun wz hz => ?_⟩) HS6.out ?_
  · clear hz; go_simp; first | done | with_reducible rfl | rfl
  (try simp only [Act.put, List.setIfInBounds_toArray, List.set_cons_zero, List.set_cons_succ])
  refine wpAnyH_ready (rs := [7]) (by kernel_rfl) (by simp) ?_
  refine AllReadyH.cons rfl (fun K hK => ?_) AllReadyH.nil
  rw [if_pos (by rfl)]
  refine wp_store_part1 3 (.tmp 59) (.tmp 57) rfl w1.heap.size (PY.set 6 [.int .i64 x]) 7 (.int .i64 0) (.int .i64 y) K6.out hq7.out (by rw [ho7.out]; rfl) rfl (by kernel_rfl) rfl rfl ?_
  intro w7 U B
  have K7 := Lib.hid B
  have HB7 := Lib.hid (U.below HB6.out HB1.out.size)
  have HS7 : Hid (w7.cell? ⟨w.heap.size, 444, none⟩ = some (.int .i64 x) ∧ w7.cell? ⟨w.heap.size, 445, none⟩ = some (.int .i64 y)) := by
    have h := HS6.out
    simp only [World.cell?, U.block w.heap.size (Nat.ne_of_lt HLT.out)] at h ⊢
    exact h
  have G7 := Lib.hid (U.blk G6.out (Nat.ne_of_lt HLT.out))
  clear U B
  refine hK.out _ _ HS7.out (fun _ => ?_)
  clear hK K
  (try simp only [Act.put, List.setIfInBounds_toArray, List.set_cons_zero, List.set_cons_succ])
  refine wpAnyH_done (by kernel_rfl) ?_ _
  have KY := Lib.hid (K7.out.to hY.out)
  by_cases hp : sd
  case pos =>
    have HP := Lib.hid hp
    clear hp
    go_wp2_with (first
      | ((with_reducible refine at_load (.tmp 1) ?_); refine wpList_load_g 48 (.tmp 1) rfl w.heap.size rfl X _ G7.out Try.underlying48 rfl HIX.out rfl ?_)
      | ((with_reducible refine at_load (.tmp 5) ?_); refine wpList_load_g 48 (.tmp 5) rfl w1.heap.size rfl Y _ KY.out Try.underlying48 rfl HIY.out rfl ?_)
      | (go_at_call 20; refine (DS.out _ HB7.out).mono ?_; rintro en w5 hh; obtain ⟨rfl, hb5⟩ := tells_true hh HP.out; have HB5 := Lib.hid (HB7.out.trans (hb5.mono HB7.out.size)); clear hh hb5)
      | fail)
    go_ret
    exact ⟨by rw [HRV.out, HOE.out, if_pos HP.out]; rfl, HB5.out⟩
  case neg =>
    have HP := Lib.hid hp
    clear hp
    go_wp2_with (first
      | ((with_reducible refine at_load (.tmp 1) ?_); refine wpList_load_g 48 (.tmp 1) rfl w.heap.size rfl X _ G7.out Try.underlying48 rfl HIX.out rfl ?_)
      | ((with_reducible refine at_load (.tmp 5) ?_); refine wpList_load_g 48 (.tmp 5) rfl w1.heap.size rfl Y _ KY.out Try.underlying48 rfl HIY.out rfl ?_)
      | (go_at_call 20; refine (DS.out _ HB7.out).mono ?_; rintro en w5 hh; obtain ⟨rfl, hb5⟩ := tells_false hh HP.out; have HB5 := Lib.hid (HB7.out.trans (hb5.mono HB7.out.size)); clear hh hb5)
      | fail)
    go_ret
    exact ⟨by rw [HRV.out, HOE.out, if_neg HP.out]; rfl, HB5.out⟩

theorem vo_any (P : Value → Prop) (X : Array Value) (d : OpD) (w : World) (hX : OpIn P w X d) (hsm : SmallD d) : Calls Try.prog 11 #[.agg X] w (VoR w d) := by
  by_cases hk : d.k < 1 ∨ 8 < d.k
  · exact vo_out P X d w hX hsm hk
  by_cases he : fldE d = 0
  · obtain h | h | h | h | h | h | h | h : d.k = 1 ∨ d.k = 2 ∨ d.k = 3 ∨ d.k = 4 ∨ d.k = 5 ∨ d.k = 6 ∨ d.k = 7 ∨ d.k = 8 := by omega
    · exact vo_1 P X d w hX hsm h he
    · exact vo_2 P X d w hX hsm h he
    · exact vo_3 P X d w hX hsm h he
    · exact vo_4 P X d w hX hsm h he
    · exact vo_5 P X d w hX hsm h he
    · exact vo_6 P X d w hX hsm h he
    · exact vo_7 P X d w hX hsm h he
    · exact vo_8 P X d w hX hsm h he
  · exact vo_err P X d w hX hsm (by omega) he
end

end Go.Proofs.Ytmnojgdfbhdkhaa
