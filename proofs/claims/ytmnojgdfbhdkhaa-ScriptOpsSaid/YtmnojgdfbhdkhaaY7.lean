/- Several texts as one: ScX, ScY, ScV, ScQ, ScK. -/
import Derived.Test.YtmnojgdfbhdkhaaY6
import Derived.Test.YtmnojgdfbhdkhaaY3
import Derived.Test.YtmnojgdfbhdkhaaY2
import Derived.Test.YtmnojgdfbhdkhaaY1
namespace Go.Proofs.Ytmnojgdfbhdkhaa

/-! ScX -/
section
set_option linter.unusedVariables false
set_option linter.unusedSimpArgs false
open Go.RowKit


/-- What withoutField gives. -/
def WoR (w : World) (d : OpD) (en : Ending) (w' : World) : Prop := ∃ X, en = .returned (.agg X) ∧ OpIn (fun _ => True) w' X (woD d) ∧ Below w.heap.size w w'


set_option maxRecDepth 1000000 in
theorem bz_at (w : World) : (Instr.build 35 #[]).run Try.prog w = .ok (.agg (zAtP.d nilV).parts.flatten.toArray) w := by kernel_rfl
set_option maxRecDepth 1000000 in
theorem bz_sl (w : World) : (Instr.build 39 #[]).run Try.prog w = .ok (.agg [(zClP.d nilV).cells, (zClP.d nilV).cells].flatten.toArray) w := by kernel_rfl
set_option maxRecDepth 1000000 in
theorem bz_tb (w : World) : (Instr.build 42 #[]).run Try.prog w = .ok (.agg [zCp.cells, [nilV]].flatten.toArray) w := by kernel_rfl

set_option maxRecDepth 100000 in
set_option maxHeartbeats 16000000 in
theorem wof_2 (P : Value → Prop) (X : Array Value) (d : OpD) (w : World) (hX : OpIn P w X d) (hk : d.k = 2) : Calls Try.prog 25 #[.agg X] w (WoR w d) := by
  have hX0 := hX.size
  have hX1 := hX.one
  obtain ⟨v1, v2, v3, v4, eX, ok, ⟨i1, _⟩, ⟨i2, _⟩, ⟨i3, _⟩, ⟨i4, _⟩⟩ := hX
  have OO := Lib.hid (op_offs ok v1 v2 v3 v4)
  have LL := Lib.hid (OpD.lens ok v1 v2 v3 v4)
  obtain ⟨Z, hZ⟩ : ∃ Z, Hid (flatP ((kOp 0).parts nilV nilV nilV nilV) = Z) := ⟨_, rfl⟩
  have hZ0 : Hid (Z.size = 446) := by show _ = _; rw [← hZ.out]; rfl
  obtain ⟨hzz, hst⟩ := zero_array (P := Try.prog) (t := 48) (n := 446) Z (by rw [← hZ.out]; exact zop_zero) hZ0.out (by rw [← hZ.out]; exact zop_one)
  obtain ⟨PK, hPK⟩ : ∃ PK, Hid (d.parts v1 v2 v3 v4 = PK) := ⟨_, rfl⟩
  rw [hPK.out] at OO LL
  have HB0 := Lib.hid (((Below.refl w.heap.size w).alloc (Nat.le_refl _) (.cells X 48)).alloc (by simp) (.cells Z 48))
  have G1 : Hid (Blk ((w.alloc (.cells X 48)).alloc (.cells Z 48)) w.heap.size (flatP PK)) := ((Blk.new rfl).alloc _).to (by rw [eX, hPK.out])
  have GR : Hid (Blk ((w.alloc (.cells X 48)).alloc (.cells Z 48)) (w.heap.size + 1) Z) := Blk.new (by simp)
  have HIn := Lib.hid (fun u (hu : Below w.heap.size w u) => And.intro (i1.below hu) (And.intro (i2.below hu) (And.intro (i3.below hu) (i4.below hu))))
  obtain ⟨ok1, ok2, ok3, ok4, ok5, ok6, ok7, ok8, ok9⟩ := ok
  have hk0 : PK[0]? = some [.int .i64 d.k] := by rw [← hPK.out]; rfl
  have hW : woD d = { d with b := zBk } := by unfold woD; rw [hk]; rfl
  have hin : Hid (∀ u, Below w.heap.size w u → OpIn (fun _ => True) u (flatP (PK.set 1 (zBk.parts.flatten))) (woD d)) := fun u hu => by
    obtain ⟨j1, j2, j3, j4⟩ := HIn.out u hu
    rw [hW]
    exact ⟨v1, v2, v3, v4, by rw [← hPK.out]; rfl, ⟨ok1, zBk_ok, ok3, ok4, ok5, ok6, ok7, ok8, ok9⟩, ⟨j1, trivial⟩, ⟨j2, trivial⟩, ⟨j3, trivial⟩, ⟨j4, trivial⟩⟩
  obtain ⟨F, hF⟩ : ∃ F, Hid (flatP (PK.set 1 (zBk.parts.flatten)) = F) := ⟨_, rfl⟩
  rw [hF.out] at hin
  have HF1 := Lib.hid (hin.out w (Below.refl _ w)).one
  have hF0 := (hin.out w (Below.refl _ w)).size
  have HIF : Hid ((Try.prog.info? 48).map (·.size) = some F.size) := by show _ = _; rw [hF0]; exact info_op
  have HZF : Hid (Z.size = F.size) := by show _ = _; rw [hZ0.out, hF0]
  have BZ := Lib.hid bz_blk
  have hlz : (zBk.parts.flatten).length = 238 := rfl
  obtain ⟨LZ, hLZ⟩ : ∃ L, Hid (zBk.parts.flatten = L) := ⟨_, rfl⟩
  have HL1 : Hid (∀ v ∈ LZ, v.oneCell' = true) := by
    intro v hv
    refine HF1.out v ?_
    rw [← hF.out, hLZ.out, flatP, List.mem_toArray, List.mem_flatten]
    have hl := congrArg List.length LL.out
    rw [List.length_map] at hl
    exact ⟨LZ, List.mem_iff_getElem.2 ⟨1, by rw [List.length_set, hl]; decide, by simp⟩, hv⟩
  rw [hLZ.out] at BZ hF hlz
  have HLZ := Lib.hid hlz
  obtain ⟨p, hp1, hp2⟩ : ∃ p, Hid (PK[1]? = some p) ∧ Hid (LZ.length = p.length) := by
    have h1 := congrArg (fun l : List Nat => l[1]?) LL.out
    simp only [List.getElem?_map] at h1
    cases hq : PK[1]? with
    | none => rw [hq] at h1; cases h1
    | some p => rw [hq] at h1; exact ⟨p, rfl, by show _ = _; rw [hlz]; simpa using h1.symm⟩
  rw [hk] at hk0
  clear hX0 hX1 eX i1 i2 i3 i4 hk hW hF0 ok1 ok2 ok3 ok4 ok5 ok6 ok7 ok8 ok9 hlz
  go_enter Try.func25, Try.ntmps25
  go_wp2_with (first
    | ((with_reducible refine at_load (.tmp 3) ?_); refine wpList_load_1 3 (.tmp 3) rfl w.heap.size 0 (.int .i64 2) (G1.out.cellAt (k := 0) hk0 rfl) rfl _ Try.underlying3 rfl rfl ?_)
    | ((with_reducible refine at_build (some 7) ?_); refine wpList_build_g 32 _ rfl #[] (by simp) (.agg LZ.toArray) (BZ.out _) rfl ?_)
    | ((with_reducible refine at_store (.tmp 8) ?_); refine wpList_store_part rfl 32 (.tmp 8) _ rfl w.heap.size PK 1 p LZ G1.out hp1.out (by rw [OO.out]; rfl) rfl hp2.out (by rw [HLZ.out]; kernel_rfl) HL1.out ?_; intro w3 U3 B3; rw [hF.out] at B3; have KF := Lib.hid B3; have KR := Lib.hid (U3.blk GR.out (Nat.succ_ne_self _)); have HBF := Lib.hid (U3.below HB0.out (Nat.le_refl _)); clear U3 B3)
    | ((with_reducible refine at_load (.tmp 1) ?_); refine wpList_load_g 48 (.tmp 1) rfl w.heap.size rfl F _ KF.out Try.underlying48 rfl HIF.out rfl ?_)
    | ((with_reducible refine at_store (.tmp 2) ?_); refine wpList_store_blk rfl 48 (.tmp 2) _ rfl (w.heap.size + 1) F rfl rfl Z KR.out HZF.out HIF.out HF1.out ?_; intro w9 U9 B9))
  refine bodyPost_ret (res_cellR rfl rfl B9 Try.underlying48 rfl HIF.out) rfl ⟨F, rfl, hin.out _ (U9.below HBF.out (Nat.le_succ _)), U9.below HBF.out (Nat.le_succ _)⟩

set_option maxRecDepth 100000 in
set_option maxHeartbeats 16000000 in
theorem wof_3 (P : Value → Prop) (X : Array Value) (d : OpD) (w : World) (hX : OpIn P w X d) (hk : d.k = 3) : Calls Try.prog 25 #[.agg X] w (WoR w d) := by
  have hX0 := hX.size
  have hX1 := hX.one
  obtain ⟨v1, v2, v3, v4, eX, ok, ⟨i1, _⟩, ⟨i2, _⟩, ⟨i3, _⟩, ⟨i4, _⟩⟩ := hX
  have OO := Lib.hid (op_offs ok v1 v2 v3 v4)
  have LL := Lib.hid (OpD.lens ok v1 v2 v3 v4)
  obtain ⟨Z, hZ⟩ : ∃ Z, Hid (flatP ((kOp 0).parts nilV nilV nilV nilV) = Z) := ⟨_, rfl⟩
  have hZ0 : Hid (Z.size = 446) := by show _ = _; rw [← hZ.out]; rfl
  obtain ⟨hzz, hst⟩ := zero_array (P := Try.prog) (t := 48) (n := 446) Z (by rw [← hZ.out]; exact zop_zero) hZ0.out (by rw [← hZ.out]; exact zop_one)
  obtain ⟨PK, hPK⟩ : ∃ PK, Hid (d.parts v1 v2 v3 v4 = PK) := ⟨_, rfl⟩
  rw [hPK.out] at OO LL
  have HB0 := Lib.hid (((Below.refl w.heap.size w).alloc (Nat.le_refl _) (.cells X 48)).alloc (by simp) (.cells Z 48))
  have G1 : Hid (Blk ((w.alloc (.cells X 48)).alloc (.cells Z 48)) w.heap.size (flatP PK)) := ((Blk.new rfl).alloc _).to (by rw [eX, hPK.out])
  have GR : Hid (Blk ((w.alloc (.cells X 48)).alloc (.cells Z 48)) (w.heap.size + 1) Z) := Blk.new (by simp)
  have HIn := Lib.hid (fun u (hu : Below w.heap.size w u) => And.intro (i1.below hu) (And.intro (i2.below hu) (And.intro (i3.below hu) (i4.below hu))))
  obtain ⟨ok1, ok2, ok3, ok4, ok5, ok6, ok7, ok8, ok9⟩ := ok
  have hk0 : PK[0]? = some [.int .i64 d.k] := by rw [← hPK.out]; rfl
  have hW : woD d = { d with a := zAtP } := by unfold woD; rw [hk]; rfl
  have hin : Hid (∀ u, Below w.heap.size w u → OpIn (fun _ => True) u (flatP (PK.set 2 ((zAtP.d nilV).parts.flatten))) (woD d)) := fun u hu => by
    obtain ⟨j1, j2, j3, j4⟩ := HIn.out u hu
    rw [hW]
    exact ⟨nilV, v2, v3, v4, by rw [← hPK.out]; rfl, ⟨ok1, ok2, (kOp_ok (k := 0) (by unfold i64R; omega)).2.2.1, ok4, ok5, ok6, ok7, ok8, ok9⟩, ⟨intsV_nil _, trivial⟩, ⟨j2, trivial⟩, ⟨j3, trivial⟩, ⟨j4, trivial⟩⟩
  obtain ⟨F, hF⟩ : ∃ F, Hid (flatP (PK.set 2 ((zAtP.d nilV).parts.flatten)) = F) := ⟨_, rfl⟩
  rw [hF.out] at hin
  have HF1 := Lib.hid (hin.out w (Below.refl _ w)).one
  have hF0 := (hin.out w (Below.refl _ w)).size
  have HIF : Hid ((Try.prog.info? 48).map (·.size) = some F.size) := by show _ = _; rw [hF0]; exact info_op
  have HZF : Hid (Z.size = F.size) := by show _ = _; rw [hZ0.out, hF0]
  have BZ := Lib.hid bz_at
  have hlz : ((zAtP.d nilV).parts.flatten).length = 67 := rfl
  obtain ⟨LZ, hLZ⟩ : ∃ L, Hid ((zAtP.d nilV).parts.flatten = L) := ⟨_, rfl⟩
  have HL1 : Hid (∀ v ∈ LZ, v.oneCell' = true) := by
    intro v hv
    refine HF1.out v ?_
    rw [← hF.out, hLZ.out, flatP, List.mem_toArray, List.mem_flatten]
    have hl := congrArg List.length LL.out
    rw [List.length_map] at hl
    exact ⟨LZ, List.mem_iff_getElem.2 ⟨2, by rw [List.length_set, hl]; decide, by simp⟩, hv⟩
  rw [hLZ.out] at BZ hF hlz
  have HLZ := Lib.hid hlz
  obtain ⟨p, hp1, hp2⟩ : ∃ p, Hid (PK[2]? = some p) ∧ Hid (LZ.length = p.length) := by
    have h1 := congrArg (fun l : List Nat => l[2]?) LL.out
    simp only [List.getElem?_map] at h1
    cases hq : PK[2]? with
    | none => rw [hq] at h1; cases h1
    | some p => rw [hq] at h1; exact ⟨p, rfl, by show _ = _; rw [hlz]; simpa using h1.symm⟩
  rw [hk] at hk0
  clear hX0 hX1 eX i1 i2 i3 i4 hk hW hF0 ok1 ok2 ok3 ok4 ok5 ok6 ok7 ok8 ok9 hlz
  go_enter Try.func25, Try.ntmps25
  go_wp2_with (first
    | ((with_reducible refine at_load (.tmp 3) ?_); refine wpList_load_1 3 (.tmp 3) rfl w.heap.size 0 (.int .i64 3) (G1.out.cellAt (k := 0) hk0 rfl) rfl _ Try.underlying3 rfl rfl ?_)
    | ((with_reducible refine at_build (some 11) ?_); refine wpList_build_g 35 _ rfl #[] (by simp) (.agg LZ.toArray) (BZ.out _) rfl ?_)
    | ((with_reducible refine at_store (.tmp 12) ?_); refine wpList_store_part rfl 35 (.tmp 12) _ rfl w.heap.size PK 2 p LZ G1.out hp1.out (by rw [OO.out]; rfl) rfl hp2.out (by rw [HLZ.out]; kernel_rfl) HL1.out ?_; intro w3 U3 B3; rw [hF.out] at B3; have KF := Lib.hid B3; have KR := Lib.hid (U3.blk GR.out (Nat.succ_ne_self _)); have HBF := Lib.hid (U3.below HB0.out (Nat.le_refl _)); clear U3 B3)
    | ((with_reducible refine at_load (.tmp 1) ?_); refine wpList_load_g 48 (.tmp 1) rfl w.heap.size rfl F _ KF.out Try.underlying48 rfl HIF.out rfl ?_)
    | ((with_reducible refine at_store (.tmp 2) ?_); refine wpList_store_blk rfl 48 (.tmp 2) _ rfl (w.heap.size + 1) F rfl rfl Z KR.out HZF.out HIF.out HF1.out ?_; intro w9 U9 B9))
  refine bodyPost_ret (res_cellR rfl rfl B9 Try.underlying48 rfl HIF.out) rfl ⟨F, rfl, hin.out _ (U9.below HBF.out (Nat.le_succ _)), U9.below HBF.out (Nat.le_succ _)⟩

set_option maxRecDepth 100000 in
set_option maxHeartbeats 16000000 in
theorem wof_4 (P : Value → Prop) (X : Array Value) (d : OpD) (w : World) (hX : OpIn P w X d) (hk : d.k = 4) : Calls Try.prog 25 #[.agg X] w (WoR w d) := by
  have hX0 := hX.size
  have hX1 := hX.one
  obtain ⟨v1, v2, v3, v4, eX, ok, ⟨i1, _⟩, ⟨i2, _⟩, ⟨i3, _⟩, ⟨i4, _⟩⟩ := hX
  have OO := Lib.hid (op_offs ok v1 v2 v3 v4)
  have LL := Lib.hid (OpD.lens ok v1 v2 v3 v4)
  obtain ⟨Z, hZ⟩ : ∃ Z, Hid (flatP ((kOp 0).parts nilV nilV nilV nilV) = Z) := ⟨_, rfl⟩
  have hZ0 : Hid (Z.size = 446) := by show _ = _; rw [← hZ.out]; rfl
  obtain ⟨hzz, hst⟩ := zero_array (P := Try.prog) (t := 48) (n := 446) Z (by rw [← hZ.out]; exact zop_zero) hZ0.out (by rw [← hZ.out]; exact zop_one)
  obtain ⟨PK, hPK⟩ : ∃ PK, Hid (d.parts v1 v2 v3 v4 = PK) := ⟨_, rfl⟩
  rw [hPK.out] at OO LL
  have HB0 := Lib.hid (((Below.refl w.heap.size w).alloc (Nat.le_refl _) (.cells X 48)).alloc (by simp) (.cells Z 48))
  have G1 : Hid (Blk ((w.alloc (.cells X 48)).alloc (.cells Z 48)) w.heap.size (flatP PK)) := ((Blk.new rfl).alloc _).to (by rw [eX, hPK.out])
  have GR : Hid (Blk ((w.alloc (.cells X 48)).alloc (.cells Z 48)) (w.heap.size + 1) Z) := Blk.new (by simp)
  have HIn := Lib.hid (fun u (hu : Below w.heap.size w u) => And.intro (i1.below hu) (And.intro (i2.below hu) (And.intro (i3.below hu) (i4.below hu))))
  obtain ⟨ok1, ok2, ok3, ok4, ok5, ok6, ok7, ok8, ok9⟩ := ok
  have hk0 : PK[0]? = some [.int .i64 d.k] := by rw [← hPK.out]; rfl
  have hW : woD d = { d with c1 := zClP, c2 := zClP } := by unfold woD; rw [hk]; rfl
  have hin : Hid (∀ u, Below w.heap.size w u → OpIn (fun _ => True) u (flatP (PK.set 3 ([(zClP.d nilV).cells, (zClP.d nilV).cells].flatten))) (woD d)) := fun u hu => by
    obtain ⟨j1, j2, j3, j4⟩ := HIn.out u hu
    rw [hW]
    exact ⟨v1, nilV, nilV, v4, by rw [← hPK.out]; rfl, ⟨ok1, ok2, ok3, zCl_ok, zCl_ok, ok6, ok7, ok8, ok9⟩, ⟨j1, trivial⟩, ⟨intsV_nil _, trivial⟩, ⟨intsV_nil _, trivial⟩, ⟨j4, trivial⟩⟩
  obtain ⟨F, hF⟩ : ∃ F, Hid (flatP (PK.set 3 ([(zClP.d nilV).cells, (zClP.d nilV).cells].flatten)) = F) := ⟨_, rfl⟩
  rw [hF.out] at hin
  have HF1 := Lib.hid (hin.out w (Below.refl _ w)).one
  have hF0 := (hin.out w (Below.refl _ w)).size
  have HIF : Hid ((Try.prog.info? 48).map (·.size) = some F.size) := by show _ = _; rw [hF0]; exact info_op
  have HZF : Hid (Z.size = F.size) := by show _ = _; rw [hZ0.out, hF0]
  have BZ := Lib.hid bz_sl
  have hlz : ([(zClP.d nilV).cells, (zClP.d nilV).cells].flatten).length = 70 := rfl
  obtain ⟨LZ, hLZ⟩ : ∃ L, Hid ([(zClP.d nilV).cells, (zClP.d nilV).cells].flatten = L) := ⟨_, rfl⟩
  have HL1 : Hid (∀ v ∈ LZ, v.oneCell' = true) := by
    intro v hv
    refine HF1.out v ?_
    rw [← hF.out, hLZ.out, flatP, List.mem_toArray, List.mem_flatten]
    have hl := congrArg List.length LL.out
    rw [List.length_map] at hl
    exact ⟨LZ, List.mem_iff_getElem.2 ⟨3, by rw [List.length_set, hl]; decide, by simp⟩, hv⟩
  rw [hLZ.out] at BZ hF hlz
  have HLZ := Lib.hid hlz
  obtain ⟨p, hp1, hp2⟩ : ∃ p, Hid (PK[3]? = some p) ∧ Hid (LZ.length = p.length) := by
    have h1 := congrArg (fun l : List Nat => l[3]?) LL.out
    simp only [List.getElem?_map] at h1
    cases hq : PK[3]? with
    | none => rw [hq] at h1; cases h1
    | some p => rw [hq] at h1; exact ⟨p, rfl, by show _ = _; rw [hlz]; simpa using h1.symm⟩
  rw [hk] at hk0
  clear hX0 hX1 eX i1 i2 i3 i4 hk hW hF0 ok1 ok2 ok3 ok4 ok5 ok6 ok7 ok8 ok9 hlz
  go_enter Try.func25, Try.ntmps25
  go_wp2_with (first
    | ((with_reducible refine at_load (.tmp 3) ?_); refine wpList_load_1 3 (.tmp 3) rfl w.heap.size 0 (.int .i64 4) (G1.out.cellAt (k := 0) hk0 rfl) rfl _ Try.underlying3 rfl rfl ?_)
    | ((with_reducible refine at_build (some 15) ?_); refine wpList_build_g 39 _ rfl #[] (by simp) (.agg LZ.toArray) (BZ.out _) rfl ?_)
    | ((with_reducible refine at_store (.tmp 16) ?_); refine wpList_store_part rfl 39 (.tmp 16) _ rfl w.heap.size PK 3 p LZ G1.out hp1.out (by rw [OO.out]; rfl) rfl hp2.out (by rw [HLZ.out]; kernel_rfl) HL1.out ?_; intro w3 U3 B3; rw [hF.out] at B3; have KF := Lib.hid B3; have KR := Lib.hid (U3.blk GR.out (Nat.succ_ne_self _)); have HBF := Lib.hid (U3.below HB0.out (Nat.le_refl _)); clear U3 B3)
    | ((with_reducible refine at_load (.tmp 1) ?_); refine wpList_load_g 48 (.tmp 1) rfl w.heap.size rfl F _ KF.out Try.underlying48 rfl HIF.out rfl ?_)
    | ((with_reducible refine at_store (.tmp 2) ?_); refine wpList_store_blk rfl 48 (.tmp 2) _ rfl (w.heap.size + 1) F rfl rfl Z KR.out HZF.out HIF.out HF1.out ?_; intro w9 U9 B9))
  refine bodyPost_ret (res_cellR rfl rfl B9 Try.underlying48 rfl HIF.out) rfl ⟨F, rfl, hin.out _ (U9.below HBF.out (Nat.le_succ _)), U9.below HBF.out (Nat.le_succ _)⟩

set_option maxRecDepth 100000 in
set_option maxHeartbeats 16000000 in
theorem wof_5 (P : Value → Prop) (X : Array Value) (d : OpD) (w : World) (hX : OpIn P w X d) (hk : d.k = 5) : Calls Try.prog 25 #[.agg X] w (WoR w d) := by
  have hX0 := hX.size
  have hX1 := hX.one
  obtain ⟨v1, v2, v3, v4, eX, ok, ⟨i1, _⟩, ⟨i2, _⟩, ⟨i3, _⟩, ⟨i4, _⟩⟩ := hX
  have OO := Lib.hid (op_offs ok v1 v2 v3 v4)
  have LL := Lib.hid (OpD.lens ok v1 v2 v3 v4)
  obtain ⟨Z, hZ⟩ : ∃ Z, Hid (flatP ((kOp 0).parts nilV nilV nilV nilV) = Z) := ⟨_, rfl⟩
  have hZ0 : Hid (Z.size = 446) := by show _ = _; rw [← hZ.out]; rfl
  obtain ⟨hzz, hst⟩ := zero_array (P := Try.prog) (t := 48) (n := 446) Z (by rw [← hZ.out]; exact zop_zero) hZ0.out (by rw [← hZ.out]; exact zop_one)
  obtain ⟨PK, hPK⟩ : ∃ PK, Hid (d.parts v1 v2 v3 v4 = PK) := ⟨_, rfl⟩
  rw [hPK.out] at OO LL
  have HB0 := Lib.hid (((Below.refl w.heap.size w).alloc (Nat.le_refl _) (.cells X 48)).alloc (by simp) (.cells Z 48))
  have G1 : Hid (Blk ((w.alloc (.cells X 48)).alloc (.cells Z 48)) w.heap.size (flatP PK)) := ((Blk.new rfl).alloc _).to (by rw [eX, hPK.out])
  have GR : Hid (Blk ((w.alloc (.cells X 48)).alloc (.cells Z 48)) (w.heap.size + 1) Z) := Blk.new (by simp)
  have HIn := Lib.hid (fun u (hu : Below w.heap.size w u) => And.intro (i1.below hu) (And.intro (i2.below hu) (And.intro (i3.below hu) (i4.below hu))))
  obtain ⟨ok1, ok2, ok3, ok4, ok5, ok6, ok7, ok8, ok9⟩ := ok
  have hk0 : PK[0]? = some [.int .i64 d.k] := by rw [← hPK.out]; rfl
  have hW : woD d = { d with tc := zCp, tl := [] } := by unfold woD; rw [hk]; rfl
  have hin : Hid (∀ u, Below w.heap.size w u → OpIn (fun _ => True) u (flatP (PK.set 4 ([zCp.cells, [nilV]].flatten))) (woD d)) := fun u hu => by
    obtain ⟨j1, j2, j3, j4⟩ := HIn.out u hu
    rw [hW]
    exact ⟨v1, v2, v3, nilV, by rw [← hPK.out]; rfl, ⟨ok1, ok2, ok3, ok4, ok5, zCp_ok, ok7, ok8, ok9⟩, ⟨j1, trivial⟩, ⟨j2, trivial⟩, ⟨j3, trivial⟩, ⟨numsV_nil _, trivial⟩⟩
  obtain ⟨F, hF⟩ : ∃ F, Hid (flatP (PK.set 4 ([zCp.cells, [nilV]].flatten)) = F) := ⟨_, rfl⟩
  rw [hF.out] at hin
  have HF1 := Lib.hid (hin.out w (Below.refl _ w)).one
  have hF0 := (hin.out w (Below.refl _ w)).size
  have HIF : Hid ((Try.prog.info? 48).map (·.size) = some F.size) := by show _ = _; rw [hF0]; exact info_op
  have HZF : Hid (Z.size = F.size) := by show _ = _; rw [hZ0.out, hF0]
  have BZ := Lib.hid bz_tb
  have hlz : ([zCp.cells, [nilV]].flatten).length = 34 := rfl
  obtain ⟨LZ, hLZ⟩ : ∃ L, Hid ([zCp.cells, [nilV]].flatten = L) := ⟨_, rfl⟩
  have HL1 : Hid (∀ v ∈ LZ, v.oneCell' = true) := by
    intro v hv
    refine HF1.out v ?_
    rw [← hF.out, hLZ.out, flatP, List.mem_toArray, List.mem_flatten]
    have hl := congrArg List.length LL.out
    rw [List.length_map] at hl
    exact ⟨LZ, List.mem_iff_getElem.2 ⟨4, by rw [List.length_set, hl]; decide, by simp⟩, hv⟩
  rw [hLZ.out] at BZ hF hlz
  have HLZ := Lib.hid hlz
  obtain ⟨p, hp1, hp2⟩ : ∃ p, Hid (PK[4]? = some p) ∧ Hid (LZ.length = p.length) := by
    have h1 := congrArg (fun l : List Nat => l[4]?) LL.out
    simp only [List.getElem?_map] at h1
    cases hq : PK[4]? with
    | none => rw [hq] at h1; cases h1
    | some p => rw [hq] at h1; exact ⟨p, rfl, by show _ = _; rw [hlz]; simpa using h1.symm⟩
  rw [hk] at hk0
  clear hX0 hX1 eX i1 i2 i3 i4 hk hW hF0 ok1 ok2 ok3 ok4 ok5 ok6 ok7 ok8 ok9 hlz
  go_enter Try.func25, Try.ntmps25
  go_wp2_with (first
    | ((with_reducible refine at_load (.tmp 3) ?_); refine wpList_load_1 3 (.tmp 3) rfl w.heap.size 0 (.int .i64 5) (G1.out.cellAt (k := 0) hk0 rfl) rfl _ Try.underlying3 rfl rfl ?_)
    | ((with_reducible refine at_build (some 19) ?_); refine wpList_build_g 42 _ rfl #[] (by simp) (.agg LZ.toArray) (BZ.out _) rfl ?_)
    | ((with_reducible refine at_store (.tmp 20) ?_); refine wpList_store_part rfl 42 (.tmp 20) _ rfl w.heap.size PK 4 p LZ G1.out hp1.out (by rw [OO.out]; rfl) rfl hp2.out (by rw [HLZ.out]; kernel_rfl) HL1.out ?_; intro w3 U3 B3; rw [hF.out] at B3; have KF := Lib.hid B3; have KR := Lib.hid (U3.blk GR.out (Nat.succ_ne_self _)); have HBF := Lib.hid (U3.below HB0.out (Nat.le_refl _)); clear U3 B3)
    | ((with_reducible refine at_load (.tmp 1) ?_); refine wpList_load_g 48 (.tmp 1) rfl w.heap.size rfl F _ KF.out Try.underlying48 rfl HIF.out rfl ?_)
    | ((with_reducible refine at_store (.tmp 2) ?_); refine wpList_store_blk rfl 48 (.tmp 2) _ rfl (w.heap.size + 1) F rfl rfl Z KR.out HZF.out HIF.out HF1.out ?_; intro w9 U9 B9))
  refine bodyPost_ret (res_cellR rfl rfl B9 Try.underlying48 rfl HIF.out) rfl ⟨F, rfl, hin.out _ (U9.below HBF.out (Nat.le_succ _)), U9.below HBF.out (Nat.le_succ _)⟩

set_option maxRecDepth 100000 in
set_option maxHeartbeats 16000000 in
theorem wof_6 (P : Value → Prop) (X : Array Value) (d : OpD) (w : World) (hX : OpIn P w X d) (hk : d.k = 6) : Calls Try.prog 25 #[.agg X] w (WoR w d) := by
  have hX0 := hX.size
  have hX1 := hX.one
  obtain ⟨v1, v2, v3, v4, eX, ok, ⟨i1, _⟩, ⟨i2, _⟩, ⟨i3, _⟩, ⟨i4, _⟩⟩ := hX
  have OO := Lib.hid (op_offs ok v1 v2 v3 v4)
  have LL := Lib.hid (OpD.lens ok v1 v2 v3 v4)
  obtain ⟨Z, hZ⟩ : ∃ Z, Hid (flatP ((kOp 0).parts nilV nilV nilV nilV) = Z) := ⟨_, rfl⟩
  have hZ0 : Hid (Z.size = 446) := by show _ = _; rw [← hZ.out]; rfl
  obtain ⟨hzz, hst⟩ := zero_array (P := Try.prog) (t := 48) (n := 446) Z (by rw [← hZ.out]; exact zop_zero) hZ0.out (by rw [← hZ.out]; exact zop_one)
  obtain ⟨PK, hPK⟩ : ∃ PK, Hid (d.parts v1 v2 v3 v4 = PK) := ⟨_, rfl⟩
  rw [hPK.out] at OO LL
  have HB0 := Lib.hid (((Below.refl w.heap.size w).alloc (Nat.le_refl _) (.cells X 48)).alloc (by simp) (.cells Z 48))
  have G1 : Hid (Blk ((w.alloc (.cells X 48)).alloc (.cells Z 48)) w.heap.size (flatP PK)) := ((Blk.new rfl).alloc _).to (by rw [eX, hPK.out])
  have GR : Hid (Blk ((w.alloc (.cells X 48)).alloc (.cells Z 48)) (w.heap.size + 1) Z) := Blk.new (by simp)
  have HIn := Lib.hid (fun u (hu : Below w.heap.size w u) => And.intro (i1.below hu) (And.intro (i2.below hu) (And.intro (i3.below hu) (i4.below hu))))
  obtain ⟨ok1, ok2, ok3, ok4, ok5, ok6, ok7, ok8, ok9⟩ := ok
  have hk0 : PK[0]? = some [.int .i64 d.k] := by rw [← hPK.out]; rfl
  have hW : woD d = { d with v := zVd } := by unfold woD; rw [hk]; rfl
  have hin : Hid (∀ u, Below w.heap.size w u → OpIn (fun _ => True) u (flatP (PK.set 5 (zVd.parts.flatten))) (woD d)) := fun u hu => by
    obtain ⟨j1, j2, j3, j4⟩ := HIn.out u hu
    rw [hW]
    exact ⟨v1, v2, v3, v4, by rw [← hPK.out]; rfl, ⟨ok1, ok2, ok3, ok4, ok5, ok6, zVd_ok, ok8, ok9⟩, ⟨j1, trivial⟩, ⟨j2, trivial⟩, ⟨j3, trivial⟩, ⟨j4, trivial⟩⟩
  obtain ⟨F, hF⟩ : ∃ F, Hid (flatP (PK.set 5 (zVd.parts.flatten)) = F) := ⟨_, rfl⟩
  rw [hF.out] at hin
  have HF1 := Lib.hid (hin.out w (Below.refl _ w)).one
  have hF0 := (hin.out w (Below.refl _ w)).size
  have HIF : Hid ((Try.prog.info? 48).map (·.size) = some F.size) := by show _ = _; rw [hF0]; exact info_op
  have HZF : Hid (Z.size = F.size) := by show _ = _; rw [hZ0.out, hF0]
  have BZ := Lib.hid bz_vd
  have hlz : (zVd.parts.flatten).length = 34 := rfl
  obtain ⟨LZ, hLZ⟩ : ∃ L, Hid (zVd.parts.flatten = L) := ⟨_, rfl⟩
  have HL1 : Hid (∀ v ∈ LZ, v.oneCell' = true) := by
    intro v hv
    refine HF1.out v ?_
    rw [← hF.out, hLZ.out, flatP, List.mem_toArray, List.mem_flatten]
    have hl := congrArg List.length LL.out
    rw [List.length_map] at hl
    exact ⟨LZ, List.mem_iff_getElem.2 ⟨5, by rw [List.length_set, hl]; decide, by simp⟩, hv⟩
  rw [hLZ.out] at BZ hF hlz
  have HLZ := Lib.hid hlz
  obtain ⟨p, hp1, hp2⟩ : ∃ p, Hid (PK[5]? = some p) ∧ Hid (LZ.length = p.length) := by
    have h1 := congrArg (fun l : List Nat => l[5]?) LL.out
    simp only [List.getElem?_map] at h1
    cases hq : PK[5]? with
    | none => rw [hq] at h1; cases h1
    | some p => rw [hq] at h1; exact ⟨p, rfl, by show _ = _; rw [hlz]; simpa using h1.symm⟩
  rw [hk] at hk0
  clear hX0 hX1 eX i1 i2 i3 i4 hk hW hF0 ok1 ok2 ok3 ok4 ok5 ok6 ok7 ok8 ok9 hlz
  go_enter Try.func25, Try.ntmps25
  go_wp2_with (first
    | ((with_reducible refine at_load (.tmp 3) ?_); refine wpList_load_1 3 (.tmp 3) rfl w.heap.size 0 (.int .i64 6) (G1.out.cellAt (k := 0) hk0 rfl) rfl _ Try.underlying3 rfl rfl ?_)
    | ((with_reducible refine at_build (some 23) ?_); refine wpList_build_g 46 _ rfl #[] (by simp) (.agg LZ.toArray) (BZ.out _) rfl ?_)
    | ((with_reducible refine at_store (.tmp 24) ?_); refine wpList_store_part rfl 46 (.tmp 24) _ rfl w.heap.size PK 5 p LZ G1.out hp1.out (by rw [OO.out]; rfl) rfl hp2.out (by rw [HLZ.out]; kernel_rfl) HL1.out ?_; intro w3 U3 B3; rw [hF.out] at B3; have KF := Lib.hid B3; have KR := Lib.hid (U3.blk GR.out (Nat.succ_ne_self _)); have HBF := Lib.hid (U3.below HB0.out (Nat.le_refl _)); clear U3 B3)
    | ((with_reducible refine at_load (.tmp 1) ?_); refine wpList_load_g 48 (.tmp 1) rfl w.heap.size rfl F _ KF.out Try.underlying48 rfl HIF.out rfl ?_)
    | ((with_reducible refine at_store (.tmp 2) ?_); refine wpList_store_blk rfl 48 (.tmp 2) _ rfl (w.heap.size + 1) F rfl rfl Z KR.out HZF.out HIF.out HF1.out ?_; intro w9 U9 B9))
  refine bodyPost_ret (res_cellR rfl rfl B9 Try.underlying48 rfl HIF.out) rfl ⟨F, rfl, hin.out _ (U9.below HBF.out (Nat.le_succ _)), U9.below HBF.out (Nat.le_succ _)⟩

set_option maxRecDepth 100000 in
set_option maxHeartbeats 16000000 in
theorem wof_8 (P : Value → Prop) (X : Array Value) (d : OpD) (w : World) (hX : OpIn P w X d) (hk : d.k = 8) : Calls Try.prog 25 #[.agg X] w (WoR w d) := by
  have hX0 := hX.size
  have hX1 := hX.one
  obtain ⟨v1, v2, v3, v4, eX, ok, ⟨i1, _⟩, ⟨i2, _⟩, ⟨i3, _⟩, ⟨i4, _⟩⟩ := hX
  have OO := Lib.hid (op_offs ok v1 v2 v3 v4)
  have LL := Lib.hid (OpD.lens ok v1 v2 v3 v4)
  obtain ⟨Z, hZ⟩ : ∃ Z, Hid (flatP ((kOp 0).parts nilV nilV nilV nilV) = Z) := ⟨_, rfl⟩
  have hZ0 : Hid (Z.size = 446) := by show _ = _; rw [← hZ.out]; rfl
  obtain ⟨hzz, hst⟩ := zero_array (P := Try.prog) (t := 48) (n := 446) Z (by rw [← hZ.out]; exact zop_zero) hZ0.out (by rw [← hZ.out]; exact zop_one)
  obtain ⟨PK, hPK⟩ : ∃ PK, Hid (d.parts v1 v2 v3 v4 = PK) := ⟨_, rfl⟩
  rw [hPK.out] at OO LL
  have HB0 := Lib.hid (((Below.refl w.heap.size w).alloc (Nat.le_refl _) (.cells X 48)).alloc (by simp) (.cells Z 48))
  have G1 : Hid (Blk ((w.alloc (.cells X 48)).alloc (.cells Z 48)) w.heap.size (flatP PK)) := ((Blk.new rfl).alloc _).to (by rw [eX, hPK.out])
  have GR : Hid (Blk ((w.alloc (.cells X 48)).alloc (.cells Z 48)) (w.heap.size + 1) Z) := Blk.new (by simp)
  have HIn := Lib.hid (fun u (hu : Below w.heap.size w u) => And.intro (i1.below hu) (And.intro (i2.below hu) (And.intro (i3.below hu) (i4.below hu))))
  obtain ⟨ok1, ok2, ok3, ok4, ok5, ok6, ok7, ok8, ok9⟩ := ok
  have hk0 : PK[0]? = some [.int .i64 d.k] := by rw [← hPK.out]; rfl
  have hW : woD d = { d with w := 0, p := 0 } := by unfold woD; rw [hk]; rfl
  have hin : Hid (∀ u, Below w.heap.size w u → OpIn (fun _ => True) u (flatP ((PK.set 6 [.int .i64 0]).set 7 [.int .i64 0])) (woD d)) := fun u hu => by
    obtain ⟨j1, j2, j3, j4⟩ := HIn.out u hu
    rw [hW]
    exact ⟨v1, v2, v3, v4, by rw [← hPK.out]; rfl, ⟨ok1, ok2, ok3, ok4, ok5, ok6, ok7, by show i64R 0; unfold i64R; omega, by show i64R 0; unfold i64R; omega⟩, ⟨j1, trivial⟩, ⟨j2, trivial⟩, ⟨j3, trivial⟩, ⟨j4, trivial⟩⟩
  obtain ⟨F, hF⟩ : ∃ F, Hid (flatP ((PK.set 6 [.int .i64 0]).set 7 [.int .i64 0]) = F) := ⟨_, rfl⟩
  rw [hF.out] at hin
  have HF1 := Lib.hid (hin.out w (Below.refl _ w)).one
  have hF0 := (hin.out w (Below.refl _ w)).size
  have HIF : Hid ((Try.prog.info? 48).map (·.size) = some F.size) := by show _ = _; rw [hF0]; exact info_op
  have HZF : Hid (Z.size = F.size) := by show _ = _; rw [hZ0.out, hF0]
  have hp6 : Hid (PK[6]? = some [.int .i64 d.w]) := by show _ = _; rw [← hPK.out]; rfl
  have hp7 : Hid ((PK.set 6 [.int .i64 0])[7]? = some [.int .i64 d.p]) := by show _ = _; rw [← hPK.out]; rfl
  have ho7 : Hid (offP (PK.set 6 [.int .i64 0]) 7 = 445) := by show _ = _; rw [offs_of (ls := [1, 238, 67, 70, 34, 34, 1, 1]) (by rw [List.map_set, LL.out]; rfl)]; rfl
  rw [hk] at hk0
  clear hX0 hX1 eX i1 i2 i3 i4 hk hW hF0 ok1 ok2 ok3 ok4 ok5 ok6 ok7 ok8 ok9
  go_enter Try.func25, Try.ntmps25
  go_wp2_with (first
    | ((with_reducible refine at_load (.tmp 3) ?_); refine wpList_load_1 3 (.tmp 3) rfl w.heap.size 0 (.int .i64 8) (G1.out.cellAt (k := 0) hk0 rfl) rfl _ Try.underlying3 rfl rfl ?_)
    | ((with_reducible refine at_store (.tmp 27) ?_); refine wpList_store_part1 rfl 3 (.tmp 27) _ rfl w.heap.size PK 6 (.int .i64 d.w) (.int .i64 0) G1.out hp6.out (by rw [OO.out]; rfl) rfl (by kernel_rfl) rfl rfl ?_; intro w3 U3 B3; have K3 := Lib.hid B3; have KR3 := Lib.hid (U3.blk GR.out (Nat.succ_ne_self _)); have HB3 := Lib.hid (U3.below HB0.out (Nat.le_refl _)); clear U3 B3)
    | ((with_reducible refine at_store (.tmp 28) ?_); refine wpList_store_part1 rfl 3 (.tmp 28) _ rfl w.heap.size (PK.set 6 [.int .i64 0]) 7 (.int .i64 d.p) (.int .i64 0) K3.out hp7.out (by rw [ho7.out]; rfl) rfl (by kernel_rfl) rfl rfl ?_; intro w4 U4 B4; rw [hF.out] at B4; have KF := Lib.hid B4; have KR := Lib.hid (U4.blk KR3.out (Nat.succ_ne_self _)); have HBF := Lib.hid (U4.below HB3.out (Nat.le_refl _)); clear U4 B4)
    | ((with_reducible refine at_load (.tmp 1) ?_); refine wpList_load_g 48 (.tmp 1) rfl w.heap.size rfl F _ KF.out Try.underlying48 rfl HIF.out rfl ?_)
    | ((with_reducible refine at_store (.tmp 2) ?_); refine wpList_store_blk rfl 48 (.tmp 2) _ rfl (w.heap.size + 1) F rfl rfl Z KR.out HZF.out HIF.out HF1.out ?_; intro w9 U9 B9))
  refine bodyPost_ret (res_cellR rfl rfl B9 Try.underlying48 rfl HIF.out) rfl ⟨F, rfl, hin.out _ (U9.below HBF.out (Nat.le_succ _)), U9.below HBF.out (Nat.le_succ _)⟩

set_option maxRecDepth 100000 in
set_option maxHeartbeats 16000000 in
theorem wof_0 (P : Value → Prop) (X : Array Value) (d : OpD) (w : World) (hX : OpIn P w X d) (h2 : d.k ≠ 2) (h3 : d.k ≠ 3) (h4 : d.k ≠ 4) (h5 : d.k ≠ 5) (h6 : d.k ≠ 6) (h8 : d.k ≠ 8) : Calls Try.prog 25 #[.agg X] w (WoR w d) := by
  have hX0 := hX.size
  have hX1 := hX.one
  obtain ⟨v1, v2, v3, v4, eX, ok, ⟨i1, _⟩, ⟨i2, _⟩, ⟨i3, _⟩, ⟨i4, _⟩⟩ := hX
  have OO := Lib.hid (op_offs ok v1 v2 v3 v4)
  have LL := Lib.hid (OpD.lens ok v1 v2 v3 v4)
  obtain ⟨Z, hZ⟩ : ∃ Z, Hid (flatP ((kOp 0).parts nilV nilV nilV nilV) = Z) := ⟨_, rfl⟩
  have hZ0 : Hid (Z.size = 446) := by show _ = _; rw [← hZ.out]; rfl
  obtain ⟨hzz, hst⟩ := zero_array (P := Try.prog) (t := 48) (n := 446) Z (by rw [← hZ.out]; exact zop_zero) hZ0.out (by rw [← hZ.out]; exact zop_one)
  obtain ⟨PK, hPK⟩ : ∃ PK, Hid (d.parts v1 v2 v3 v4 = PK) := ⟨_, rfl⟩
  rw [hPK.out] at OO LL
  have HB0 := Lib.hid (((Below.refl w.heap.size w).alloc (Nat.le_refl _) (.cells X 48)).alloc (by simp) (.cells Z 48))
  have G1 : Hid (Blk ((w.alloc (.cells X 48)).alloc (.cells Z 48)) w.heap.size (flatP PK)) := ((Blk.new rfl).alloc _).to (by rw [eX, hPK.out])
  have GR : Hid (Blk ((w.alloc (.cells X 48)).alloc (.cells Z 48)) (w.heap.size + 1) Z) := Blk.new (by simp)
  have HIn := Lib.hid (fun u (hu : Below w.heap.size w u) => And.intro (i1.below hu) (And.intro (i2.below hu) (And.intro (i3.below hu) (i4.below hu))))
  obtain ⟨ok1, ok2, ok3, ok4, ok5, ok6, ok7, ok8, ok9⟩ := ok
  have hk0 : PK[0]? = some [.int .i64 d.k] := by rw [← hPK.out]; rfl
  have hW : woD d = d := by unfold woD; rw [if_neg h2, if_neg h3, if_neg h4, if_neg h5, if_neg h6, if_neg h8]
  have hin : Hid (∀ u, Below w.heap.size w u → OpIn (fun _ => True) u (flatP PK) (woD d)) := fun u hu => by
    obtain ⟨j1, j2, j3, j4⟩ := HIn.out u hu
    rw [hW]
    exact ⟨v1, v2, v3, v4, by rw [← hPK.out], ⟨ok1, ok2, ok3, ok4, ok5, ok6, ok7, ok8, ok9⟩, ⟨j1, trivial⟩, ⟨j2, trivial⟩, ⟨j3, trivial⟩, ⟨j4, trivial⟩⟩
  obtain ⟨F, hF⟩ : ∃ F, Hid (flatP PK = F) := ⟨_, rfl⟩
  rw [hF.out] at hin
  have HF1 := Lib.hid (hin.out w (Below.refl _ w)).one
  have hF0 := (hin.out w (Below.refl _ w)).size
  have HIF : Hid ((Try.prog.info? 48).map (·.size) = some F.size) := by show _ = _; rw [hF0]; exact info_op
  have HZF : Hid (Z.size = F.size) := by show _ = _; rw [hZ0.out, hF0]
  have KF : Hid (Blk ((w.alloc (.cells X 48)).alloc (.cells Z 48)) w.heap.size F) := G1.out.to hF.out
  have KR := GR
  have HBF := HB0
  obtain ⟨K, hK⟩ : ∃ K, d.k = K := ⟨_, rfl⟩
  rw [hK] at hk0 h2 h3 h4 h5 h6 h8
  have e2 : (K == 2) = false := by simpa using h2
  have e3 : (K == 3) = false := by simpa using h3
  have e4 : (K == 4) = false := by simpa using h4
  have e5 : (K == 5) = false := by simpa using h5
  have e6 : (K == 6) = false := by simpa using h6
  have e8 : (K == 8) = false := by simpa using h8
  clear hX0 hX1 eX i1 i2 i3 i4 hW hF0 ok1 ok2 ok3 ok4 ok5 ok6 ok7 ok8 ok9 h2 h3 h4 h5 h6 h8 hK
  go_enter Try.func25, Try.ntmps25
  go_wp2_with (first
    | ((with_reducible refine at_load (.tmp 3) ?_); refine wpList_load_1 3 (.tmp 3) rfl w.heap.size 0 (.int .i64 K) (G1.out.cellAt (k := 0) hk0 rfl) rfl _ Try.underlying3 rfl rfl ?_)
    | ((with_reducible refine at_load (.tmp 1) ?_); refine wpList_load_g 48 (.tmp 1) rfl w.heap.size rfl F _ KF.out Try.underlying48 rfl HIF.out rfl ?_)
    | ((with_reducible refine at_store (.tmp 2) ?_); refine wpList_store_blk rfl 48 (.tmp 2) _ rfl (w.heap.size + 1) F rfl rfl Z KR.out HZF.out HIF.out HF1.out ?_; intro w9 U9 B9))
  refine bodyPost_ret (res_cellR rfl rfl B9 Try.underlying48 rfl HIF.out) rfl ⟨F, rfl, hin.out _ (U9.below HBF.out (Nat.le_succ _)), U9.below HBF.out (Nat.le_succ _)⟩

theorem wof_any (P : Value → Prop) (X : Array Value) (d : OpD) (w : World) (hX : OpIn P w X d) : Calls Try.prog 25 #[.agg X] w (WoR w d) := by
  by_cases h2 : d.k = 2
  · exact wof_2 P X d w hX h2
  by_cases h3 : d.k = 3
  · exact wof_3 P X d w hX h3
  by_cases h4 : d.k = 4
  · exact wof_4 P X d w hX h4
  by_cases h5 : d.k = 5
  · exact wof_5 P X d w hX h5
  by_cases h6 : d.k = 6
  · exact wof_6 P X d w hX h6
  by_cases h8 : d.k = 8
  · exact wof_8 P X d w hX h8
  exact wof_0 P X d w hX h2 h3 h4 h5 h6 h8
end

/-! ScY -/
section
set_option linter.unusedVariables false
set_option linter.unusedSimpArgs false
open Go.RowKit

/-- The lists are no longer than a machine holds. -/
def SmallD (d : OpD) : Prop := d.a.l.length ≤ 10000000 ∧ d.c1.l.length ≤ 10000000 ∧ d.c2.l.length ≤ 10000000 ∧ d.tl.length ≤ 10000000

/-! ### encodeSectors -/
def inS (x : Int) : Prop := 0 ≤ x ∧ x ≤ 32768
instance (x : Int) : Decidable (inS x) := inferInstanceAs (Decidable (_ ∧ _))
def secB (l : List Int) (k : Nat) : List Int := (l.take k).flatMap fun x => uenc x.toNat
theorem secB_next {l : List Int} {k : Nat} (h : k < l.length) : secB l (k + 1) = secB l k ++ uenc (l.getD k 0).toNat := by
  unfold secB
  rw [List.take_add_one, List.flatMap_append]
  simp [List.getD, List.getElem?_eq_getElem h]
theorem secB_len' {l : List Int} : ∀ k, k ≤ l.length → (∀ j, j < k → inS (l.getD j 0)) → (secB l k).length ≤ 10 * k
  | 0, _, _ => by simp [secB]
  | k + 1, hk, h => by
    have h1 := secB_len' k (by omega) fun j hj => h j (by omega)
    have h2 := uenc_len10 (n := (l.getD k 0).toNat) (by have := h k (by omega); unfold inS at this; omega)
    rw [secB_next (by omega), List.length_append]; omega

def SecR (w : World) (l : List Int) : Ending → World → Prop := EncR w (if ∀ j, j < l.length → inS (l.getD j 0) then 0 else 3) (secB l l.length)

set_option maxRecDepth 100000 in
set_option maxHeartbeats 8000000 in
theorem esec_any (v : Value) (l : List Int) (w : World) (hI : IntsV w v l) (hl : l.length ≤ 1000) :
    Calls Try.prog 42 #[v] w (SecR w l) := by
  obtain ⟨va, vn, vc, rfl⟩ := ints_shape' hI.1
  have hn : l.length = vn := by obtain ⟨_, _, _, e, h, _⟩ := hI.1; cases e; exact h
  have HI := Lib.hid (fun u (hu : Below w.heap.size w u) => (hI.below hu).1)
  have HN := Lib.hid hn
  have hvn : vn ≤ 1000 := by omega
  have hrng : ∀ k, k < vn → -9223372036854775808 ≤ l.getD k 0 ∧ l.getD k 0 ≤ 9223372036854775807 := fun k hk => by
    have e : l.getD k 0 = l[k]'(by omega) := by simp [List.getD, List.getElem?_eq_getElem (show k < l.length by omega)]
    rw [e]; exact hI.2 _ (List.getElem_mem _)
  have HR := Lib.hid hrng
  clear hI hn hl hrng
  go_enter Try.func42, Try.ntmps42
  go_wp2_with fail
  go_loopw [4, 10] (fun b i wr => ∃ k : Nat, k ≤ vn ∧ i = .int .i64 k ∧ Byt wr b (secB l k) ∧ (∀ j, j < k → inS (l.getD j 0)) ∧ Below w.heap.size w wr) (fun _ i _ => vn - (intOf i).toNat)
  case atStart => exact ⟨0, Nat.zero_le _, rfl, ⟨⟨_, _, _, rfl, rfl, Nat.zero_le _, .inl rfl⟩, by simp [secB], fun a l c e => by cases e; exact ⟨Nat.le_refl _, Nat.zero_le _⟩⟩, fun j hj => by omega, (Below.refl _ w).alloc (Nat.le_refl _) _⟩
  case round =>
    obtain ⟨k, hk, rfl, hby, hin, hb⟩ := hrel
    obtain ⟨ba, bl, bc, rfl⟩ := hby.shape
    have HB := Lib.hid hb
    have HBY := Lib.hid hby
    have HIN := Lib.hid hin
    by_cases hlt : k < vn
    · obtain ⟨xb, xo, e, hcell⟩ := ints_at (HI.out wr hb) (i := k) (by rw [HN.out]; exact hlt)
      subst e
      have hx := HR.out k hlt
      obtain ⟨x, HX⟩ : ∃ x, Hid (l.getD k 0 = x) := ⟨_, rfl⟩
      rw [HX.out] at hcell hx
      clear hb hby hin
      by_cases hbad : inS x
      case neg =>
        have HE : Hid (∀ u, Below w.heap.size w u → SecR w l (.returned (.tuple #[.slice none 0 0, .int .i64 3])) u) := fun u hu => by
          unfold SecR; rw [if_neg fun h => hbad (by have := h k (by rw [HN.out]; exact hlt); rwa [HX.out] at this)]
          exact ⟨_, rfl, byt_nil _, hu⟩
        unfold inS at hbad
        by_cases hneg : x < 0
        · go_wp2_with fail
          (try simp only [Exit.inBlock, Exit.then])
          go_ret2
          exact HE.out _ HB.out
        · have hgt : 32768 < x := by omega
          go_wp2_with fail
          (try simp only [Exit.inBlock, Exit.then])
          go_ret2
          exact HE.out _ HB.out
      case pos =>
        have HS := Lib.hid hbad
        unfold inS at hbad
        have D := Lib.hid (auint_any (.slice ba bl bc) (secB l k) x wr HBY.out (by omega) (by omega) (by have := secB_len' k (by rw [HN.out]; exact hk) HIN.out; omega))
        have hs3 : ¬ 32768 < x := by omega
        go_wp2_with (go_at_call 26; refine D.out.mono ?_; rintro en w1 ⟨v1, rfl, hy1, hb1⟩; have HY1 := Lib.hid hy1; have HB1 := Lib.hid (HB.out.trans (hb1.mono HB.out.size)); clear hy1 hb1)
        go_roundw
        case rel =>
          refine ⟨k + 1, hlt, by go_num, ?_, fun j hj => ?_, HB1.out⟩
          · rw [secB_next (by rw [HN.out]; exact hlt), HX.out]; exact HY1.out
          · by_cases hjk : j = k
            · rw [hjk, HX.out]; exact HS.out
            · exact HIN.out j (by omega)
        case measure => simp [intOf]; omega
    · obtain rfl : k = vn := by omega
      have HE : Hid (SecR w l (.returned (.tuple #[.slice ba bl bc, .int .i64 0])) wr) := by
        unfold SecR; rw [if_pos fun j hj => hin j (by rw [HN.out] at hj; exact hj)]
        refine ⟨_, rfl, ?_, hb⟩
        rw [if_pos rfl, HN.out]; exact hby
      clear hb hby hin
      go_wp2_with fail
      (try simp only [Exit.inBlock, Exit.then])
      go_ret2
      exact HE.out

/-! ### encodeField -/
theorem vls_two {l m : List Int} (h : vlsE [l, m] = 0) : vlE l 1024 = 0 ∧ vlE m 1024 = 0 := by
  unfold vlsE vlsE vlsE at h
  split at h
  · rename_i h1; exact absurd h h1
  · rename_i h1
    split at h
    · rename_i h2; exact absurd h h2
    · rename_i h2; exact ⟨by simpa using h1, by simpa using h2⟩
theorem fldB_len {d : OpD} (h : d.ok) (ht : ∀ x ∈ d.tl, 0 ≤ x ∧ x ≤ 18446744073709551615) (hs : SmallD d) (he : fldE d = 0) : (fldB d).length ≤ 1000000000 := by
  obtain ⟨_, ok2, ok3, ok4, ok5, ok6, ok7, ok8, ok9⟩ := h
  obtain ⟨s1, s2, s3, s4⟩ := hs
  unfold fldB
  unfold fldE at he
  have u10 : ∀ x : Int, 0 ≤ x ∧ x ≤ 18446744073709551615 → (uenc x.toNat).length ≤ 10 := fun x hx => uenc_len10 (by omega)
  by_cases h2 : d.k = 2
  · rw [if_pos h2]; have := (byt_encs ok2).2; omega
  rw [if_neg h2]
  by_cases h3 : d.k = 3
  · rw [if_pos h3] at he ⊢
    have a1 := u10 _ ok3.1
    have a2 := CpD.encl ok3.2.2
    have a3 := lenc_len he (Nat.le_refl _) (by omega)
    have a4 : d.a.root.length = 32 := ok3.2.1.1
    simp only [AtP.d] at a1 a2
    unfold lenc
    simp only [List.length_append]
    omega
  rw [if_neg h3] at he ⊢
  have cl : ∀ c : ClP, (c.d (.slice none 0 0)).ok → vlE c.l 1024 = 0 → c.l.length ≤ 10000000 → ((c.d (.slice none 0 0)).enc c.l).length ≤ 200000000 := fun c hc hv hl => by
    have a1 := u10 _ hc.1
    have a2 := u10 _ hc.2.1
    have a3 := lenc_len hv (Nat.le_refl _) (by omega)
    have a4 : c.root.length = 32 := hc.2.2.1
    simp only [ClP.d] at a1 a2
    simp only [ClD.enc, ClP.d, lenc, List.length_append]
    omega
  by_cases h4 : d.k = 4
  · rw [if_pos h4] at he ⊢
    obtain ⟨e1, e2⟩ := vls_two he
    have a1 := cl _ ok4 e1 s2
    have a2 := cl _ ok5 e2 s3
    rw [List.length_append]; omega
  rw [if_neg h4] at he ⊢
  by_cases h5 : d.k = 5
  · rw [if_pos h5]
    have a1 := CpD.encl ok6
    have a2 := tenc_len ht (Nat.le_refl _) (by omega)
    unfold tenc
    rw [List.length_append]; omega
  rw [if_neg h5] at he ⊢
  by_cases h6 : d.k = 6
  · rw [if_pos h6] at he ⊢
    have hk : ¬ (d.v.kind < 1 ∨ 4 < d.v.kind) := fun h => by rw [if_pos h] at he; cases he
    have a1 := u10 _ ok7.1
    have a2 := u10 d.v.kind (by omega)
    have a3 : d.v.latest.length = 32 := ok7.2.2.1
    simp only [VdD.enc, List.length_append]
    omega
  rw [if_neg h6] at he ⊢
  by_cases h8 : d.k = 8
  · rw [if_pos h8] at he ⊢
    have hk : ¬ (d.w < 0 ∨ 32768 < d.w ∨ d.p < 0 ∨ 32768 < d.p) := fun h => by rw [if_pos h] at he; cases he
    have a1 := u10 d.w (by omega)
    have a2 := u10 d.p (by omega)
    rw [List.length_append]; omega
  rw [if_neg h8]
  simp

set_option maxRecDepth 100000 in
set_option maxHeartbeats 8000000 in
theorem ef_2 (P : Value → Prop) (X : Array Value) (d : OpD) (w : World) (hX : OpIn P w X d) (hsm : SmallD d) (hk : d.k = 2) : Calls Try.prog 23 #[.agg X] w (EncR w (fldE d) (fldB d)) := by
  obtain ⟨v1, v2, v3, v4, eX, ok, ⟨i1, _⟩, ⟨i2, _⟩, ⟨i3, _⟩, ⟨i4, _⟩⟩ := hX
  have OO := Lib.hid (op_offs ok v1 v2 v3 v4)
  obtain ⟨PK, hPK⟩ : ∃ PK, Hid (d.parts v1 v2 v3 v4 = PK) := ⟨_, rfl⟩
  rw [hPK.out] at OO
  have HB0 := Lib.hid ((Below.refl w.heap.size w).alloc (Nat.le_refl _) (.cells X 48))
  have G1 : Hid (Blk (w.alloc (.cells X 48)) w.heap.size (flatP PK)) := (Blk.new rfl).to (by rw [eX, hPK.out])
  obtain ⟨ok1, ok2, ok3, ok4, ok5, ok6, ok7, ok8, ok9⟩ := ok
  obtain ⟨sm1, sm2, sm3, sm4⟩ := hsm
  have hk0 : PK[0]? = some [.int .i64 d.k] := by rw [← hPK.out]; rfl
  have hE : fldE d = 0 := by unfold fldE; simp [hk]
  have hBy : fldB d = d.b.enc := by unfold fldB; simp [hk]
  have D : Hid (∀ u, Below w.heap.size w u → Calls Try.prog 37 #[.agg (d.b.parts.flatten).toArray] u (App u (fldB d))) := fun u hu => by
    rw [hBy]; exact eblk_any d.b u ok2
  have hl : (d.b.parts.flatten).length = 238 := BkD.len238 ok2
  have hpk : Hid (PK[1]? = some (d.b.parts.flatten)) := by show _ = _; rw [← hPK.out]; rfl
  rw [hk] at hk0
  rw [hE]
  clear hE hBy hk eX i1 i2 i3 i4 ok1 ok2 ok3 ok4 ok5 ok6 ok7 ok8 ok9 sm1 sm2 sm3 sm4
  generalize d.b.parts.flatten = L at *
  have HIL : Hid ((Try.prog.info? 32).map (·.size) = some L.length) := by show _ = _; rw [hl]; kernel_rfl
  obtain ⟨ys, hy⟩ : ∃ ys, fldB d = ys := ⟨_, rfl⟩
  rw [hy] at D
  rw [hy]
  clear hl hy
  go_enter Try.func23, Try.ntmps23
  go_wp2_with (first
    | ((with_reducible refine at_load (.tmp 4) ?_); refine wpList_load_1 3 (.tmp 4) rfl w.heap.size 0 (.int .i64 2) (G1.out.cellAt (k := 0) hk0 rfl) rfl _ Try.underlying3 rfl rfl ?_)
    | ((with_reducible refine at_load (.tmp 11) ?_); refine wpList_load_part 32 (.tmp 11) rfl w.heap.size _ 1 1 L G1.out hpk.out (by rw [OO.out]; rfl) rfl _ Try.underlying32 rfl HIL.out rfl ?_)
    | (go_at_call 37; refine (D.out _ HB0.out).mono ?_; rintro en w1 ⟨v', rfl, hy1, hb1⟩; have HY1 := Lib.hid hy1; have HB1 := Lib.hid (HB0.out.trans (hb1.mono HB0.out.size)); clear hy1 hb1))
  go_ret2
  exact ⟨v', rfl, by rw [if_pos rfl]; exact HY1.out, HB1.out⟩

set_option maxRecDepth 100000 in
set_option maxHeartbeats 8000000 in
theorem ef_3 (P : Value → Prop) (X : Array Value) (d : OpD) (w : World) (hX : OpIn P w X d) (hsm : SmallD d) (hk : d.k = 3) : Calls Try.prog 23 #[.agg X] w (EncR w (fldE d) (fldB d)) := by
  obtain ⟨v1, v2, v3, v4, eX, ok, ⟨i1, _⟩, ⟨i2, _⟩, ⟨i3, _⟩, ⟨i4, _⟩⟩ := hX
  have OO := Lib.hid (op_offs ok v1 v2 v3 v4)
  obtain ⟨PK, hPK⟩ : ∃ PK, Hid (d.parts v1 v2 v3 v4 = PK) := ⟨_, rfl⟩
  rw [hPK.out] at OO
  have HB0 := Lib.hid ((Below.refl w.heap.size w).alloc (Nat.le_refl _) (.cells X 48))
  have G1 : Hid (Blk (w.alloc (.cells X 48)) w.heap.size (flatP PK)) := (Blk.new rfl).to (by rw [eX, hPK.out])
  obtain ⟨ok1, ok2, ok3, ok4, ok5, ok6, ok7, ok8, ok9⟩ := ok
  obtain ⟨sm1, sm2, sm3, sm4⟩ := hsm
  have hk0 : PK[0]? = some [.int .i64 d.k] := by rw [← hPK.out]; rfl
  have hE : fldE d = vlE d.a.l 1024 := by unfold fldE; simp [hk]
  have hBy : fldB d = uenc d.a.slot.toNat ++ (d.a.root ++ (d.a.cp.enc ++ lenc d.a.l)) := by unfold fldB; simp [hk]
  have D : Hid (∀ u, Below w.heap.size w u → Calls Try.prog 38 #[.agg ((d.a.d v1).parts.flatten).toArray] u (EncR u (fldE d) (fldB d))) := fun u hu => by
    rw [hBy, hE]; exact eatt_any _ _ _ _ _ u ok3.1 ok3.2.1 ok3.2.2 (i1.below hu) (by omega)
  have hl : ((d.a.d v1).parts.flatten).length = 67 := AtP.len ok3
  have hpk : Hid (PK[2]? = some ((d.a.d v1).parts.flatten)) := by show _ = _; rw [← hPK.out]; rfl
  rw [hk] at hk0
  clear hE hBy hk eX i1 i2 i3 i4 ok1 ok2 ok3 ok4 ok5 ok6 ok7 ok8 ok9 sm1 sm2 sm3 sm4
  generalize (d.a.d v1).parts.flatten = L at *
  have HIL : Hid ((Try.prog.info? 35).map (·.size) = some L.length) := by show _ = _; rw [hl]; kernel_rfl
  obtain ⟨E, hE⟩ : ∃ E, fldE d = E := ⟨_, rfl⟩
  obtain ⟨ys, hy⟩ : ∃ ys, fldB d = ys := ⟨_, rfl⟩
  rw [hE, hy] at D
  rw [hE, hy]
  clear hl hE hy
  go_enter Try.func23, Try.ntmps23
  go_wp2_with (first
    | ((with_reducible refine at_load (.tmp 4) ?_); refine wpList_load_1 3 (.tmp 4) rfl w.heap.size 0 (.int .i64 3) (G1.out.cellAt (k := 0) hk0 rfl) rfl _ Try.underlying3 rfl rfl ?_)
    | ((with_reducible refine at_load (.tmp 16) ?_); refine wpList_load_part 35 (.tmp 16) rfl w.heap.size _ 2 239 L G1.out hpk.out (by rw [OO.out]; rfl) rfl _ Try.underlying35 rfl HIL.out rfl ?_)
    | (go_at_call 38; refine (D.out _ HB0.out).mono ?_; rintro en w1 ⟨v', rfl, hy1, hb1⟩; have HY1 := Lib.hid hy1; have HB1 := Lib.hid (HB0.out.trans (hb1.mono HB0.out.size)); clear hy1 hb1))
  go_ret2
  exact ⟨v', rfl, HY1.out, HB1.out⟩

set_option maxRecDepth 100000 in
set_option maxHeartbeats 8000000 in
theorem ef_4 (P : Value → Prop) (X : Array Value) (d : OpD) (w : World) (hX : OpIn P w X d) (hsm : SmallD d) (hk : d.k = 4) : Calls Try.prog 23 #[.agg X] w (EncR w (fldE d) (fldB d)) := by
  obtain ⟨v1, v2, v3, v4, eX, ok, ⟨i1, _⟩, ⟨i2, _⟩, ⟨i3, _⟩, ⟨i4, _⟩⟩ := hX
  have OO := Lib.hid (op_offs ok v1 v2 v3 v4)
  obtain ⟨PK, hPK⟩ : ∃ PK, Hid (d.parts v1 v2 v3 v4 = PK) := ⟨_, rfl⟩
  rw [hPK.out] at OO
  have HB0 := Lib.hid ((Below.refl w.heap.size w).alloc (Nat.le_refl _) (.cells X 48))
  have G1 : Hid (Blk (w.alloc (.cells X 48)) w.heap.size (flatP PK)) := (Blk.new rfl).to (by rw [eX, hPK.out])
  obtain ⟨ok1, ok2, ok3, ok4, ok5, ok6, ok7, ok8, ok9⟩ := ok
  obtain ⟨sm1, sm2, sm3, sm4⟩ := hsm
  have hk0 : PK[0]? = some [.int .i64 d.k] := by rw [← hPK.out]; rfl
  have hE : fldE d = vlsE [d.c1.l, d.c2.l] := by unfold fldE; simp [hk]
  have hBy : fldB d = (d.c1.d v2).enc d.c1.l ++ (d.c2.d v3).enc d.c2.l := by unfold fldB; simp [hk]; rfl
  have D : Hid (∀ u, Below w.heap.size w u → Calls Try.prog 39 #[.agg ([(d.c1.d v2).cells, (d.c2.d v3).cells].flatten).toArray] u (EncR u (fldE d) (fldB d))) := fun u hu => by
    rw [hBy, hE]; exact esla_any (d.c1.d v2) (d.c2.d v3) d.c1.l d.c2.l u ⟨ok4, i2.below hu, by omega⟩ ⟨ok5, i3.below hu, by omega⟩
  have hl : ([(d.c1.d v2).cells, (d.c2.d v3).cells].flatten).length = 70 := by simp [ClP.len ok4, ClP.len ok5]
  have hpk : Hid (PK[3]? = some ([(d.c1.d v2).cells, (d.c2.d v3).cells].flatten)) := by show _ = _; rw [← hPK.out]; rfl
  rw [hk] at hk0
  clear hE hBy hk eX i1 i2 i3 i4 ok1 ok2 ok3 ok4 ok5 ok6 ok7 ok8 ok9 sm1 sm2 sm3 sm4
  generalize [(d.c1.d v2).cells, (d.c2.d v3).cells].flatten = L at *
  have HIL : Hid ((Try.prog.info? 39).map (·.size) = some L.length) := by show _ = _; rw [hl]; kernel_rfl
  obtain ⟨E, hE⟩ : ∃ E, fldE d = E := ⟨_, rfl⟩
  obtain ⟨ys, hy⟩ : ∃ ys, fldB d = ys := ⟨_, rfl⟩
  rw [hE, hy] at D
  rw [hE, hy]
  clear hl hE hy
  go_enter Try.func23, Try.ntmps23
  go_wp2_with (first
    | ((with_reducible refine at_load (.tmp 4) ?_); refine wpList_load_1 3 (.tmp 4) rfl w.heap.size 0 (.int .i64 4) (G1.out.cellAt (k := 0) hk0 rfl) rfl _ Try.underlying3 rfl rfl ?_)
    | ((with_reducible refine at_load (.tmp 23) ?_); refine wpList_load_part 39 (.tmp 23) rfl w.heap.size _ 3 306 L G1.out hpk.out (by rw [OO.out]; rfl) rfl _ Try.underlying39 rfl HIL.out rfl ?_)
    | (go_at_call 39; refine (D.out _ HB0.out).mono ?_; rintro en w1 ⟨v', rfl, hy1, hb1⟩; have HY1 := Lib.hid hy1; have HB1 := Lib.hid (HB0.out.trans (hb1.mono HB0.out.size)); clear hy1 hb1))
  go_ret2
  exact ⟨v', rfl, HY1.out, HB1.out⟩

set_option maxRecDepth 100000 in
set_option maxHeartbeats 8000000 in
theorem ef_5 (P : Value → Prop) (X : Array Value) (d : OpD) (w : World) (hX : OpIn P w X d) (hsm : SmallD d) (hk : d.k = 5) : Calls Try.prog 23 #[.agg X] w (EncR w (fldE d) (fldB d)) := by
  obtain ⟨v1, v2, v3, v4, eX, ok, ⟨i1, _⟩, ⟨i2, _⟩, ⟨i3, _⟩, ⟨i4, _⟩⟩ := hX
  have OO := Lib.hid (op_offs ok v1 v2 v3 v4)
  obtain ⟨PK, hPK⟩ : ∃ PK, Hid (d.parts v1 v2 v3 v4 = PK) := ⟨_, rfl⟩
  rw [hPK.out] at OO
  have HB0 := Lib.hid ((Below.refl w.heap.size w).alloc (Nat.le_refl _) (.cells X 48))
  have G1 : Hid (Blk (w.alloc (.cells X 48)) w.heap.size (flatP PK)) := (Blk.new rfl).to (by rw [eX, hPK.out])
  obtain ⟨ok1, ok2, ok3, ok4, ok5, ok6, ok7, ok8, ok9⟩ := ok
  obtain ⟨sm1, sm2, sm3, sm4⟩ := hsm
  have hk0 : PK[0]? = some [.int .i64 d.k] := by rw [← hPK.out]; rfl
  have hE : fldE d = (if 1024 < d.tl.length then 3 else 0) := by unfold fldE; simp [hk]
  have hBy : fldB d = d.tc.enc ++ tenc d.tl := by unfold fldB; simp [hk]
  have D : Hid (∀ u, Below w.heap.size w u → Calls Try.prog 40 #[.agg ([d.tc.cells, [v4]].flatten).toArray] u (EncR u (fldE d) (fldB d))) := fun u hu => by
    rw [hBy, hE]; exact etab_any _ _ _ u ok6 (i4.below hu) (by omega)
  have hl : ([d.tc.cells, [v4]].flatten).length = 34 := by simp [CpD.len ok6]
  have hpk : Hid (PK[4]? = some ([d.tc.cells, [v4]].flatten)) := by show _ = _; rw [← hPK.out]; rfl
  rw [hk] at hk0
  clear hE hBy hk eX i1 i2 i3 i4 ok1 ok2 ok3 ok4 ok5 ok6 ok7 ok8 ok9 sm1 sm2 sm3 sm4
  generalize [d.tc.cells, [v4]].flatten = L at *
  have HIL : Hid ((Try.prog.info? 42).map (·.size) = some L.length) := by show _ = _; rw [hl]; kernel_rfl
  obtain ⟨E, hE⟩ : ∃ E, fldE d = E := ⟨_, rfl⟩
  obtain ⟨ys, hy⟩ : ∃ ys, fldB d = ys := ⟨_, rfl⟩
  rw [hE, hy] at D
  rw [hE, hy]
  clear hl hE hy
  go_enter Try.func23, Try.ntmps23
  go_wp2_with (first
    | ((with_reducible refine at_load (.tmp 4) ?_); refine wpList_load_1 3 (.tmp 4) rfl w.heap.size 0 (.int .i64 5) (G1.out.cellAt (k := 0) hk0 rfl) rfl _ Try.underlying3 rfl rfl ?_)
    | ((with_reducible refine at_load (.tmp 30) ?_); refine wpList_load_part 42 (.tmp 30) rfl w.heap.size _ 4 376 L G1.out hpk.out (by rw [OO.out]; rfl) rfl _ Try.underlying42 rfl HIL.out rfl ?_)
    | (go_at_call 40; refine (D.out _ HB0.out).mono ?_; rintro en w1 ⟨v', rfl, hy1, hb1⟩; have HY1 := Lib.hid hy1; have HB1 := Lib.hid (HB0.out.trans (hb1.mono HB0.out.size)); clear hy1 hb1))
  go_ret2
  exact ⟨v', rfl, HY1.out, HB1.out⟩

set_option maxRecDepth 100000 in
set_option maxHeartbeats 8000000 in
theorem ef_6 (P : Value → Prop) (X : Array Value) (d : OpD) (w : World) (hX : OpIn P w X d) (hsm : SmallD d) (hk : d.k = 6) : Calls Try.prog 23 #[.agg X] w (EncR w (fldE d) (fldB d)) := by
  obtain ⟨v1, v2, v3, v4, eX, ok, ⟨i1, _⟩, ⟨i2, _⟩, ⟨i3, _⟩, ⟨i4, _⟩⟩ := hX
  have OO := Lib.hid (op_offs ok v1 v2 v3 v4)
  obtain ⟨PK, hPK⟩ : ∃ PK, Hid (d.parts v1 v2 v3 v4 = PK) := ⟨_, rfl⟩
  rw [hPK.out] at OO
  have HB0 := Lib.hid ((Below.refl w.heap.size w).alloc (Nat.le_refl _) (.cells X 48))
  have G1 : Hid (Blk (w.alloc (.cells X 48)) w.heap.size (flatP PK)) := (Blk.new rfl).to (by rw [eX, hPK.out])
  obtain ⟨ok1, ok2, ok3, ok4, ok5, ok6, ok7, ok8, ok9⟩ := ok
  obtain ⟨sm1, sm2, sm3, sm4⟩ := hsm
  have hk0 : PK[0]? = some [.int .i64 d.k] := by rw [← hPK.out]; rfl
  have hE : fldE d = (if d.v.kind < 1 ∨ 4 < d.v.kind then 3 else 0) := by unfold fldE; simp [hk]
  have hBy : fldB d = d.v.enc := by unfold fldB; simp [hk]
  have D : Hid (∀ u, Below w.heap.size w u → Calls Try.prog 41 #[.agg (d.v.parts.flatten).toArray] u (EncR u (fldE d) (fldB d))) := fun u hu => by
    rw [hBy, hE]; exact evd_any _ u ok7
  have hl : (d.v.parts.flatten).length = 34 := VdD.len ok7
  have hpk : Hid (PK[5]? = some (d.v.parts.flatten)) := by show _ = _; rw [← hPK.out]; rfl
  rw [hk] at hk0
  clear hE hBy hk eX i1 i2 i3 i4 ok1 ok2 ok3 ok4 ok5 ok6 ok7 ok8 ok9 sm1 sm2 sm3 sm4
  generalize d.v.parts.flatten = L at *
  have HIL : Hid ((Try.prog.info? 46).map (·.size) = some L.length) := by show _ = _; rw [hl]; kernel_rfl
  obtain ⟨E, hE⟩ : ∃ E, fldE d = E := ⟨_, rfl⟩
  obtain ⟨ys, hy⟩ : ∃ ys, fldB d = ys := ⟨_, rfl⟩
  rw [hE, hy] at D
  rw [hE, hy]
  clear hl hE hy
  go_enter Try.func23, Try.ntmps23
  go_wp2_with (first
    | ((with_reducible refine at_load (.tmp 4) ?_); refine wpList_load_1 3 (.tmp 4) rfl w.heap.size 0 (.int .i64 6) (G1.out.cellAt (k := 0) hk0 rfl) rfl _ Try.underlying3 rfl rfl ?_)
    | ((with_reducible refine at_load (.tmp 37) ?_); refine wpList_load_part 46 (.tmp 37) rfl w.heap.size _ 5 410 L G1.out hpk.out (by rw [OO.out]; rfl) rfl _ Try.underlying46 rfl HIL.out rfl ?_)
    | (go_at_call 41; refine (D.out _ HB0.out).mono ?_; rintro en w1 ⟨v', rfl, hy1, hb1⟩; have HY1 := Lib.hid hy1; have HB1 := Lib.hid (HB0.out.trans (hb1.mono HB0.out.size)); clear hy1 hb1))
  go_ret2
  exact ⟨v', rfl, HY1.out, HB1.out⟩

set_option maxRecDepth 100000 in
set_option maxHeartbeats 8000000 in
theorem ef_8 (P : Value → Prop) (X : Array Value) (d : OpD) (w : World) (hX : OpIn P w X d) (hsm : SmallD d) (hk : d.k = 8) : Calls Try.prog 23 #[.agg X] w (EncR w (fldE d) (fldB d)) := by
  obtain ⟨v1, v2, v3, v4, eX, ok, ⟨i1, _⟩, ⟨i2, _⟩, ⟨i3, _⟩, ⟨i4, _⟩⟩ := hX
  have OO := Lib.hid (op_offs ok v1 v2 v3 v4)
  obtain ⟨PK, hPK⟩ : ∃ PK, Hid (d.parts v1 v2 v3 v4 = PK) := ⟨_, rfl⟩
  rw [hPK.out] at OO
  have HB0 := Lib.hid ((Below.refl w.heap.size w).alloc (Nat.le_refl _) (.cells X 48))
  have G1 : Hid (Blk (w.alloc (.cells X 48)) w.heap.size (flatP PK)) := (Blk.new rfl).to (by rw [eX, hPK.out])
  obtain ⟨ok1, ok2, ok3, ok4, ok5, ok6, ok7, ok8, ok9⟩ := ok
  obtain ⟨sm1, sm2, sm3, sm4⟩ := hsm
  have hk0 : PK[0]? = some [.int .i64 d.k] := by rw [← hPK.out]; rfl
  have hE : fldE d = if ∀ j, j < [d.w, d.p].length → inS ([d.w, d.p].getD j 0) then 0 else 3 := by
    have e : (∀ j, j < [d.w, d.p].length → inS ([d.w, d.p].getD j 0)) ↔ ¬ (d.w < 0 ∨ 32768 < d.w ∨ d.p < 0 ∨ 32768 < d.p) := by
      constructor
      · intro h
        have h0 := h 0 (by simp)
        have h1 := h 1 (by simp)
        simp only [List.getD_cons_zero, List.getD_cons_succ, inS] at h0 h1
        omega
      · intro h j hj
        match j, hj with
        | 0, _ => show inS d.w; unfold inS; omega
        | 1, _ => show inS d.p; unfold inS; omega
    unfold fldE
    rw [hk]
    by_cases h : d.w < 0 ∨ 32768 < d.w ∨ d.p < 0 ∨ 32768 < d.p
    · rw [if_neg (fun h2 => e.1 h2 h)]; simp [h]
    · rw [if_pos (e.2 h)]; simp [h]
  have hBy : fldB d = secB [d.w, d.p] [d.w, d.p].length := by unfold fldB; simp [hk, secB]
  have hr8 : i64R d.w := ok8
  have hr9 : i64R d.p := ok9
  unfold i64R at hr8 hr9
  have hp6 : Hid (PK[6]? = some [.int .i64 d.w]) := by show _ = _; rw [← hPK.out]; rfl
  have hp7 : Hid (PK[7]? = some [.int .i64 d.p]) := by show _ = _; rw [← hPK.out]; rfl
  rw [hE, hBy]
  have D : Hid (∀ u v, IntsV u v [d.w, d.p] → Calls Try.prog 42 #[v] u (EncR u (if ∀ j, j < [d.w, d.p].length → inS ([d.w, d.p].getD j 0) then 0 else 3) (secB [d.w, d.p] [d.w, d.p].length))) := fun u v h => esec_any v _ u h (by simp)
  obtain ⟨E, hE2⟩ : ∃ E, (if ∀ j, j < [d.w, d.p].length → inS ([d.w, d.p].getD j 0) then (0 : Int) else 3) = E := ⟨_, rfl⟩
  obtain ⟨ys, hy⟩ : ∃ ys, secB [d.w, d.p] [d.w, d.p].length = ys := ⟨_, rfl⟩
  rw [hE2, hy] at D
  rw [hE2, hy]
  rw [hk] at hk0
  obtain ⟨x, hx⟩ : ∃ x, d.w = x := ⟨_, rfl⟩
  obtain ⟨y, hy9⟩ : ∃ y, d.p = y := ⟨_, rfl⟩
  rw [hx] at hp6 D hr8
  rw [hy9] at hp7 D hr9
  have hba := HB0.out.alloc HB0.out.size (.cells #[.int .i64 x, .int .i64 y] 3)
  have HI : Hid (IntsV ((w.alloc (.cells X 48)).alloc (.cells #[.int .i64 x, .int .i64 y] 3)) (.slice (some ⟨w.heap.size + 1, 0, none⟩) 2 2) [x, y]) := by
    have C0 : Blk ((w.alloc (.cells X 48)).alloc (.cells #[.int .i64 x, .int .i64 y] 3)) (w.heap.size + 1) #[.int .i64 x, .int .i64 y] := Blk.new (by simp)
    refine ⟨⟨_, _, _, rfl, rfl, by unfold maxLen; omega, .inr ⟨_, 0, rfl, C0.lt, fun i hi => by
      rw [Nat.zero_add, C0.cell]
      match i, hi with
      | 0, _ => rfl
      | 1, _ => rfl⟩⟩, fun z hz => ?_⟩
    simp only [List.mem_cons, List.not_mem_nil, or_false] at hz
    rcases hz with rfl | rfl
    · exact hr8
    · exact hr9
  have HBA := Lib.hid hba
  clear hE hBy hk eX i1 i2 i3 i4 ok1 ok2 ok3 ok4 ok5 ok6 ok7 ok8 ok9 sm1 sm2 sm3 sm4 hE2 hy hx hy9 hba
  go_enter Try.func23, Try.ntmps23
  go_wp2_with (first
    | ((with_reducible refine at_load (.tmp 4) ?_); refine wpList_load_1 3 (.tmp 4) rfl w.heap.size 0 (.int .i64 8) (G1.out.cellAt (k := 0) hk0 rfl) rfl _ Try.underlying3 rfl rfl ?_)
    | ((with_reducible refine at_load (.tmp 44) ?_); refine wpList_load_1 3 (.tmp 44) rfl w.heap.size 444 (.int .i64 x) (G1.out.cellAt (k := 6) hp6.out (by rw [OO.out]; rfl)) rfl _ Try.underlying3 rfl rfl ?_)
    | ((with_reducible refine at_load (.tmp 46) ?_); refine wpList_load_1 3 (.tmp 46) rfl w.heap.size 445 (.int .i64 y) (G1.out.cellAt (k := 7) hp7.out (by rw [OO.out]; rfl)) rfl _ Try.underlying3 rfl rfl ?_)
    | (go_at_call 42; refine (D.out _ _ HI.out).mono ?_; rintro en w1 ⟨v', rfl, hy1, hb1⟩; have HY1 := Lib.hid hy1; have HB1 := Lib.hid (HBA.out.trans (hb1.mono HBA.out.size)); clear hy1 hb1))
  go_ret2
  exact ⟨v', rfl, HY1.out, HB1.out⟩

set_option maxRecDepth 100000 in
set_option maxHeartbeats 8000000 in
theorem ef_1 (P : Value → Prop) (X : Array Value) (d : OpD) (w : World) (hX : OpIn P w X d) (hsm : SmallD d) (hk : d.k = 1) : Calls Try.prog 23 #[.agg X] w (EncR w (fldE d) (fldB d)) := by
  obtain ⟨v1, v2, v3, v4, eX, ok, ⟨i1, _⟩, ⟨i2, _⟩, ⟨i3, _⟩, ⟨i4, _⟩⟩ := hX
  have OO := Lib.hid (op_offs ok v1 v2 v3 v4)
  obtain ⟨PK, hPK⟩ : ∃ PK, Hid (d.parts v1 v2 v3 v4 = PK) := ⟨_, rfl⟩
  rw [hPK.out] at OO
  have HB0 := Lib.hid ((Below.refl w.heap.size w).alloc (Nat.le_refl _) (.cells X 48))
  have G1 : Hid (Blk (w.alloc (.cells X 48)) w.heap.size (flatP PK)) := (Blk.new rfl).to (by rw [eX, hPK.out])
  obtain ⟨ok1, ok2, ok3, ok4, ok5, ok6, ok7, ok8, ok9⟩ := ok
  obtain ⟨sm1, sm2, sm3, sm4⟩ := hsm
  have hk0 : PK[0]? = some [.int .i64 d.k] := by rw [← hPK.out]; rfl
  have hE : fldE d = 0 := by unfold fldE; simp [hk]
  have hBy : fldB d = [] := by unfold fldB; simp [hk]
  rw [hE, hBy]
  rw [hk] at hk0
  clear hE hBy hk
  clear eX i1 i2 i3 i4 ok1 ok2 ok3 ok4 ok5 ok6 ok7 ok8 ok9 sm1 sm2 sm3 sm4
  go_enter Try.func23, Try.ntmps23
  go_wp2_with (first
    | ((with_reducible refine at_load (.tmp 4) ?_); refine wpList_load_1 3 (.tmp 4) rfl w.heap.size 0 (.int .i64 1) (G1.out.cellAt (k := 0) hk0 rfl) rfl _ Try.underlying3 rfl rfl ?_)
    | fail)
  go_ret2
  exact ⟨_, rfl, byt_nil _, HB0.out⟩

set_option maxRecDepth 100000 in
set_option maxHeartbeats 8000000 in
theorem ef_7 (P : Value → Prop) (X : Array Value) (d : OpD) (w : World) (hX : OpIn P w X d) (hsm : SmallD d) (hk : d.k = 7) : Calls Try.prog 23 #[.agg X] w (EncR w (fldE d) (fldB d)) := by
  obtain ⟨v1, v2, v3, v4, eX, ok, ⟨i1, _⟩, ⟨i2, _⟩, ⟨i3, _⟩, ⟨i4, _⟩⟩ := hX
  have OO := Lib.hid (op_offs ok v1 v2 v3 v4)
  obtain ⟨PK, hPK⟩ : ∃ PK, Hid (d.parts v1 v2 v3 v4 = PK) := ⟨_, rfl⟩
  rw [hPK.out] at OO
  have HB0 := Lib.hid ((Below.refl w.heap.size w).alloc (Nat.le_refl _) (.cells X 48))
  have G1 : Hid (Blk (w.alloc (.cells X 48)) w.heap.size (flatP PK)) := (Blk.new rfl).to (by rw [eX, hPK.out])
  obtain ⟨ok1, ok2, ok3, ok4, ok5, ok6, ok7, ok8, ok9⟩ := ok
  obtain ⟨sm1, sm2, sm3, sm4⟩ := hsm
  have hk0 : PK[0]? = some [.int .i64 d.k] := by rw [← hPK.out]; rfl
  have hE : fldE d = 0 := by unfold fldE; simp [hk]
  have hBy : fldB d = [] := by unfold fldB; simp [hk]
  rw [hE, hBy]
  rw [hk] at hk0
  clear hE hBy hk
  clear eX i1 i2 i3 i4 ok1 ok2 ok3 ok4 ok5 ok6 ok7 ok8 ok9 sm1 sm2 sm3 sm4
  go_enter Try.func23, Try.ntmps23
  go_wp2_with (first
    | ((with_reducible refine at_load (.tmp 4) ?_); refine wpList_load_1 3 (.tmp 4) rfl w.heap.size 0 (.int .i64 7) (G1.out.cellAt (k := 0) hk0 rfl) rfl _ Try.underlying3 rfl rfl ?_)
    | fail)
  go_ret2
  exact ⟨_, rfl, byt_nil _, HB0.out⟩

set_option maxRecDepth 100000 in
set_option maxHeartbeats 8000000 in
theorem ef_0 (P : Value → Prop) (X : Array Value) (d : OpD) (w : World) (hX : OpIn P w X d) (hsm : SmallD d) (hk : d.k < 1 ∨ 8 < d.k) : Calls Try.prog 23 #[.agg X] w (EncR w (fldE d) (fldB d)) := by
  obtain ⟨v1, v2, v3, v4, eX, ok, ⟨i1, _⟩, ⟨i2, _⟩, ⟨i3, _⟩, ⟨i4, _⟩⟩ := hX
  have OO := Lib.hid (op_offs ok v1 v2 v3 v4)
  obtain ⟨PK, hPK⟩ : ∃ PK, Hid (d.parts v1 v2 v3 v4 = PK) := ⟨_, rfl⟩
  rw [hPK.out] at OO
  have HB0 := Lib.hid ((Below.refl w.heap.size w).alloc (Nat.le_refl _) (.cells X 48))
  have G1 : Hid (Blk (w.alloc (.cells X 48)) w.heap.size (flatP PK)) := (Blk.new rfl).to (by rw [eX, hPK.out])
  obtain ⟨ok1, ok2, ok3, ok4, ok5, ok6, ok7, ok8, ok9⟩ := ok
  obtain ⟨sm1, sm2, sm3, sm4⟩ := hsm
  have hk0 : PK[0]? = some [.int .i64 d.k] := by rw [← hPK.out]; rfl
  have hE : fldE d = 2 := by unfold fldE; rw [if_neg (by omega), if_neg (by omega), if_neg (by omega), if_neg (by omega), if_neg (by omega), if_neg (by omega)]
  have hBy : fldB d = [] := by unfold fldB; rw [if_neg (by omega), if_neg (by omega), if_neg (by omega), if_neg (by omega), if_neg (by omega), if_neg (by omega)]
  rw [hE, hBy]
  obtain ⟨K, hK⟩ : ∃ K, d.k = K := ⟨_, rfl⟩
  rw [hK] at hk0 hk
  have e1 : (K == 1) = false := by simp; omega
  have e2 : (K == 2) = false := by simp; omega
  have e3 : (K == 3) = false := by simp; omega
  have e4 : (K == 4) = false := by simp; omega
  have e5 : (K == 5) = false := by simp; omega
  have e6 : (K == 6) = false := by simp; omega
  have e7 : (K == 7) = false := by simp; omega
  have e8 : (K == 8) = false := by simp; omega
  clear hE hBy hk hK
  clear eX i1 i2 i3 i4 ok1 ok2 ok3 ok4 ok5 ok6 ok7 ok8 ok9 sm1 sm2 sm3 sm4
  go_enter Try.func23, Try.ntmps23
  go_wp2_with (first
    | ((with_reducible refine at_load (.tmp 4) ?_); refine wpList_load_1 3 (.tmp 4) rfl w.heap.size 0 (.int .i64 K) (G1.out.cellAt (k := 0) hk0 rfl) rfl _ Try.underlying3 rfl rfl ?_)
    | fail)
  go_ret2
  exact ⟨_, rfl, byt_nil _, HB0.out⟩

theorem ef_any (P : Value → Prop) (X : Array Value) (d : OpD) (w : World) (hX : OpIn P w X d) (hsm : SmallD d) : Calls Try.prog 23 #[.agg X] w (EncR w (fldE d) (fldB d)) := by
  by_cases h : d.k < 1 ∨ 8 < d.k
  · exact ef_0 P X d w hX hsm h
  obtain h | h | h | h | h | h | h | h : d.k = 1 ∨ d.k = 2 ∨ d.k = 3 ∨ d.k = 4 ∨ d.k = 5 ∨ d.k = 6 ∨ d.k = 7 ∨ d.k = 8 := by omega
  · exact ef_1 P X d w hX hsm h
  · exact ef_2 P X d w hX hsm h
  · exact ef_3 P X d w hX hsm h
  · exact ef_4 P X d w hX hsm h
  · exact ef_5 P X d w hX hsm h
  · exact ef_6 P X d w hX hsm h
  · exact ef_7 P X d w hX hsm h
  · exact ef_8 P X d w hX hsm h
end

/-! ScV -/
section
set_option linter.unusedVariables false
set_option linter.unusedSimpArgs false
open Go.RowKit


set_option maxRecDepth 100000 in
set_option maxHeartbeats 8000000 in
theorem rf_2 (P : Value → Prop) (X : Array Value) (d : OpD) (w : World) (hX : OpIn P w X d) (hsm : SmallD d) (hk : d.k = 2) : Calls Try.prog 18 #[.agg X] w (EncR w (fldE d) (fldB d)) := by
  obtain ⟨v1, v2, v3, v4, eX, ok, ⟨i1, _⟩, ⟨i2, _⟩, ⟨i3, _⟩, ⟨i4, _⟩⟩ := hX
  have OO := Lib.hid (op_offs ok v1 v2 v3 v4)
  obtain ⟨PK, hPK⟩ : ∃ PK, Hid (d.parts v1 v2 v3 v4 = PK) := ⟨_, rfl⟩
  rw [hPK.out] at OO
  have HB0 := Lib.hid ((Below.refl w.heap.size w).alloc (Nat.le_refl _) (.cells X 48))
  have G1 : Hid (Blk (w.alloc (.cells X 48)) w.heap.size (flatP PK)) := (Blk.new rfl).to (by rw [eX, hPK.out])
  obtain ⟨ok1, ok2, ok3, ok4, ok5, ok6, ok7, ok8, ok9⟩ := ok
  obtain ⟨sm1, sm2, sm3, sm4⟩ := hsm
  have hk0 : PK[0]? = some [.int .i64 d.k] := by rw [← hPK.out]; rfl
  have hE : fldE d = 0 := by unfold fldE; simp [hk]
  have hBy : fldB d = d.b.enc := by unfold fldB; simp [hk]
  have D : Hid (∀ u, Below w.heap.size w u → Calls Try.prog 27 #[.slice none 0 0, .agg (d.b.parts.flatten).toArray] u (App u (fldB d))) := fun u hu => by
    rw [hBy]; exact rblk_any d.b u ok2
  have hl : (d.b.parts.flatten).length = 238 := BkD.len238 ok2
  have hpk : Hid (PK[1]? = some (d.b.parts.flatten)) := by show _ = _; rw [← hPK.out]; rfl
  rw [hk] at hk0
  rw [hE]
  clear hE hBy hk eX i1 i2 i3 i4 ok1 ok2 ok3 ok4 ok5 ok6 ok7 ok8 ok9 sm1 sm2 sm3 sm4
  generalize d.b.parts.flatten = L at *
  have HIL : Hid ((Try.prog.info? 32).map (·.size) = some L.length) := by show _ = _; rw [hl]; kernel_rfl
  obtain ⟨ys, hy⟩ : ∃ ys, fldB d = ys := ⟨_, rfl⟩
  rw [hy] at D
  rw [hy]
  clear hl hy
  go_enter Try.func18, Try.ntmps18
  go_wp2_with (first
    | ((with_reducible refine at_load (.tmp 4) ?_); refine wpList_load_1 3 (.tmp 4) rfl w.heap.size 0 (.int .i64 2) (G1.out.cellAt (k := 0) hk0 rfl) rfl _ Try.underlying3 rfl rfl ?_)
    | ((with_reducible refine at_load (.tmp 8) ?_); refine wpList_load_part 32 (.tmp 8) rfl w.heap.size _ 1 1 L G1.out hpk.out (by rw [OO.out]; rfl) rfl _ Try.underlying32 rfl HIL.out rfl ?_)
    | (go_at_call 27; refine (D.out _ HB0.out).mono ?_; rintro en w1 ⟨v', rfl, hy1, hb1⟩; have HY1 := Lib.hid hy1; have HB1 := Lib.hid (HB0.out.trans (hb1.mono HB0.out.size)); clear hy1 hb1))
  go_ret2
  exact ⟨v', rfl, by rw [if_pos rfl]; exact HY1.out, HB1.out⟩

set_option maxRecDepth 100000 in
set_option maxHeartbeats 8000000 in
theorem rf_3 (P : Value → Prop) (X : Array Value) (d : OpD) (w : World) (hX : OpIn P w X d) (hsm : SmallD d) (hk : d.k = 3) : Calls Try.prog 18 #[.agg X] w (EncR w (fldE d) (fldB d)) := by
  obtain ⟨v1, v2, v3, v4, eX, ok, ⟨i1, _⟩, ⟨i2, _⟩, ⟨i3, _⟩, ⟨i4, _⟩⟩ := hX
  have OO := Lib.hid (op_offs ok v1 v2 v3 v4)
  obtain ⟨PK, hPK⟩ : ∃ PK, Hid (d.parts v1 v2 v3 v4 = PK) := ⟨_, rfl⟩
  rw [hPK.out] at OO
  have HB0 := Lib.hid ((Below.refl w.heap.size w).alloc (Nat.le_refl _) (.cells X 48))
  have G1 : Hid (Blk (w.alloc (.cells X 48)) w.heap.size (flatP PK)) := (Blk.new rfl).to (by rw [eX, hPK.out])
  obtain ⟨ok1, ok2, ok3, ok4, ok5, ok6, ok7, ok8, ok9⟩ := ok
  obtain ⟨sm1, sm2, sm3, sm4⟩ := hsm
  have hk0 : PK[0]? = some [.int .i64 d.k] := by rw [← hPK.out]; rfl
  have hE : fldE d = vlE d.a.l 1024 := by unfold fldE; simp [hk]
  have hBy : fldB d = uenc d.a.slot.toNat ++ (d.a.root ++ (d.a.cp.enc ++ lenc d.a.l)) := by unfold fldB; simp [hk]
  have D : Hid (∀ u, Below w.heap.size w u → Calls Try.prog 28 #[.agg ((d.a.d v1).parts.flatten).toArray] u (EncR u (fldE d) (fldB d))) := fun u hu => by
    rw [hBy, hE]; exact reatt_any _ _ _ _ _ u ok3.1 ok3.2.1 ok3.2.2 (i1.below hu) (by omega)
  have hl : ((d.a.d v1).parts.flatten).length = 67 := AtP.len ok3
  have hpk : Hid (PK[2]? = some ((d.a.d v1).parts.flatten)) := by show _ = _; rw [← hPK.out]; rfl
  rw [hk] at hk0
  clear hE hBy hk eX i1 i2 i3 i4 ok1 ok2 ok3 ok4 ok5 ok6 ok7 ok8 ok9 sm1 sm2 sm3 sm4
  generalize (d.a.d v1).parts.flatten = L at *
  have HIL : Hid ((Try.prog.info? 35).map (·.size) = some L.length) := by show _ = _; rw [hl]; kernel_rfl
  obtain ⟨E, hE⟩ : ∃ E, fldE d = E := ⟨_, rfl⟩
  obtain ⟨ys, hy⟩ : ∃ ys, fldB d = ys := ⟨_, rfl⟩
  rw [hE, hy] at D
  rw [hE, hy]
  clear hl hE hy
  go_enter Try.func18, Try.ntmps18
  go_wp2_with (first
    | ((with_reducible refine at_load (.tmp 4) ?_); refine wpList_load_1 3 (.tmp 4) rfl w.heap.size 0 (.int .i64 3) (G1.out.cellAt (k := 0) hk0 rfl) rfl _ Try.underlying3 rfl rfl ?_)
    | ((with_reducible refine at_load (.tmp 13) ?_); refine wpList_load_part 35 (.tmp 13) rfl w.heap.size _ 2 239 L G1.out hpk.out (by rw [OO.out]; rfl) rfl _ Try.underlying35 rfl HIL.out rfl ?_)
    | (go_at_call 28; refine (D.out _ HB0.out).mono ?_; rintro en w1 ⟨v', rfl, hy1, hb1⟩; have HY1 := Lib.hid hy1; have HB1 := Lib.hid (HB0.out.trans (hb1.mono HB0.out.size)); clear hy1 hb1))
  go_ret2
  exact ⟨v', rfl, HY1.out, HB1.out⟩

set_option maxRecDepth 100000 in
set_option maxHeartbeats 8000000 in
theorem rf_4 (P : Value → Prop) (X : Array Value) (d : OpD) (w : World) (hX : OpIn P w X d) (hsm : SmallD d) (hk : d.k = 4) : Calls Try.prog 18 #[.agg X] w (EncR w (fldE d) (fldB d)) := by
  obtain ⟨v1, v2, v3, v4, eX, ok, ⟨i1, _⟩, ⟨i2, _⟩, ⟨i3, _⟩, ⟨i4, _⟩⟩ := hX
  have OO := Lib.hid (op_offs ok v1 v2 v3 v4)
  obtain ⟨PK, hPK⟩ : ∃ PK, Hid (d.parts v1 v2 v3 v4 = PK) := ⟨_, rfl⟩
  rw [hPK.out] at OO
  have HB0 := Lib.hid ((Below.refl w.heap.size w).alloc (Nat.le_refl _) (.cells X 48))
  have G1 : Hid (Blk (w.alloc (.cells X 48)) w.heap.size (flatP PK)) := (Blk.new rfl).to (by rw [eX, hPK.out])
  obtain ⟨ok1, ok2, ok3, ok4, ok5, ok6, ok7, ok8, ok9⟩ := ok
  obtain ⟨sm1, sm2, sm3, sm4⟩ := hsm
  have hk0 : PK[0]? = some [.int .i64 d.k] := by rw [← hPK.out]; rfl
  have hE : fldE d = vlsE [d.c1.l, d.c2.l] := by unfold fldE; simp [hk]
  have hBy : fldB d = (d.c1.d v2).enc d.c1.l ++ (d.c2.d v3).enc d.c2.l := by unfold fldB; simp [hk]; rfl
  have D : Hid (∀ u, Below w.heap.size w u → Calls Try.prog 29 #[.agg ([(d.c1.d v2).cells, (d.c2.d v3).cells].flatten).toArray] u (EncR u (fldE d) (fldB d))) := fun u hu => by
    rw [hBy, hE]; exact resla_any (d.c1.d v2) (d.c2.d v3) d.c1.l d.c2.l u ⟨ok4, i2.below hu, by omega⟩ ⟨ok5, i3.below hu, by omega⟩
  have hl : ([(d.c1.d v2).cells, (d.c2.d v3).cells].flatten).length = 70 := by simp [ClP.len ok4, ClP.len ok5]
  have hpk : Hid (PK[3]? = some ([(d.c1.d v2).cells, (d.c2.d v3).cells].flatten)) := by show _ = _; rw [← hPK.out]; rfl
  rw [hk] at hk0
  clear hE hBy hk eX i1 i2 i3 i4 ok1 ok2 ok3 ok4 ok5 ok6 ok7 ok8 ok9 sm1 sm2 sm3 sm4
  generalize [(d.c1.d v2).cells, (d.c2.d v3).cells].flatten = L at *
  have HIL : Hid ((Try.prog.info? 39).map (·.size) = some L.length) := by show _ = _; rw [hl]; kernel_rfl
  obtain ⟨E, hE⟩ : ∃ E, fldE d = E := ⟨_, rfl⟩
  obtain ⟨ys, hy⟩ : ∃ ys, fldB d = ys := ⟨_, rfl⟩
  rw [hE, hy] at D
  rw [hE, hy]
  clear hl hE hy
  go_enter Try.func18, Try.ntmps18
  go_wp2_with (first
    | ((with_reducible refine at_load (.tmp 4) ?_); refine wpList_load_1 3 (.tmp 4) rfl w.heap.size 0 (.int .i64 4) (G1.out.cellAt (k := 0) hk0 rfl) rfl _ Try.underlying3 rfl rfl ?_)
    | ((with_reducible refine at_load (.tmp 20) ?_); refine wpList_load_part 39 (.tmp 20) rfl w.heap.size _ 3 306 L G1.out hpk.out (by rw [OO.out]; rfl) rfl _ Try.underlying39 rfl HIL.out rfl ?_)
    | (go_at_call 29; refine (D.out _ HB0.out).mono ?_; rintro en w1 ⟨v', rfl, hy1, hb1⟩; have HY1 := Lib.hid hy1; have HB1 := Lib.hid (HB0.out.trans (hb1.mono HB0.out.size)); clear hy1 hb1))
  go_ret2
  exact ⟨v', rfl, HY1.out, HB1.out⟩

set_option maxRecDepth 100000 in
set_option maxHeartbeats 8000000 in
theorem rf_5 (P : Value → Prop) (X : Array Value) (d : OpD) (w : World) (hX : OpIn P w X d) (hsm : SmallD d) (hk : d.k = 5) : Calls Try.prog 18 #[.agg X] w (EncR w (fldE d) (fldB d)) := by
  obtain ⟨v1, v2, v3, v4, eX, ok, ⟨i1, _⟩, ⟨i2, _⟩, ⟨i3, _⟩, ⟨i4, _⟩⟩ := hX
  have OO := Lib.hid (op_offs ok v1 v2 v3 v4)
  obtain ⟨PK, hPK⟩ : ∃ PK, Hid (d.parts v1 v2 v3 v4 = PK) := ⟨_, rfl⟩
  rw [hPK.out] at OO
  have HB0 := Lib.hid ((Below.refl w.heap.size w).alloc (Nat.le_refl _) (.cells X 48))
  have G1 : Hid (Blk (w.alloc (.cells X 48)) w.heap.size (flatP PK)) := (Blk.new rfl).to (by rw [eX, hPK.out])
  obtain ⟨ok1, ok2, ok3, ok4, ok5, ok6, ok7, ok8, ok9⟩ := ok
  obtain ⟨sm1, sm2, sm3, sm4⟩ := hsm
  have hk0 : PK[0]? = some [.int .i64 d.k] := by rw [← hPK.out]; rfl
  have hE : fldE d = (if 1024 < d.tl.length then 3 else 0) := by unfold fldE; simp [hk]
  have hBy : fldB d = d.tc.enc ++ tenc d.tl := by unfold fldB; simp [hk]
  have D : Hid (∀ u, Below w.heap.size w u → Calls Try.prog 30 #[.agg ([d.tc.cells, [v4]].flatten).toArray] u (EncR u (fldE d) (fldB d))) := fun u hu => by
    rw [hBy, hE]; exact retab_any _ _ _ u ok6 (i4.below hu) (by omega)
  have hl : ([d.tc.cells, [v4]].flatten).length = 34 := by simp [CpD.len ok6]
  have hpk : Hid (PK[4]? = some ([d.tc.cells, [v4]].flatten)) := by show _ = _; rw [← hPK.out]; rfl
  rw [hk] at hk0
  clear hE hBy hk eX i1 i2 i3 i4 ok1 ok2 ok3 ok4 ok5 ok6 ok7 ok8 ok9 sm1 sm2 sm3 sm4
  generalize [d.tc.cells, [v4]].flatten = L at *
  have HIL : Hid ((Try.prog.info? 42).map (·.size) = some L.length) := by show _ = _; rw [hl]; kernel_rfl
  obtain ⟨E, hE⟩ : ∃ E, fldE d = E := ⟨_, rfl⟩
  obtain ⟨ys, hy⟩ : ∃ ys, fldB d = ys := ⟨_, rfl⟩
  rw [hE, hy] at D
  rw [hE, hy]
  clear hl hE hy
  go_enter Try.func18, Try.ntmps18
  go_wp2_with (first
    | ((with_reducible refine at_load (.tmp 4) ?_); refine wpList_load_1 3 (.tmp 4) rfl w.heap.size 0 (.int .i64 5) (G1.out.cellAt (k := 0) hk0 rfl) rfl _ Try.underlying3 rfl rfl ?_)
    | ((with_reducible refine at_load (.tmp 27) ?_); refine wpList_load_part 42 (.tmp 27) rfl w.heap.size _ 4 376 L G1.out hpk.out (by rw [OO.out]; rfl) rfl _ Try.underlying42 rfl HIL.out rfl ?_)
    | (go_at_call 30; refine (D.out _ HB0.out).mono ?_; rintro en w1 ⟨v', rfl, hy1, hb1⟩; have HY1 := Lib.hid hy1; have HB1 := Lib.hid (HB0.out.trans (hb1.mono HB0.out.size)); clear hy1 hb1))
  go_ret2
  exact ⟨v', rfl, HY1.out, HB1.out⟩

set_option maxRecDepth 100000 in
set_option maxHeartbeats 8000000 in
theorem rf_6 (P : Value → Prop) (X : Array Value) (d : OpD) (w : World) (hX : OpIn P w X d) (hsm : SmallD d) (hk : d.k = 6) : Calls Try.prog 18 #[.agg X] w (EncR w (fldE d) (fldB d)) := by
  obtain ⟨v1, v2, v3, v4, eX, ok, ⟨i1, _⟩, ⟨i2, _⟩, ⟨i3, _⟩, ⟨i4, _⟩⟩ := hX
  have OO := Lib.hid (op_offs ok v1 v2 v3 v4)
  obtain ⟨PK, hPK⟩ : ∃ PK, Hid (d.parts v1 v2 v3 v4 = PK) := ⟨_, rfl⟩
  rw [hPK.out] at OO
  have HB0 := Lib.hid ((Below.refl w.heap.size w).alloc (Nat.le_refl _) (.cells X 48))
  have G1 : Hid (Blk (w.alloc (.cells X 48)) w.heap.size (flatP PK)) := (Blk.new rfl).to (by rw [eX, hPK.out])
  obtain ⟨ok1, ok2, ok3, ok4, ok5, ok6, ok7, ok8, ok9⟩ := ok
  obtain ⟨sm1, sm2, sm3, sm4⟩ := hsm
  have hk0 : PK[0]? = some [.int .i64 d.k] := by rw [← hPK.out]; rfl
  have hE : fldE d = (if d.v.kind < 1 ∨ 4 < d.v.kind then 3 else 0) := by unfold fldE; simp [hk]
  have hBy : fldB d = d.v.enc := by unfold fldB; simp [hk]
  have D : Hid (∀ u, Below w.heap.size w u → Calls Try.prog 31 #[.agg (d.v.parts.flatten).toArray] u (EncR u (fldE d) (fldB d))) := fun u hu => by
    rw [hBy, hE]; exact revd_any _ u ok7
  have hl : (d.v.parts.flatten).length = 34 := VdD.len ok7
  have hpk : Hid (PK[5]? = some (d.v.parts.flatten)) := by show _ = _; rw [← hPK.out]; rfl
  rw [hk] at hk0
  clear hE hBy hk eX i1 i2 i3 i4 ok1 ok2 ok3 ok4 ok5 ok6 ok7 ok8 ok9 sm1 sm2 sm3 sm4
  generalize d.v.parts.flatten = L at *
  have HIL : Hid ((Try.prog.info? 46).map (·.size) = some L.length) := by show _ = _; rw [hl]; kernel_rfl
  obtain ⟨E, hE⟩ : ∃ E, fldE d = E := ⟨_, rfl⟩
  obtain ⟨ys, hy⟩ : ∃ ys, fldB d = ys := ⟨_, rfl⟩
  rw [hE, hy] at D
  rw [hE, hy]
  clear hl hE hy
  go_enter Try.func18, Try.ntmps18
  go_wp2_with (first
    | ((with_reducible refine at_load (.tmp 4) ?_); refine wpList_load_1 3 (.tmp 4) rfl w.heap.size 0 (.int .i64 6) (G1.out.cellAt (k := 0) hk0 rfl) rfl _ Try.underlying3 rfl rfl ?_)
    | ((with_reducible refine at_load (.tmp 34) ?_); refine wpList_load_part 46 (.tmp 34) rfl w.heap.size _ 5 410 L G1.out hpk.out (by rw [OO.out]; rfl) rfl _ Try.underlying46 rfl HIL.out rfl ?_)
    | (go_at_call 31; refine (D.out _ HB0.out).mono ?_; rintro en w1 ⟨v', rfl, hy1, hb1⟩; have HY1 := Lib.hid hy1; have HB1 := Lib.hid (HB0.out.trans (hb1.mono HB0.out.size)); clear hy1 hb1))
  go_ret2
  exact ⟨v', rfl, HY1.out, HB1.out⟩

set_option maxRecDepth 100000 in
set_option maxHeartbeats 8000000 in
theorem rf_1 (P : Value → Prop) (X : Array Value) (d : OpD) (w : World) (hX : OpIn P w X d) (hsm : SmallD d) (hk : d.k = 1) : Calls Try.prog 18 #[.agg X] w (EncR w 0 (fldB d)) := by
  obtain ⟨v1, v2, v3, v4, eX, ok, ⟨i1, _⟩, ⟨i2, _⟩, ⟨i3, _⟩, ⟨i4, _⟩⟩ := hX
  have OO := Lib.hid (op_offs ok v1 v2 v3 v4)
  obtain ⟨PK, hPK⟩ : ∃ PK, Hid (d.parts v1 v2 v3 v4 = PK) := ⟨_, rfl⟩
  rw [hPK.out] at OO
  have HB0 := Lib.hid ((Below.refl w.heap.size w).alloc (Nat.le_refl _) (.cells X 48))
  have G1 : Hid (Blk (w.alloc (.cells X 48)) w.heap.size (flatP PK)) := (Blk.new rfl).to (by rw [eX, hPK.out])
  obtain ⟨ok1, ok2, ok3, ok4, ok5, ok6, ok7, ok8, ok9⟩ := ok
  obtain ⟨sm1, sm2, sm3, sm4⟩ := hsm
  have hk0 : PK[0]? = some [.int .i64 d.k] := by rw [← hPK.out]; rfl
  have hBy : fldB d = [] := by unfold fldB; simp [hk]
  rw [hBy]
  rw [hk] at hk0
  clear hBy hk
  clear eX i1 i2 i3 i4 ok1 ok2 ok3 ok4 ok5 ok6 ok7 ok8 ok9 sm1 sm2 sm3 sm4
  go_enter Try.func18, Try.ntmps18
  go_wp2_with (first
    | ((with_reducible refine at_load (.tmp 4) ?_); refine wpList_load_1 3 (.tmp 4) rfl w.heap.size 0 (.int .i64 1) (G1.out.cellAt (k := 0) hk0 rfl) rfl _ Try.underlying3 rfl rfl ?_)
    | fail)
  go_ret2
  exact ⟨_, rfl, byt_nil _, HB0.out⟩

set_option maxRecDepth 100000 in
set_option maxHeartbeats 8000000 in
theorem rf_7 (P : Value → Prop) (X : Array Value) (d : OpD) (w : World) (hX : OpIn P w X d) (hsm : SmallD d) (hk : d.k = 7) : Calls Try.prog 18 #[.agg X] w (EncR w 0 (fldB d)) := by
  obtain ⟨v1, v2, v3, v4, eX, ok, ⟨i1, _⟩, ⟨i2, _⟩, ⟨i3, _⟩, ⟨i4, _⟩⟩ := hX
  have OO := Lib.hid (op_offs ok v1 v2 v3 v4)
  obtain ⟨PK, hPK⟩ : ∃ PK, Hid (d.parts v1 v2 v3 v4 = PK) := ⟨_, rfl⟩
  rw [hPK.out] at OO
  have HB0 := Lib.hid ((Below.refl w.heap.size w).alloc (Nat.le_refl _) (.cells X 48))
  have G1 : Hid (Blk (w.alloc (.cells X 48)) w.heap.size (flatP PK)) := (Blk.new rfl).to (by rw [eX, hPK.out])
  obtain ⟨ok1, ok2, ok3, ok4, ok5, ok6, ok7, ok8, ok9⟩ := ok
  obtain ⟨sm1, sm2, sm3, sm4⟩ := hsm
  have hk0 : PK[0]? = some [.int .i64 d.k] := by rw [← hPK.out]; rfl
  have hBy : fldB d = [] := by unfold fldB; simp [hk]
  rw [hBy]
  rw [hk] at hk0
  clear hBy hk
  clear eX i1 i2 i3 i4 ok1 ok2 ok3 ok4 ok5 ok6 ok7 ok8 ok9 sm1 sm2 sm3 sm4
  go_enter Try.func18, Try.ntmps18
  go_wp2_with (first
    | ((with_reducible refine at_load (.tmp 4) ?_); refine wpList_load_1 3 (.tmp 4) rfl w.heap.size 0 (.int .i64 7) (G1.out.cellAt (k := 0) hk0 rfl) rfl _ Try.underlying3 rfl rfl ?_)
    | fail)
  go_ret2
  exact ⟨_, rfl, byt_nil _, HB0.out⟩

set_option maxRecDepth 100000 in
set_option maxHeartbeats 8000000 in
theorem rf_8 (P : Value → Prop) (X : Array Value) (d : OpD) (w : World) (hX : OpIn P w X d) (hsm : SmallD d) (hk : d.k = 8) : Calls Try.prog 18 #[.agg X] w (EncR w (fldE d) (fldB d)) := by
  obtain ⟨v1, v2, v3, v4, eX, ok, ⟨i1, _⟩, ⟨i2, _⟩, ⟨i3, _⟩, ⟨i4, _⟩⟩ := hX
  have OO := Lib.hid (op_offs ok v1 v2 v3 v4)
  obtain ⟨PK, hPK⟩ : ∃ PK, Hid (d.parts v1 v2 v3 v4 = PK) := ⟨_, rfl⟩
  rw [hPK.out] at OO
  have HB0 := Lib.hid ((Below.refl w.heap.size w).alloc (Nat.le_refl _) (.cells X 48))
  have G1 : Hid (Blk (w.alloc (.cells X 48)) w.heap.size (flatP PK)) := (Blk.new rfl).to (by rw [eX, hPK.out])
  obtain ⟨ok1, ok2, ok3, ok4, ok5, ok6, ok7, ok8, ok9⟩ := ok
  obtain ⟨sm1, sm2, sm3, sm4⟩ := hsm
  have hk0 : PK[0]? = some [.int .i64 d.k] := by rw [← hPK.out]; rfl
  have hE : fldE d = if d.w < 0 ∨ 32768 < d.w ∨ d.p < 0 ∨ 32768 < d.p then 3 else 0 := by unfold fldE; simp [hk]
  have hBy : fldB d = uenc d.w.toNat ++ uenc d.p.toNat := by unfold fldB; simp [hk]
  have hp6 : Hid (PK[6]? = some [.int .i64 d.w]) := by show _ = _; rw [← hPK.out]; rfl
  have hp7 : Hid (PK[7]? = some [.int .i64 d.p]) := by show _ = _; rw [← hPK.out]; rfl
  rw [hE, hBy]
  rw [hk] at hk0
  obtain ⟨x, hx⟩ : ∃ x, d.w = x := ⟨_, rfl⟩
  obtain ⟨y, hy9⟩ : ∃ y, d.p = y := ⟨_, rfl⟩
  rw [hx] at hp6
  rw [hy9] at hp7
  rw [hx, hy9]
  clear hE hBy hk eX i1 i2 i3 i4 ok1 ok2 ok3 ok4 ok5 ok6 ok7 ok8 ok9 sm1 sm2 sm3 sm4 hx hy9
  by_cases hbad : x < 0 ∨ 32768 < x ∨ y < 0 ∨ 32768 < y
  case pos =>
    rw [if_pos hbad]
    by_cases h1 : x < 0
    · clear hbad
      go_enter Try.func18, Try.ntmps18
      go_wp2_with (first
        | ((with_reducible refine at_load (.tmp 4) ?_); refine wpList_load_1 3 (.tmp 4) rfl w.heap.size 0 (.int .i64 8) (G1.out.cellAt (k := 0) hk0 (by rw [OO.out]; rfl)) rfl _ Try.underlying3 rfl rfl ?_)
        | ((with_reducible refine at_load (.tmp 41) ?_); refine wpList_load_1 3 (.tmp 41) rfl w.heap.size 444 (.int .i64 x) (G1.out.cellAt (k := 6) hp6.out (by rw [OO.out]; rfl)) rfl _ Try.underlying3 rfl rfl ?_)
        | ((with_reducible refine at_load (.tmp 45) ?_); refine wpList_load_1 3 (.tmp 45) rfl w.heap.size 444 (.int .i64 x) (G1.out.cellAt (k := 6) hp6.out (by rw [OO.out]; rfl)) rfl _ Try.underlying3 rfl rfl ?_)
        | ((with_reducible refine at_load (.tmp 50) ?_); refine wpList_load_1 3 (.tmp 50) rfl w.heap.size 445 (.int .i64 y) (G1.out.cellAt (k := 7) hp7.out (by rw [OO.out]; rfl)) rfl _ Try.underlying3 rfl rfl ?_)
        | ((with_reducible refine at_load (.tmp 55) ?_); refine wpList_load_1 3 (.tmp 55) rfl w.heap.size 445 (.int .i64 y) (G1.out.cellAt (k := 7) hp7.out (by rw [OO.out]; rfl)) rfl _ Try.underlying3 rfl rfl ?_)
        | fail)
      go_ret2
      exact ⟨_, rfl, byt_nil _, HB0.out⟩
    by_cases h2 : 32768 < x
    · clear hbad
      go_enter Try.func18, Try.ntmps18
      go_wp2_with (first
        | ((with_reducible refine at_load (.tmp 4) ?_); refine wpList_load_1 3 (.tmp 4) rfl w.heap.size 0 (.int .i64 8) (G1.out.cellAt (k := 0) hk0 (by rw [OO.out]; rfl)) rfl _ Try.underlying3 rfl rfl ?_)
        | ((with_reducible refine at_load (.tmp 41) ?_); refine wpList_load_1 3 (.tmp 41) rfl w.heap.size 444 (.int .i64 x) (G1.out.cellAt (k := 6) hp6.out (by rw [OO.out]; rfl)) rfl _ Try.underlying3 rfl rfl ?_)
        | ((with_reducible refine at_load (.tmp 45) ?_); refine wpList_load_1 3 (.tmp 45) rfl w.heap.size 444 (.int .i64 x) (G1.out.cellAt (k := 6) hp6.out (by rw [OO.out]; rfl)) rfl _ Try.underlying3 rfl rfl ?_)
        | ((with_reducible refine at_load (.tmp 50) ?_); refine wpList_load_1 3 (.tmp 50) rfl w.heap.size 445 (.int .i64 y) (G1.out.cellAt (k := 7) hp7.out (by rw [OO.out]; rfl)) rfl _ Try.underlying3 rfl rfl ?_)
        | ((with_reducible refine at_load (.tmp 55) ?_); refine wpList_load_1 3 (.tmp 55) rfl w.heap.size 445 (.int .i64 y) (G1.out.cellAt (k := 7) hp7.out (by rw [OO.out]; rfl)) rfl _ Try.underlying3 rfl rfl ?_)
        | fail)
      go_ret2
      exact ⟨_, rfl, byt_nil _, HB0.out⟩
    by_cases h3 : y < 0
    · clear hbad
      go_enter Try.func18, Try.ntmps18
      go_wp2_with (first
        | ((with_reducible refine at_load (.tmp 4) ?_); refine wpList_load_1 3 (.tmp 4) rfl w.heap.size 0 (.int .i64 8) (G1.out.cellAt (k := 0) hk0 (by rw [OO.out]; rfl)) rfl _ Try.underlying3 rfl rfl ?_)
        | ((with_reducible refine at_load (.tmp 41) ?_); refine wpList_load_1 3 (.tmp 41) rfl w.heap.size 444 (.int .i64 x) (G1.out.cellAt (k := 6) hp6.out (by rw [OO.out]; rfl)) rfl _ Try.underlying3 rfl rfl ?_)
        | ((with_reducible refine at_load (.tmp 45) ?_); refine wpList_load_1 3 (.tmp 45) rfl w.heap.size 444 (.int .i64 x) (G1.out.cellAt (k := 6) hp6.out (by rw [OO.out]; rfl)) rfl _ Try.underlying3 rfl rfl ?_)
        | ((with_reducible refine at_load (.tmp 50) ?_); refine wpList_load_1 3 (.tmp 50) rfl w.heap.size 445 (.int .i64 y) (G1.out.cellAt (k := 7) hp7.out (by rw [OO.out]; rfl)) rfl _ Try.underlying3 rfl rfl ?_)
        | ((with_reducible refine at_load (.tmp 55) ?_); refine wpList_load_1 3 (.tmp 55) rfl w.heap.size 445 (.int .i64 y) (G1.out.cellAt (k := 7) hp7.out (by rw [OO.out]; rfl)) rfl _ Try.underlying3 rfl rfl ?_)
        | fail)
      go_ret2
      exact ⟨_, rfl, byt_nil _, HB0.out⟩
    have h4 : 32768 < y := by omega
    clear hbad
    go_enter Try.func18, Try.ntmps18
    go_wp2_with (first
      | ((with_reducible refine at_load (.tmp 4) ?_); refine wpList_load_1 3 (.tmp 4) rfl w.heap.size 0 (.int .i64 8) (G1.out.cellAt (k := 0) hk0 (by rw [OO.out]; rfl)) rfl _ Try.underlying3 rfl rfl ?_)
      | ((with_reducible refine at_load (.tmp 41) ?_); refine wpList_load_1 3 (.tmp 41) rfl w.heap.size 444 (.int .i64 x) (G1.out.cellAt (k := 6) hp6.out (by rw [OO.out]; rfl)) rfl _ Try.underlying3 rfl rfl ?_)
      | ((with_reducible refine at_load (.tmp 45) ?_); refine wpList_load_1 3 (.tmp 45) rfl w.heap.size 444 (.int .i64 x) (G1.out.cellAt (k := 6) hp6.out (by rw [OO.out]; rfl)) rfl _ Try.underlying3 rfl rfl ?_)
      | ((with_reducible refine at_load (.tmp 50) ?_); refine wpList_load_1 3 (.tmp 50) rfl w.heap.size 445 (.int .i64 y) (G1.out.cellAt (k := 7) hp7.out (by rw [OO.out]; rfl)) rfl _ Try.underlying3 rfl rfl ?_)
      | ((with_reducible refine at_load (.tmp 55) ?_); refine wpList_load_1 3 (.tmp 55) rfl w.heap.size 445 (.int .i64 y) (G1.out.cellAt (k := 7) hp7.out (by rw [OO.out]; rfl)) rfl _ Try.underlying3 rfl rfl ?_)
      | fail)
    go_ret2
    exact ⟨_, rfl, byt_nil _, HB0.out⟩
  case neg =>
    rw [if_neg hbad]
    have h1 : ¬ x < 0 := by omega
    have h2 : ¬ 32768 < x := by omega
    have h3 : ¬ y < 0 := by omega
    have h4 : ¬ 32768 < y := by omega
    clear hbad
    go_enter Try.func18, Try.ntmps18
    go_wp2_with (first
      | ((with_reducible refine at_load (.tmp 4) ?_); refine wpList_load_1 3 (.tmp 4) rfl w.heap.size 0 (.int .i64 8) (G1.out.cellAt (k := 0) hk0 (by rw [OO.out]; rfl)) rfl _ Try.underlying3 rfl rfl ?_)
      | ((with_reducible refine at_load (.tmp 41) ?_); refine wpList_load_1 3 (.tmp 41) rfl w.heap.size 444 (.int .i64 x) (G1.out.cellAt (k := 6) hp6.out (by rw [OO.out]; rfl)) rfl _ Try.underlying3 rfl rfl ?_)
      | ((with_reducible refine at_load (.tmp 45) ?_); refine wpList_load_1 3 (.tmp 45) rfl w.heap.size 444 (.int .i64 x) (G1.out.cellAt (k := 6) hp6.out (by rw [OO.out]; rfl)) rfl _ Try.underlying3 rfl rfl ?_)
      | ((with_reducible refine at_load (.tmp 50) ?_); refine wpList_load_1 3 (.tmp 50) rfl w.heap.size 445 (.int .i64 y) (G1.out.cellAt (k := 7) hp7.out (by rw [OO.out]; rfl)) rfl _ Try.underlying3 rfl rfl ?_)
      | ((with_reducible refine at_load (.tmp 55) ?_); refine wpList_load_1 3 (.tmp 55) rfl w.heap.size 445 (.int .i64 y) (G1.out.cellAt (k := 7) hp7.out (by rw [OO.out]; rfl)) rfl _ Try.underlying3 rfl rfl ?_)
      | fail)
    obtain ⟨u, hu⟩ : ∃ u, (w.alloc (.cells X 48)).drew = u := ⟨_, rfl⟩
    have HBU : Hid (Below w.heap.size w u) := by rw [← hu]; exact Below.drewN (n := 1) HB0.out
    have GU : Hid (Blk u w.heap.size (flatP PK)) := by rw [← hu]; exact G1.out
    have HS : Hid (u.cell? ⟨w.heap.size, 444, none⟩ = some (.int .i64 x) ∧ u.cell? ⟨w.heap.size, 445, none⟩ = some (.int .i64 y)) := ⟨GU.out.cellAt (k := 6) hp6.out (by rw [OO.out]; rfl), GU.out.cellAt (k := 7) hp7.out (by rw [OO.out]; rfl)⟩
    have HLU := Lib.hid GU.out.lt
    refine wp_region_held_drew (S := fun u => u.cell? ⟨w.heap.size, 444, none⟩ = some (.int .i64 x) ∧ u.cell? ⟨w.heap.size, 445, none⟩ = some (.int .i64 y)) (by kernel_rfl) (by rw [hu]; exact HS.out) (fun _ => ?_)
    rw [hu]
    clear hu
    (try simp only [Act.put, List.setIfInBounds_toArray, List.set_cons_zero, List.set_cons_succ])
    refine wpAnyH_take (i := 0) (oi := ⟨some 59, _, _, _, _, _⟩) (v := .pointer (some ⟨w.heap.size, 444, none⟩)) rfl (by kernel_rfl) (by kernel_rfl) (by kernel_rfl) (fun _ _ _ h => h) (Or.inl ⟨by rfl, fun wz hz => ?_⟩) HS.out ?_
    · clear hz; go_simp; first | done | with_reducible rfl | rfl
    (try simp only [Act.put, List.setIfInBounds_toArray, List.set_cons_zero, List.set_cons_succ])
    refine held_load1 1 (oi := ⟨some 60, _, _, _, _, _⟩) rfl (by kernel_rfl) (by kernel_rfl) (by kernel_rfl) (fun _ _ _ _ h => h) rfl 3 (.tmp 59) rfl w.heap.size 444 rfl (.int .i64 x) _ (fun u' hu => hu.1) Try.underlying3 rfl HS.out ?_
    (try simp only [Act.put, List.setIfInBounds_toArray, List.set_cons_zero, List.set_cons_succ])
    refine wpAnyH_take (i := 2) (oi := ⟨some 61, _, _, _, _, _⟩) (v := .int .u64 x) rfl (by kernel_rfl) (by kernel_rfl) (by kernel_rfl) (fun _ _ _ h => h) (Or.inl ⟨by rfl, fun wz hz => ?_⟩) HS.out ?_
    · clear hz; go_simp; first | done | with_reducible rfl | (rw [IntKind.wrap_u64]; omega)
    (try simp only [Act.put, List.setIfInBounds_toArray, List.set_cons_zero, List.set_cons_succ])
    refine wpAnyH_take (i := 4) (oi := ⟨some 63, _, _, _, _, _⟩) (v := .pointer (some ⟨w.heap.size, 445, none⟩)) rfl (by kernel_rfl) (by kernel_rfl) (by kernel_rfl) (fun _ _ _ h => h) (Or.inl ⟨by rfl, fun wz hz => ?_⟩) HS.out ?_
    · clear hz; go_simp; first | done | with_reducible rfl | rfl
    (try simp only [Act.put, List.setIfInBounds_toArray, List.set_cons_zero, List.set_cons_succ])
    refine held_load1 5 (oi := ⟨some 64, _, _, _, _, _⟩) rfl (by kernel_rfl) (by kernel_rfl) (by kernel_rfl) (fun _ _ _ _ h => h) rfl 3 (.tmp 63) rfl w.heap.size 445 rfl (.int .i64 y) _ (fun u' hu => hu.2) Try.underlying3 rfl HS.out ?_
    (try simp only [Act.put, List.setIfInBounds_toArray, List.set_cons_zero, List.set_cons_succ])
    refine wpAnyH_take (i := 6) (oi := ⟨some 65, _, _, _, _, _⟩) (v := .int .u64 y) rfl (by kernel_rfl) (by kernel_rfl) (by kernel_rfl) (fun _ _ _ h => h) (Or.inl ⟨by rfl, fun wz hz => ?_⟩) HS.out ?_
    · clear hz; go_simp; first | done | with_reducible rfl | (rw [IntKind.wrap_u64]; omega)
    (try simp only [Act.put, List.setIfInBounds_toArray, List.set_cons_zero, List.set_cons_succ])
    refine wpAnyH_ready (rs := [3]) (by kernel_rfl) (by simp) ?_
    refine AllReadyH.cons rfl (fun K hK => ?_) AllReadyH.nil
    go_simp
    refine (ruint_any (.slice none 0 0) [] x u u.heap.size (Own.nil _ _) (Nat.le_refl _) (by omega) (by omega) (by simp)).mono ?_
    rintro en w1 ⟨v1, rfl, ho1, hb1, _⟩
    have HO1 := Lib.hid ho1
    have HB1 := Lib.hid (HBU.out.trans (hb1.mono HBU.out.size))
    have HSZ1 := Lib.hid hb1.size
    have HS1 : Hid (w1.cell? ⟨w.heap.size, 444, none⟩ = some (.int .i64 x) ∧ w1.cell? ⟨w.heap.size, 445, none⟩ = some (.int .i64 y)) := by
      refine ⟨?_, ?_⟩
      · rw [hb1.cell (p := ⟨w.heap.size, 444, none⟩) HLU.out]; exact HS.out.1
      · rw [hb1.cell (p := ⟨w.heap.size, 445, none⟩) HLU.out]; exact HS.out.2
    refine hK.out _ _ HS1.out (fun _ => ?_)
    clear hK K ho1 hb1
    (try simp only [Act.put, List.setIfInBounds_toArray, List.set_cons_zero, List.set_cons_succ])
    refine wpAnyH_ready (rs := [7]) (by kernel_rfl) (by simp) ?_
    refine AllReadyH.cons rfl (fun K hK => ?_) AllReadyH.nil
    go_simp
    have hlx := uenc_len10 (n := x.toNat) (by omega)
    have hly := uenc_len10 (n := y.toNat) (by omega)
    refine (ruint_any v1 ([] ++ uenc x.toNat) y w1 u.heap.size HO1.out HSZ1.out (by omega) (by omega) (by simp; omega)).mono ?_
    rintro en w2 ⟨v2, rfl, ho2, hb2, _⟩
    have HO2 := Lib.hid (by simpa using ho2 : Own w2 u.heap.size v2 (uenc x.toNat ++ uenc y.toNat))
    have HB2 := Lib.hid (HB1.out.trans (hb2.mono HBU.out.size))
    have HLE : Hid ((uenc x.toNat ++ uenc y.toNat).length ≤ 20) := by show _ ≤ _; rw [List.length_append]; omega
    have HRG : Hid (∀ z ∈ uenc x.toNat ++ uenc y.toNat, 0 ≤ z ∧ z ≤ 255) := fun z hz => by
      rcases List.mem_append.1 hz with h | h
      · exact uenc_byte _ z h
      · exact uenc_byte _ z h
    have HS2 : Hid (w2.cell? ⟨w.heap.size, 444, none⟩ = some (.int .i64 x) ∧ w2.cell? ⟨w.heap.size, 445, none⟩ = some (.int .i64 y)) := by
      refine ⟨?_, ?_⟩
      · rw [hb2.cell (p := ⟨w.heap.size, 444, none⟩) HLU.out]; exact HS1.out.1
      · rw [hb2.cell (p := ⟨w.heap.size, 445, none⟩) HLU.out]; exact HS1.out.2
    refine hK.out _ _ HS2.out (fun _ => ?_)
    clear hK K ho2 hb2
    (try simp only [Act.put, List.setIfInBounds_toArray, List.set_cons_zero, List.set_cons_succ])
    refine wpAnyH_ready (rs := [8]) (by kernel_rfl) (by simp) ?_
    refine AllReadyH.cons rfl (fun K hK => ?_) AllReadyH.nil
    go_simp
    refine hK.out _ _ (HS2.out) (fun _ => ?_)
    clear hK K
    (try simp only [Act.put, List.setIfInBounds_toArray, List.set_cons_zero, List.set_cons_succ])
    refine wpAnyH_ready (rs := [9]) (by kernel_rfl) (by simp) ?_
    refine AllReadyH.cons rfl (fun K hK => ?_) AllReadyH.nil
    go_simp
    refine hK.out _ _ (HS2.out) (fun _ => ?_)
    clear hK K
    (try simp only [Act.put, List.setIfInBounds_toArray, List.set_cons_zero, List.set_cons_succ])
    refine wpAnyH_done (by kernel_rfl) ?_ _
    clear hlx hly
    go_wp2_with fail
    go_ret2
    exact ⟨v2, rfl, by rw [if_pos rfl]; exact (HO2.out.byt (by have := HLE.out; unfold maxLen; omega) HRG.out), HB2.out⟩

theorem rf_any (P : Value → Prop) (X : Array Value) (d : OpD) (w : World) (hX : OpIn P w X d) (hsm : SmallD d) (h1 : 1 ≤ d.k) (h8 : d.k ≤ 8) : Calls Try.prog 18 #[.agg X] w (EncR w (fldE d) (fldB d)) := by
  obtain h | h | h | h | h | h | h | h : d.k = 1 ∨ d.k = 2 ∨ d.k = 3 ∨ d.k = 4 ∨ d.k = 5 ∨ d.k = 6 ∨ d.k = 7 ∨ d.k = 8 := by omega
  · have e : fldE d = 0 := by unfold fldE; simp [h]
    rw [e]; exact rf_1 P X d w hX hsm h
  · exact rf_2 P X d w hX hsm h
  · exact rf_3 P X d w hX hsm h
  · exact rf_4 P X d w hX hsm h
  · exact rf_5 P X d w hX hsm h
  · exact rf_6 P X d w hX hsm h
  · have e : fldE d = 0 := by unfold fldE; simp [h]
    rw [e]; exact rf_7 P X d w hX hsm h
  · exact rf_8 P X d w hX hsm h
end

/-! ScQ -/
section
set_option linter.unusedVariables false
set_option linter.unusedSimpArgs false
open Go.RowKit

theorem OpIn.tl {P : Value → Prop} {w : World} {X : Array Value} {d : OpD} (h : OpIn P w X d) : ∀ x ∈ d.tl, 0 ≤ x ∧ x ≤ 18446744073709551615 := by
  obtain ⟨_, _, _, _, _, _, _, _, _, h⟩ := h; exact h.1.2
theorem fldE_kind {d : OpD} (h : fldE d = 0) : 1 ≤ d.k ∧ d.k ≤ 8 := by
  unfold fldE at h
  repeat' split at h
  all_goals first | omega | skip

set_option maxRecDepth 100000 in
set_option maxHeartbeats 8000000 in
theorem eop_any (P : Value → Prop) (X : Array Value) (d : OpD) (w : World) (hX : OpIn P w X d) (hsm : SmallD d) : Calls Try.prog 17 #[.agg X] w (EncR w (opErr d) (opBy d)) := by
  have hX0 := hX.size
  have HX1 := Lib.hid hX.one
  have HIX : Hid ((Try.prog.info? 48).map (·.size) = some X.size) := by show _ = _; rw [hX0]; exact info_op
  have G1 : Hid (Blk (w.alloc (.cells X 48)) w.heap.size X) := Blk.new rfl
  have HB0 := Lib.hid ((Below.refl w.heap.size w).alloc (Nat.le_refl _) (.cells X 48))
  have DF : Hid (∀ u, Below w.heap.size w u → Calls Try.prog 23 #[.agg X] u (EncR u (fldE d) (fldB d))) := fun u hu => ef_any P X d u (opE.below hX hu) hsm
  have DW : Hid (∀ u, Below w.heap.size w u → Calls Try.prog 25 #[.agg X] u (WoR u d)) := fun u hu => wof_any P X d u (opE.below hX hu)
  have DZ : Hid (∀ u Y, OpIn (fun _ => True) u Y (woD d) → Calls Try.prog 24 #[.agg Y] u (Tells u (IsZ (woD d)))) := fun u Y h => izo_any _ Y _ u h
  have HLB : Hid (fldE d = 0 → (fldB d).length ≤ 1000000000) := fldB_len hX.ok hX.tl hsm
  obtain ⟨F, hF⟩ : ∃ F, Hid (fldE d = F) := ⟨_, rfl⟩
  have hOE := opErr_code d
  rw [hF.out] at hOE DF
  by_cases h0 : F = 0
  case neg =>
    have e : opErr d = F := by rw [hOE, if_pos h0]
    rw [e]
    have hne : (F != 0) = true := by simpa using h0
    have HN := Lib.hid h0
    clear hOE e h0 hX hsm hX0
    go_enter Try.func17, Try.ntmps17
    go_wp2_with (first
      | ((with_reducible refine at_load (.tmp 1) ?_); refine wpList_load_g 48 (.tmp 1) rfl w.heap.size rfl X _ G1.out Try.underlying48 rfl HIX.out rfl ?_)
      | (go_at_call 23; refine (DF.out _ HB0.out).mono ?_; rintro en w1 ⟨v1, rfl, hy1, hb1⟩; have HB1 := Lib.hid (HB0.out.trans (hb1.mono HB0.out.size)); clear hy1 hb1))
    go_ret2
    exact ⟨_, rfl, by rw [if_neg HN.out]; exact byt_nil _, HB1.out⟩
  case pos =>
    subst h0
    have hkr := fldE_kind hF.out
    have HKR := Lib.hid hkr
    by_cases hz : IsZ (woD d)
    case neg =>
      have e : opErr d = 2 := by rw [hOE, if_neg (by simp), if_neg hz]
      rw [e]
      have HZ := Lib.hid hz
      clear hOE e hz hX hsm hX0 hkr
      go_enter Try.func17, Try.ntmps17
      go_wp2_with (first
        | (go_at_call 24; refine (DZ.out _ _ HO2.out).mono ?_; rintro en w3 hh; obtain ⟨rfl, hb3⟩ := tells_false hh HZ.out; have HB3 := Lib.hid (HB2.out.trans (hb3.mono HB2.out.size)); clear hh hb3)
        | (go_at_call 25; refine (DW.out _ HB1.out).mono ?_; rintro en w2 ⟨Y, rfl, ho2, hb2⟩; have HO2 := Lib.hid ho2; have HB2 := Lib.hid (HB1.out.trans (hb2.mono HB1.out.size)); clear ho2 hb2)
        | ((with_reducible refine at_load (.tmp 1) ?_); refine wpList_load_g 48 (.tmp 1) rfl w.heap.size rfl X _ G2.out Try.underlying48 rfl HIX.out rfl ?_)
        | ((with_reducible refine at_load (.tmp 1) ?_); refine wpList_load_g 48 (.tmp 1) rfl w.heap.size rfl X _ G1.out Try.underlying48 rfl HIX.out rfl ?_)
        | (go_at_call 23; refine (DF.out _ HB0.out).mono ?_; rintro en w1 ⟨v1, rfl, hy1, hb1⟩; have HB1 := Lib.hid (HB0.out.trans (hb1.mono HB0.out.size)); have G2 := Lib.hid (G1.out.call hb1); clear hy1 hb1))
      go_ret2
      exact ⟨_, rfl, by rw [if_neg (by omega)]; exact byt_nil _, HB3.out⟩
    case pos =>
      have e : opErr d = 0 := by rw [hOE, if_neg (by simp), if_pos hz]
      rw [e]
      have HZ := Lib.hid hz
      obtain ⟨v1, v2, v3, v4, eX, ok, _⟩ := hX
      have hk0 : Hid ((d.parts v1 v2 v3 v4)[0]? = some [.int .i64 d.k]) := rfl
      have GX : Hid (flatP (d.parts v1 v2 v3 v4) = X) := eX.symm
      have hfl := HLB.out hF.out
      obtain ⟨K, hK⟩ : ∃ K, Hid (d.k = K) := ⟨_, rfl⟩
      rw [hK.out] at hkr hk0
      have HBY : Hid (opBy d = uenc K.toNat ++ fldB d) := by show _ = _; unfold opBy; rw [hK.out]
      have hul := uenc_len10 (n := K.toNat) (by omega)
      obtain ⟨ys, hys⟩ : ∃ ys, fldB d = ys := ⟨_, rfl⟩
      rw [hys] at DF HBY hfl
      have DU : Hid (∀ u, Calls Try.prog 26 #[.slice none 0 0, .int .u64 K] u (AppN u (uenc K.toNat))) := fun u => by
        have := auint_own (.slice none 0 0) [] K u (byt_nil u) (by omega) (by omega) (by simp)
        simpa using this
      have HUL := Lib.hid hul
      have HFL := Lib.hid hfl
      clear hOE e hz hsm hX0 eX ok hys hul hfl
      go_enter Try.func17, Try.ntmps17
      go_wp2_with (first
        | ((with_reducible refine at_app _ _ ?_); refine wpList_appAt _ _ rfl rfl w.heap.size v4' (uenc K.toNat) rfl HO4.out _ ys rfl (HY1.out.below HY4.out) (by have := HUL.out; have := HFL.out; omega) HB4.out.size ?_
           intro v5 w5 ho5 hg5 hn5
           have HO5 := Lib.hid ho5
           have HB5 := Lib.hid (Below.own HB4.out hg5 HO4.out (Nat.le_refl _) HB4.out.size)
           clear ho5 hg5 hn5)
        | (go_at_call 26; refine (DU.out _).mono ?_; rintro en w4 ⟨v4', rfl, ho4, hb4⟩; have HO4 := Lib.hid (Own.mono ho4 HB3.out.size); have HY4 := Lib.hid (HY3.out.trans (hb4.mono HY3.out.size)); have HB4 := Lib.hid (HB3.out.trans (hb4.mono HB3.out.size)); clear ho4 hb4)
        | ((with_reducible refine at_load (.tmp 18) ?_); refine wpList_load_1 3 (.tmp 18) rfl w.heap.size 0 (.int .i64 K) ((G3.out.to GX.out.symm).cellAt (k := 0) hk0.out rfl) rfl _ Try.underlying3 rfl rfl ?_)
        | (go_at_call 24; refine (DZ.out _ _ HO2.out).mono ?_; rintro en w3 hh; obtain ⟨rfl, hb3⟩ := tells_true hh HZ.out; have HB3 := Lib.hid (HB2.out.trans (hb3.mono HB2.out.size)); have HY3 := Lib.hid (HY2.out.trans (hb3.mono HY2.out.size)); have G3 := Lib.hid ((G2.out.call HY2.out).call hb3); clear hh hb3)
        | (go_at_call 25; refine (DW.out _ HB1.out).mono ?_; rintro en w2 ⟨Y, rfl, ho2, hb2⟩; have HO2 := Lib.hid ho2; have HY2 := Lib.hid hb2; have HB2 := Lib.hid (HB1.out.trans (hb2.mono HB1.out.size)); clear ho2 hb2)
        | ((with_reducible refine at_load (.tmp 1) ?_); refine wpList_load_g 48 (.tmp 1) rfl w.heap.size rfl X _ G2.out Try.underlying48 rfl HIX.out rfl ?_)
        | ((with_reducible refine at_load (.tmp 1) ?_); refine wpList_load_g 48 (.tmp 1) rfl w.heap.size rfl X _ G1.out Try.underlying48 rfl HIX.out rfl ?_)
        | (go_at_call 23; refine (DF.out _ HB0.out).mono ?_; rintro en w1 ⟨v1', rfl, hy1, hb1⟩; rw [if_pos rfl] at hy1; have HY1 := Lib.hid hy1; have HB1 := Lib.hid (HB0.out.trans (hb1.mono HB0.out.size)); have G2 := Lib.hid (G1.out.call hb1); obtain ⟨fa, fl, fc, rfl⟩ := hy1.shape; clear hy1 hb1))
      go_ret2
      refine ⟨v5, rfl, ?_, HB5.out⟩
      rw [if_pos rfl, HBY.out]
      refine HO5.out.byt (by have := HUL.out; have := HFL.out; unfold maxLen; rw [List.length_append]; omega) fun z hz => ?_
      rcases List.mem_append.1 hz with h | h
      · exact uenc_byte _ z h
      · exact HY1.out.rng z h

set_option maxRecDepth 100000 in
set_option maxHeartbeats 8000000 in
theorem val_any (P : Value → Prop) (X : Array Value) (d : OpD) (w : World) (hX : OpIn P w X d) (hsm : SmallD d) : Calls Try.prog 10 #[.agg X] w fun en w' => en = .returned (.int .i64 (opErr d)) ∧ Below w.heap.size w w' := by
  have hX0 := hX.size
  have HIX : Hid ((Try.prog.info? 48).map (·.size) = some X.size) := by show _ = _; rw [hX0]; exact info_op
  have G1 : Hid (Blk (w.alloc (.cells X 48)) w.heap.size X) := Blk.new rfl
  have HB0 := Lib.hid ((Below.refl w.heap.size w).alloc (Nat.le_refl _) (.cells X 48))
  have D : Hid (∀ u, Below w.heap.size w u → Calls Try.prog 17 #[.agg X] u (EncR u (opErr d) (opBy d))) := fun u hu => eop_any P X d u (opE.below hX hu) hsm
  obtain ⟨E, hE⟩ : ∃ E, opErr d = E := ⟨_, rfl⟩
  rw [hE] at D ⊢
  clear hX hsm hX0 hE
  go_enter Try.func10, Try.ntmps10
  go_wp2_with (first
    | ((with_reducible refine at_load (.tmp 1) ?_); refine wpList_load_g 48 (.tmp 1) rfl w.heap.size rfl X _ G1.out Try.underlying48 rfl HIX.out rfl ?_)
    | (go_at_call 17; refine (D.out _ HB0.out).mono ?_; rintro en w1 ⟨v1, rfl, hy1, hb1⟩; have HB1 := Lib.hid (HB0.out.trans (hb1.mono HB0.out.size)); clear hy1 hb1))
  go_ret
  exact ⟨rfl, HB1.out⟩
end

/-! ScK -/
section
set_option linter.unusedVariables false
set_option linter.unusedSimpArgs false
open Go.RowKit

/-- The error of a list of operations: that of the first one that has one. -/
noncomputable def opsErr : List OpD → Int
  | [] => 0
  | d :: r => if opErr d ≠ 0 then opErr d else opsErr r
def opsBy (ds : List OpD) : List Int := ds.flatMap opBy
theorem opsErr_at {ds : List OpD} : ∀ {k : Nat} (hk : k < ds.length), (∀ j (hj : j < ds.length), j < k → opErr ds[j] = 0) → opErr ds[k] ≠ 0 → opsErr ds = opErr ds[k] := by
  induction ds with
  | nil => intro k hk; simp at hk
  | cons d r ih =>
    intro k hk h hne
    cases k with
    | zero => simp only [List.getElem_cons_zero] at hne ⊢; rw [opsErr, if_pos hne]
    | succ k =>
      have h0 := h 0 (by simp) (by omega)
      simp only [List.getElem_cons_zero] at h0
      rw [opsErr, if_neg (by simpa using h0)]
      simp only [List.getElem_cons_succ] at hne ⊢
      exact ih (by simpa using hk) (fun j hj hjk => by have := h (j + 1) (by simpa using hj) (by omega); simpa using this) hne
theorem opsErr_zero {ds : List OpD} (h : ∀ j (hj : j < ds.length), opErr ds[j] = 0) : opsErr ds = 0 := by
  induction ds with
  | nil => rfl
  | cons d r ih =>
    have h0 := h 0 (by simp)
    simp only [List.getElem_cons_zero] at h0
    rw [opsErr, if_neg (by simpa using h0)]
    exact ih fun j hj => by have := h (j + 1) (by simpa using hj); simpa using this
theorem opsBy_next {ds : List OpD} {k : Nat} (hk : k < ds.length) : opsBy (ds.take (k + 1)) = opsBy (ds.take k) ++ opBy ds[k] := by
  unfold opsBy
  rw [List.take_add_one, List.flatMap_append]
  simp [List.getElem?_eq_getElem hk]

/-- The lists that the laws encode: what is encoded before a fault is not too long. -/
structure GoodL (ds : List OpD) : Prop where
  small : ∀ d ∈ ds, SmallD d
  fits : ∀ k, k ≤ ds.length → (∀ j (hj : j < ds.length), j < k → opErr ds[j] = 0) → (opsBy (ds.take k)).length ≤ 1048576

/-- What Encode gives. -/
def EncL (w : World) (ds : List OpD) : Ending → World → Prop := EncR w (if 4096 < ds.length then 11 else opsErr ds) (opsBy ds)
theorem EncR.err {w w' : World} {E : Int} {ys : List Int} (h : E ≠ 0) (hb : Below w.heap.size w w') : EncR w E ys (.returned (.tuple #[.slice none 0 0, .int .i64 E])) w' := ⟨_, rfl, by rw [if_neg h]; exact byt_nil _, hb⟩

set_option maxRecDepth 100000 in
set_option maxHeartbeats 8000000 in
theorem enc_any (v : Value) (ds : List OpD) (w : World) (h : ElV OpIn 446 w v ds) (hG : GoodL ds) : Calls Try.prog 8 #[v] w (EncL w ds) := by
  obtain ⟨va, vc, rfl, hm⟩ := h.shape
  unfold maxLen at hm
  obtain ⟨n, hn⟩ : ∃ n, Hid (ds.length = n) := ⟨_, rfl⟩
  rw [hn.out] at h hm ⊢
  have H := Lib.hid h
  clear h
  by_cases hbig : 4096 < n
  · have HE : Hid (∀ u, Below w.heap.size w u → EncL w ds (.returned (.tuple #[.slice none 0 0, .int .i64 11])) u) := fun u hu => by
      unfold EncL; rw [hn.out, if_pos hbig]; exact EncR.err (by omega) hu
    go_enter Try.func8, Try.ntmps8
    go_wp2_with fail
    go_ret2
    exact HE.out _ (Below.refl _ _)
  have hn2 : ¬ (4096 : Int) < (n : Int) := by omega
  obtain ⟨Z, hZ⟩ : ∃ Z, Hid (flatP ((kOp 0).parts nilV nilV nilV nilV) = Z) := ⟨_, rfl⟩
  have hZ0 : Hid (Z.size = 446) := by show _ = _; rw [← hZ.out]; rfl
  obtain ⟨hzz, hst⟩ := zero_array (P := Try.prog) (t := 48) (n := 446) Z (by rw [← hZ.out]; exact zop_zero) hZ0.out (by rw [← hZ.out]; exact zop_one)
  have HG := Lib.hid hG
  have HNB := Lib.hid hbig
  clear hG hbig
  go_enter Try.func8, Try.ntmps8
  go_wp2_with fail
  go_loopw [4, 15] (fun b i wr => ∃ k : Nat, k ≤ n ∧ i = .int .i64 k ∧ Own wr w.heap.size b (opsBy (ds.take k)) ∧ (∀ x ∈ opsBy (ds.take k), 0 ≤ x ∧ x ≤ 255) ∧ (∀ j (hj : j < ds.length), j < k → opErr ds[j] = 0) ∧ Below w.heap.size w wr) (fun _ i _ => n - (intOf i).toNat)
  case atStart => exact ⟨0, Nat.zero_le _, rfl, own_zero (Nat.le_refl _) (Nat.zero_le _) rfl, by simp [opsBy], fun j _ hj => by omega, (Below.refl _ w).alloc (Nat.le_refl _) _⟩
  case round =>
    obtain ⟨k, hk, rfl, how, hrg, hok, hb⟩ := hrel
    have hfit := HG.out.fits k (by rw [hn.out]; exact hk) hok
    have HFIT := Lib.hid hfit
    obtain ⟨ba, bl, bc, rfl⟩ := how.shape
    have hbl : (opsBy (ds.take k)).length = bl := by
      have := Ints.own how (by unfold maxLen; omega); obtain ⟨_, _, _, e, h9, _⟩ := this; cases e; exact h9
    have hbl2 : bl ≤ 1048576 := by omega
    have HOW := Lib.hid how
    have HRG := Lib.hid hrg
    have HOK := Lib.hid hok
    have HB := Lib.hid hb
    have HBL := Lib.hid hbl
    by_cases hlt : k < n
    · have hkd : k < ds.length := by rw [hn.out]; exact hlt
      obtain ⟨xb, xo, X, e, hl, hxl, hr, hX, hX0, hX1⟩ := (H.out.below opE hb).at opE hkd
      subst e
      have HR := Lib.hid hr
      have HIX : Hid ((Try.prog.info? 48).map (·.size) = some X.toList.length) := by show _ = _; rw [Array.length_toList, hX0]; exact info_op
      have HIX2 : Hid ((Try.prog.info? 48).map (·.size) = some X.size) := by show _ = _; rw [hX0]; exact info_op
      have HX1 := Lib.hid hX1
      have HZX : Hid (Z.size = X.size) := by show _ = _; rw [hX0, hZ0.out]
      obtain ⟨d, hd0⟩ : ∃ d, ds[k] = d := ⟨_, rfl⟩
      have hd := Lib.hid hd0
      clear hd0
      rw [hd.out] at hX
      have hsm := HG.out.small d (hd.out ▸ List.getElem_mem hkd)
      have D : Hid (∀ u, Below wr.heap.size wr u → Calls Try.prog 17 #[.agg X] u (EncR u (opErr d) (opBy d))) := fun u hu => eop_any _ X d u (opE.below hX hu) hsm
      have eXL : X.toList.toArray = X := by simp
      obtain ⟨XL, hXL⟩ : ∃ L, X.toList = L := ⟨_, rfl⟩
      rw [hXL] at HR HIX eXL
      have EXL := Lib.hid eXL
      obtain ⟨E, hE⟩ : ∃ E, Hid (opErr d = E) := ⟨_, rfl⟩
      rw [hE.out] at D
      clear how hrg hok hb hbl hxl hr hX hX0 hX1 hl hsm eXL hXL hfit
      by_cases he : E = 0
      case neg =>
        have HE : Hid (∀ u, Below w.heap.size w u → EncL w ds (.returned (.tuple #[.slice none 0 0, .int .i64 E])) u) := fun u hu => by
          have e1 : opsErr ds = E := by
            rw [opsErr_at hkd HOK.out (by rw [hd.out, hE.out]; exact he), hd.out, hE.out]
          unfold EncL; rw [hn.out, if_neg HNB.out, e1]; exact EncR.err he hu
        have hne : (E != 0) = true := by simpa using he
        clear he
        go_wp2_with (first
          | ((with_reducible refine at_load (.tmp 17) ?_); refine wpList_load_mid rfl 48 (.tmp 17) rfl xb (xo + k * 446) rfl XL _ HR.out Try.underlying48 rfl HIX.out ?_; rw [EXL.out])
          | ((with_reducible refine at_store (.tmp 6) ?_); refine wpList_store_blk rfl 48 (.tmp 6) _ rfl wr.heap.size X rfl rfl Z (Blk.new rfl) HZX.out HIX2.out HX1.out ?_; intro w2 U2 B2; have K2 := Lib.hid B2; have HB2 := Lib.hid (U2.below ((Below.refl _ wr).alloc (Nat.le_refl _) (.cells Z 48)) (Nat.le_refl _)); clear U2 B2)
          | ((with_reducible refine at_load (.tmp 6) ?_); refine wpList_load_g 48 (.tmp 6) rfl wr.heap.size rfl X _ K2.out Try.underlying48 rfl HIX2.out rfl ?_)
          | (go_at_call 17; refine (D.out _ HB2.out).mono ?_; rintro en w3 ⟨v3, rfl, hy3, hb3⟩; have HB3 := Lib.hid (HB.out.trans ((HB2.out.trans (hb3.mono HB2.out.size)).mono HB.out.size)); clear hy3 hb3))
        go_ret2
        exact HE.out _ HB3.out
      case pos =>
        subst he
        have hok2 : ∀ j (hj : j < ds.length), j < k + 1 → opErr ds[j] = 0 := fun j hj hj2 => by
          by_cases hjk : j = k
          · subst hjk; rw [hd.out]; exact hE.out
          · exact HOK.out j hj (by omega)
        have hnx := opsBy_next (ds := ds) hkd
        rw [hd.out] at hnx
        have hf2 := HG.out.fits (k + 1) (by rw [hn.out]; exact hlt) hok2
        have HNX := Lib.hid hnx
        have HOK2 := Lib.hid hok2
        have hyl : (opBy d).length ≤ 1048576 := by rw [hnx, List.length_append] at hf2; omega
        have HYL := Lib.hid hyl
        clear hok2 hnx hf2 hyl
        go_wp2_with (first
          | ((with_reducible refine at_load (.tmp 17) ?_); refine wpList_load_mid rfl 48 (.tmp 17) rfl xb (xo + k * 446) rfl XL _ HR.out Try.underlying48 rfl HIX.out ?_; rw [EXL.out])
          | ((with_reducible refine at_store (.tmp 6) ?_); refine wpList_store_blk rfl 48 (.tmp 6) _ rfl wr.heap.size X rfl rfl Z (Blk.new rfl) HZX.out HIX2.out HX1.out ?_; intro w2 U2 B2; have K2 := Lib.hid B2; have HB2 := Lib.hid (U2.below ((Below.refl _ wr).alloc (Nat.le_refl _) (.cells Z 48)) (Nat.le_refl _)); clear U2 B2)
          | ((with_reducible refine at_load (.tmp 6) ?_); refine wpList_load_g 48 (.tmp 6) rfl wr.heap.size rfl X _ K2.out Try.underlying48 rfl HIX2.out rfl ?_)
          | (go_at_call 17; refine (D.out _ HB2.out).mono ?_; rintro en w3 ⟨v3, rfl, hy3, hb3⟩; rw [if_pos rfl] at hy3; have HY3 := Lib.hid hy3; have HW3 := Lib.hid (HB2.out.trans (hb3.mono HB2.out.size)); obtain ⟨ya, yl, yc, rfl⟩ := hy3.shape; clear hy3 hb3)
          | ((with_reducible refine at_app _ _ ?_); refine wpList_appAt _ _ rfl rfl w.heap.size (.slice ba bl bc) (opsBy (ds.take k)) rfl (HOW.out.call HW3.out) _ (opBy d) rfl HY3.out (by have := HYL.out; have := HFIT.out; omega) (Nat.le_trans HB.out.size HW3.out.size) ?_
             intro v5 w5 ho5 hg5 hn5
             have HO5 := Lib.hid ho5
             have HB5 := Lib.hid (Below.own (HB.out.trans (HW3.out.mono HB.out.size)) hg5 (HOW.out.call HW3.out) (Nat.le_refl _) (Nat.le_trans HB.out.size HW3.out.size))
             clear ho5 hg5 hn5))
        go_roundw
        case rel =>
          refine ⟨k + 1, hlt, by go_num, by rw [HNX.out]; exact HO5.out, fun x hx => ?_, HOK2.out, HB5.out⟩
          rw [HNX.out] at hx
          rcases List.mem_append.1 hx with h | h
          · exact HRG.out x h
          · exact HY3.out.rng x h
        case measure => simp [intOf]; omega
    · obtain rfl : k = n := by omega
      have hle : ¬ (1048576 : Int) < (bl : Int) := by omega
      have HE : Hid (EncL w ds (.returned (.tuple #[.slice ba bl bc, .int .i64 0])) wr) := by
        have e1 : opsErr ds = 0 := opsErr_zero fun j hj => hok j hj (by rw [hn.out] at hj; exact hj)
        unfold EncL; rw [hn.out, if_neg HNB.out, e1]
        have e2 : ds.take k = ds := by rw [← hn.out]; exact List.take_length
        rw [e2] at how hrg hfit
        exact ⟨_, rfl, by rw [if_pos rfl]; exact how.byt (by unfold maxLen; omega) hrg, hb⟩
      clear how hrg hok hb hbl hfit
      go_wp2_with fail
      go_ret2
      exact HE.out
end

end Go.Proofs.Ytmnojgdfbhdkhaa
