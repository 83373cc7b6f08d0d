/- Several texts as one: El2, ScA, ScG, L6d. -/
import Derived.Test.YtmnojgdfbhdkhaaZ6
import Derived.Test.YtmnojgdfbhdkhaaZ8
import Derived.Test.YtmnojgdfbhdkhaaZ9
import Derived.Test.YtmnojgdfbhdkhaaCdK
import Derived.Test.YtmnojgdfbhdkhaaZ7
namespace Go.Proofs.Ytmnojgdfbhdkhaa

/-! El2 -/
section
set_option linter.unusedVariables false
set_option linter.unusedSimpArgs false
open Go.RowKit

theorem foldl_shift : ∀ (xs : List Value) (o n : Nat) (Z : Array Value), (xs.zipIdx n).foldl (fun cs x => cs.setIfInBounds (o + x.2) x.1) Z = (xs.zipIdx (o + n)).foldl (fun cs x => cs.setIfInBounds x.2 x.1) Z
  | [], _, _, _ => rfl
  | x :: xs, o, n, Z => by
    rw [List.zipIdx_cons, List.zipIdx_cons, List.foldl_cons, List.foldl_cons, foldl_shift xs o (n + 1), Nat.add_assoc]

theorem fold_two {X Y W : Array Value} {sz : Nat} (hX : X.size = sz) (hY : Y.size = sz) (hW : W.size = 2 * sz) :
    Array.foldl (fun cs x => cs.setIfInBounds (sz + x.2) x.1) (Array.foldl (fun cs x => cs.setIfInBounds x.2 x.1) W X.zipIdx 0 sz) Y.zipIdx 0 sz = X ++ Y ∧ (Array.foldl (fun cs x => cs.setIfInBounds x.2 x.1) W X.zipIdx 0 sz).size = 2 * sz := by
  have eX : Array.foldl (fun cs x => cs.setIfInBounds x.2 x.1) W X.zipIdx 0 sz = (X.toList.zipIdx 0).foldl (fun cs x => cs.setIfInBounds x.2 x.1) W := by
    have e : sz = X.zipIdx.size := by rw [Array.size_zipIdx, hX]
    rw [e, ← Array.foldl_toList, Array.toList_zipIdx]
  have eY : ∀ W' : Array Value, Array.foldl (fun cs x => cs.setIfInBounds (sz + x.2) x.1) W' Y.zipIdx 0 sz = (Y.toList.zipIdx sz).foldl (fun cs x => cs.setIfInBounds x.2 x.1) W' := fun W' => by
    have e : Array.foldl (fun cs x => cs.setIfInBounds (sz + x.2) x.1) W' Y.zipIdx 0 sz = Array.foldl (fun cs x => cs.setIfInBounds (sz + x.2) x.1) W' Y.zipIdx 0 Y.zipIdx.size := by rw [Array.size_zipIdx, hY]
    rw [e, ← Array.foldl_toList, Array.toList_zipIdx, foldl_shift]; rfl
  have hs : ∀ (l : List (Value × Nat)) (W' : Array Value), (l.foldl (fun cs x => cs.setIfInBounds x.2 x.1) W').size = W'.size := by
    intro l
    induction l with
    | nil => intro W'; rfl
    | cons x r ih => intro W'; rw [List.foldl_cons, ih]; simp
  have h1 : ((X.toList.zipIdx 0).foldl (fun cs x => cs.setIfInBounds x.2 x.1) W).size = 2 * sz := by rw [hs, hW]
  refine ⟨?_, by rw [eX, h1]⟩
  rw [eX, eY]
  apply Array.ext_getElem?
  intro i
  rw [foldl_laidE Y.toList sz _ i (by rw [h1, Array.length_toList]; omega), Array.length_toList, hY]
  by_cases c : sz ≤ i ∧ i < sz + sz
  · rw [if_pos c, Array.getElem?_append_right (by omega), hX]; simp
  · rw [if_neg c, foldl_laidE X.toList 0 W i (by rw [Array.length_toList]; omega), Array.length_toList, hX]
    by_cases c2 : i < sz
    · rw [if_pos (by omega), Array.getElem?_append_left (by omega)]; simp
    · rw [if_neg (by omega), Array.getElem?_eq_none (by omega), Array.getElem?_eq_none (by rw [Array.size_append]; omega)]

theorem buildEl2 {P : Program} {t e : TypeId} {Z X Y : Array Value} {sz : Nat} (ht : P.underlying t = some (.slice e)) (hz : ∀ w, (zeroValue e).run P w = .ok (.agg Z) w) (hi : (P.info? e).map (·.size) = some sz) (hZ : Z.size = sz) (hX : X.size = sz) (hY : Y.size = sz) (h0 : 0 < sz) (h24 : sz ≤ 8000000) (u : World) :
    (Instr.buildSlice t 2 #[(0, .agg X), (1, .agg Y)]).run P u = .ok (.slice (some ⟨u.heap.size, 0, none⟩) 2 2) (u.alloc (.cells (X ++ Y) e)) := by
  obtain ⟨i, hi1, hi2⟩ : ∃ i, P.info? e = some i ∧ i.size = sz := by
    cases h : P.info? e with
    | none => simp [h] at hi
    | some i => exact ⟨i, rfl, by simpa [h] using hi⟩
  have hso : ∀ w, (sizeOf e).run P w = .ok sz w := fun w => by simp [sizeOf, typeInfo, hi1, hi2]
  simp [Instr.buildSlice, Instr.fill, go_sem, hz, hX, hY, hZ, Value.cells, run_underlying ht, hso]
  obtain ⟨e1, e2⟩ := fold_two (W := Array.map (fun x => Z[x % sz]!) (Array.range (2 * sz))) hX hY (by simp)
  rw [if_neg (by omega), if_neg (by omega), if_neg (by omega), e1, e2, if_neg (by omega)]
  simp [go_sem]
end

/-! ScA -/
section
set_option linter.unusedVariables false
set_option linter.unusedSimpArgs false
open Go.RowKit

/-- Two operations in a new row. -/
theorem elV_two {P Q : Value → Prop} {w : World} {X Y : Array Value} {d e : OpD} (hX : OpIn P w X d) (hY : OpIn Q w Y e) (t : TypeId) :
    ElV OpIn 446 (w.alloc (.cells (X ++ Y) t)) (.slice (some ⟨w.heap.size, 0, none⟩) 2 2) [d, e] := by
  have hb := (Below.refl w.heap.size w).alloc (Nat.le_refl _) (.cells (X ++ Y) t)
  have hB : Blk (w.alloc (.cells (X ++ Y) t)) w.heap.size (X ++ Y) := Blk.new rfl
  refine ⟨_, _, rfl, by unfold maxLen; simp, .inr ⟨_, 0, rfl, hB.lt, [X, Y], ?_, rfl, fun p hp => ?_⟩⟩
  · have e : (X ++ Y).toList = rowsL [X, Y] := by simp [rowsL]
    rw [← e]; exact hB.range
  · simp only [List.zip_cons_cons, List.zip_nil_left, List.mem_cons, List.not_mem_nil, or_false] at hp
    rcases hp with rfl | rfl
    · exact opE.mono (opE.below hX hb) fun _ _ => trivial
    · exact opE.mono (opE.below hY hb) fun _ _ => trivial

def tickD : OpD := kOp 1
def crashD : OpD := { kOp 8 with w := 2, p := 5 }
def bytes4 : List Int := [1, 8, 2, 5]
theorem by_tick : opBy tickD = [1] := by decide +kernel
theorem by_crash : opBy crashD = [8, 2, 5] := by decide +kernel
theorem err_tick : opErr tickD = 0 := by
  rw [opErr_code, if_neg (by simp [fldE, tickD, kOp]), if_pos ((keep_wo _).2 (show SameD tickD (keepD tickD) from SameD.rfl' _))]
theorem err_crash : opErr crashD = 0 := by
  rw [opErr_code, if_neg (by simp [fldE, crashD, kOp]), if_pos ((keep_wo _).2 (show SameD crashD (keepD crashD) from SameD.rfl' _))]
theorem crash_ok : crashD.ok := by
  have := kOp_ok (k := 8) (by unfold i64R; omega)
  exact ⟨this.1, this.2.1, this.2.2.1, this.2.2.2.1, this.2.2.2.2.1, this.2.2.2.2.2.1, this.2.2.2.2.2.2.1, by show i64R 2; unfold i64R; omega, by show i64R 5; unfold i64R; omega⟩
theorem crash_in (w : World) : OpIn (fun _ => True) w (flatP (crashD.parts nilV nilV nilV nilV)) crashD :=
  ⟨nilV, nilV, nilV, nilV, rfl, crash_ok, ⟨intsV_nil _, trivial⟩, ⟨intsV_nil _, trivial⟩, ⟨intsV_nil _, trivial⟩, ⟨numsV_nil _, trivial⟩⟩
theorem tick_in (w : World) : OpIn (fun _ => True) w (flatP (tickD.parts nilV nilV nilV nilV)) tickD := opE.mono (kOp_in (k := 1) (by unfold i64R; omega) 0 w) fun _ _ => trivial
theorem good_two : GoodL [tickD, crashD] where
  small := by
    intro d hd
    simp only [List.mem_cons, List.not_mem_nil, or_false] at hd
    rcases hd with rfl | rfl
    · exact ⟨by show (0 : Nat) ≤ _; omega, by show (0 : Nat) ≤ _; omega, by show (0 : Nat) ≤ _; omega, by show (0 : Nat) ≤ _; omega⟩
    · exact ⟨by show (0 : Nat) ≤ _; omega, by show (0 : Nat) ≤ _; omega, by show (0 : Nat) ≤ _; omega, by show (0 : Nat) ≤ _; omega⟩
  fits := by
    intro k hk _
    match k, hk with
    | 0, _ => simp [opsBy]
    | 1, _ => simp [opsBy, by_tick]
    | 2, _ => simp [opsBy, by_tick, by_crash]
theorem err_two : opsErr [tickD, crashD] = 0 := by
  rw [opsErr, if_neg (by rw [err_tick]; simp), opsErr, if_neg (by rw [err_crash]; simp), opsErr]
theorem by_two : opsBy [tickD, crashD] = bytes4 := by simp [opsBy, by_tick, by_crash, bytes4]
set_option maxRecDepth 1000000 in
theorem dop4 : (dopT bytes4).2 = (4, 0) ∧ (dopT bytes4).1.length = 2 ∧ ((dopT bytes4).1[1]?.map (·.p)) = some 5 := by
  refine ⟨by decide +kernel, by decide +kernel, by decide +kernel⟩
set_option maxRecDepth 1000000 in
theorem bz_crash (w : World) : (Instr.build 48 #[(0, .int .i64 8), (6, .int .i64 2), (7, .int .i64 5)]).run Try.prog w = .ok (.agg (flatP (crashD.parts nilV nilV nilV nilV))) w := by kernel_rfl
set_option maxRecDepth 1000000 in
theorem bz_tick (w : World) : (Instr.build 48 #[(0, .int .i64 1)]).run Try.prog w = .ok (.agg (flatP (tickD.parts nilV nilV nilV nilV))) w := by kernel_rfl

theorem list_two {α : Type} {l : List α} (h : l.length = 2) : ∃ a b, l = [a, b] := by
  match l, h with
  | [a, b], _ => exact ⟨a, b, rfl⟩

set_option maxRecDepth 100000 in
set_option maxHeartbeats 1000000 in
theorem awake6 (w : World) : Calls Try.prog 7 #[] w fun e w' => e = .returned (.bool true) ∧ Below w.heap.size w w' := by
  have hX1 := (tick_in w).size
  have hX2 := (crash_in w).size
  have HV := Lib.hid (elV_two (tick_in w) (crash_in w) 48)
  have BT := Lib.hid bz_tick
  have BC := Lib.hid bz_crash
  obtain ⟨X1, h1⟩ : ∃ X, flatP (tickD.parts nilV nilV nilV nilV) = X := ⟨_, rfl⟩
  obtain ⟨X2, h2⟩ : ∃ X, flatP (crashD.parts nilV nilV nilV nilV) = X := ⟨_, rfl⟩
  rw [h1] at hX1 HV BT
  rw [h2] at hX2 HV BC
  clear h1 h2
  have BB := Lib.hid (fun u => buildEl2 (P := Try.prog) Try.underlying56 zop_run info_op (OpD.size (kOp_ok (k := 0) (by unfold i64R; omega)) _ _ _ _) hX1 hX2 (by omega) (by omega) u)
  have DE : Hid (Calls Try.prog 8 #[.slice (some ⟨w.heap.size, 0, none⟩) 2 2] (w.alloc (.cells (X1 ++ X2) 48)) (EncR (w.alloc (.cells (X1 ++ X2) 48)) 0 bytes4)) := by
    have := enc_any _ _ _ HV.out good_two
    unfold EncL at this
    rw [if_neg (by simp), err_two, by_two] at this
    exact this
  obtain ⟨T, hT⟩ : ∃ T, dopT bytes4 = T := ⟨_, rfl⟩
  obtain ⟨d1, d2, d3⟩ := dop4
  have DD : Hid (∀ v u, Byt u v bytes4 → Calls Try.prog 12 #[v] u (DecR u T)) := fun v u h => by rw [← hT]; exact sdec_any v bytes4 u h (by decide)
  rw [hT] at d1 d2 d3
  clear hT
  obtain ⟨T1, T2⟩ := T
  simp only at d1 d2 d3
  subst d1
  obtain ⟨y1, y2, rfl⟩ := list_two d2
  have hp := Lib.hid (by simpa using d3 : y2.p = 5)
  clear d2 d3
  unfold DecR at DD
  have HB0 := Lib.hid ((Below.refl w.heap.size w).alloc (Nat.le_refl _) (.cells (X1 ++ X2) 48))
  obtain ⟨S4, HS4⟩ : ∃ S4, Hid (strOfNums bytes4 = S4) := ⟨_, rfl⟩
  clear hX1 hX2 HV
  go_enter Try.func7, Try.ntmps7
  go_wp2_with (first
    | ((with_reducible refine at_build (some 6) ?_); refine wpList_build rfl 48 _ rfl #[(0, .int .i64 1)] (by simp [Act.eval]) (.agg X1) (BT.out _) ?_)
    | ((with_reducible refine at_build (some 7) ?_); refine wpList_build rfl 48 _ rfl #[(0, .int .i64 8), (6, .int .i64 2), (7, .int .i64 5)] (by simp [Act.eval]) (.agg X2) (BC.out _) ?_)
    | ((with_reducible refine at_buildSliceE (some 8) ?_); refine wpList_buildSliceE rfl 56 2 _ rfl #[(0, .agg X1), (1, .agg X2)] (by simp [Act.eval, Act.put]) _ (BB.out _) ?_)
    | (go_at_call 8; refine DE.out.mono ?_; rintro en w1 ⟨v1, rfl, hy1, hb1⟩; rw [if_pos rfl] at hy1; obtain ⟨a1, l1, c1, rfl⟩ := hy1.shape; have HY1 := Lib.hid hy1; have HB1 := Lib.hid (HB0.out.trans (hb1.mono HB0.out.size)); clear hy1 hb1)
    | (go_at_call 12; refine (DD.out _ _ HY1.out).mono ?_; rintro en w2 ⟨v2, rfl, hv2, hb2⟩; have HV2 := Lib.hid (by simpa using hv2 : ElV OpIn 446 w2 v2 [y1, y2]); have HY2 := Lib.hid (HY1.out.below hb2); have HB2 := Lib.hid (HB1.out.trans (hb2.mono HB1.out.size)); clear hv2 hb2; obtain ⟨a2, c2, rfl, _⟩ := HV2.out.shape; obtain ⟨xb, xo, Y, e9, hl9, hxl, hr, hYO, hY0, hY1⟩ := HV2.out.at opE (i := 1) (by simp); subst e9; have hcell := (by
        obtain ⟨v1', v2', v3', v4', eY, ok, _⟩ := hYO
        have h1 := hr 445 (.int .i64 5) (by
          rw [eY, flatP, ← hp.out]
          have h2 := op_offs ok v1' v2' v3' v4' 7
          have h3 := flatP_split (ps := y2.parts v1' v2' v3' v4') (k := 7) (p := [.int .i64 y2.p]) rfl
          have h4 : ((y2.parts v1' v2' v3' v4').take 7).flatten.length = 445 := h2
          show (y2.parts v1' v2' v3' v4').flatten[445]? = _
          rw [h3, List.getElem?_append_right (by omega), h4]; rfl)
        exact h1 : w2.cell? ⟨xb, xo + 1 * 446 + 445, none⟩ = some (.int .i64 5)); have HCELL := Lib.hid hcell; have hc1 : (convert 51 9 (.slice a1 l1 c1)).run Try.prog w2 = .ok (.string S4) w2 := (by rw [← HS4.out]; exact conv_any HY2.out); have hc2 : ∀ t, (convert 51 9 (.slice (some ⟨w2.heap.size, 0, none⟩) 4 4)).run Try.prog (w2.alloc (.cells #[.int .u8 1, .int .u8 8, .int .u8 2, .int .u8 5] t)) = .ok (.string S4) (w2.alloc (.cells #[.int .u8 1, .int .u8 8, .int .u8 2, .int .u8 5] t)) := (by intro t; rw [← HS4.out]; exact conv_any (Byt.of_blk (xs := bytes4) (Blk.new rfl) (by unfold maxLen bytes4; simp) (by simp [bytes4]))); have hxb := hxl; have hcl := hcell; clear hr hYO hY0 hY1 hl9 hcell hxl HCELL))
  go_ret
  exact ⟨rfl, HB2.out.alloc HB2.out.size _⟩
end

/-! ScG -/
section
set_option linter.unusedVariables false
set_option linter.unusedSimpArgs false
open Go.RowKit

set_option maxRecDepth 100000 in
set_option maxHeartbeats 8000000 in
theorem sops_any (v1 v2 : Value) (ds : List OpD) (w : World) (h1 : ElV OpIn 446 w v1 ds) (h2 : ElV OpIn 446 w v2 ds) :
    Calls Try.prog 16 #[v1, v2] w fun e w' => e = .returned (.bool true) ∧ Below w.heap.size w w' := by
  obtain ⟨a1, c1, rfl, hm⟩ := h1.shape
  obtain ⟨a2, c2, rfl, _⟩ := h2.shape
  unfold maxLen at hm
  obtain ⟨n, hn⟩ : ∃ n, Hid (ds.length = n) := ⟨_, rfl⟩
  rw [hn.out] at h1 h2 hm ⊢
  have H1 := Lib.hid h1
  have H2 := Lib.hid h2
  clear h1 h2
  have hnn : ((n : Int) != (n : Int)) = false := by simp
  go_enter Try.func16, Try.ntmps16
  go_wp2_with fail
  go_loopw [5] (fun i wr => ∃ k : Nat, k ≤ n ∧ i = .int .i64 k ∧ Below w.heap.size w wr) (fun i _ => n - (intOf i).toNat)
  case atStart => exact ⟨0, Nat.zero_le _, rfl, Below.refl _ _⟩
  case round =>
    obtain ⟨k, hk, rfl, hb⟩ := hrel
    have HB := Lib.hid hb
    by_cases hlt : k < n
    · obtain ⟨b1, o1, X, rfl, _, hl1, hr1, hX, hX0, hX1⟩ := (H1.out.below opE hb).at opE (i := k) (by rw [hn.out]; exact hlt)
      obtain ⟨b2, o2, Y, rfl, _, hl2, hr2, hY, hY0, hY1⟩ := (H2.out.below opE hb).at opE (i := k) (by rw [hn.out]; exact hlt)
      have HX : Hid (∀ u, Below wr.heap.size wr u → u.rangeAt b1 (o1 + k * 446) X.toList) := fun u hu => Below.rng hu hl1 hr1
      have HY : Hid (∀ u, Below wr.heap.size wr u → u.rangeAt b2 (o2 + k * 446) Y.toList) := fun u hu => Below.rng hu hl2 hr2
      have DC : Hid (∀ u, Below wr.heap.size wr u → Calls Try.prog 20 #[.agg X, .agg Y] u fun e w' => e = .returned (.bool true) ∧ Below u.heap.size u w') := fun u hu =>
        (sop_any _ _ X Y ds[k] ds[k] u (opE.below hX hu) (opE.below hY hu)).mono fun e w' h => tells_true h (SameD.rfl' _)
      have HIX : Hid ((Try.prog.info? 48).map (·.size) = some X.toList.length) := by show _ = _; rw [Array.length_toList, hX0]; exact info_op
      have HIY : Hid ((Try.prog.info? 48).map (·.size) = some Y.toList.length) := by show _ = _; rw [Array.length_toList, hY0]; exact info_op
      obtain ⟨XL, hXL⟩ : ∃ L, X.toList = L := ⟨_, rfl⟩
      obtain ⟨YL, hYL⟩ : ∃ L, Y.toList = L := ⟨_, rfl⟩
      have eX : X = XL.toArray := by rw [← hXL]
      have eY : Y = YL.toArray := by rw [← hYL]
      rw [hXL] at HX HIX
      rw [hYL] at HY HIY
      rw [eX, eY] at DC
      clear hr1 hr2 hX hX0 hX1 hY hY0 hY1 hXL hYL eX eY hl1 hl2 hb X Y
      go_wp2_with fail
      refine wp_region_fam2 (by kernel_rfl) (by kernel_rfl) ?_
      intro T F hT hF hG
      have CX : ∀ u, (∃ t, u = F t) → u.rangeAt b1 (o1 + k * 446) XL := by rintro _ ⟨t, rfl⟩; exact HX.out _ (hF t)
      have CY : ∀ u, (∃ t, u = F t) → u.rangeAt b2 (o2 + k * 446) YL := by rintro _ ⟨t, rfl⟩; exact HY.out _ (hF t)
      repeat (first
        | ((with_reducible refine at_qload (.tmp 19) ?_); refine wpQuiet_load_midE 48 _ rfl b1 (o1 + k * 446) rfl XL CX Try.underlying48 rfl HIX.out (by kernel_rfl) ?_; simp only [Act.put, List.setIfInBounds_toArray, List.set_cons_succ, List.set_cons_zero])
        | ((with_reducible refine at_qload (.tmp 23) ?_); refine wpQuiet_load_midE 48 _ rfl b2 (o2 + k * 446) rfl YL CY Try.underlying48 rfl HIY.out (by kernel_rfl) ?_; simp only [Act.put, List.setIfInBounds_toArray, List.set_cons_succ, List.set_cons_zero])
        | (go_big_quiet_step ((go_at_call 20; exact fam_call hF hG (Nat.le_refl _) (DC.out _ (hF _))))))
      refine wpQuiet_nil ?_
      rintro _ ⟨t, rfl⟩
      have HB1 := Lib.hid (belT HB.out (hF t))
      obtain ⟨wv, hwv⟩ : ∃ v, F t = v := ⟨_, rfl⟩
      rw [hwv] at HB1
      rw [hwv]
      clear CX CY hF hG hT hwv HB HX HY DC
      clear t F T
      go_wp2_with fail
      exact ⟨⟨k + 1, hlt, by go_num, HB1.out⟩, by simp [intOf]; omega⟩
    · obtain rfl : k = n := by omega
      clear hb
      go_wp2_with fail
      go_ret
      exact ⟨rfl, HB.out⟩
end

/-! L6d -/
section
set_option linter.unusedVariables false
set_option linter.unusedSimpArgs false
open Go.RowKit

set_option maxRecDepth 100000 in
set_option maxHeartbeats 4000000 in
theorem sdec_walk (a1 : Option Addr) (n1 c1 : Nat) (bs : List Int) (w : World) (hY : Byt w (.slice a1 n1 c1) bs) :
    Calls Try.prog 4 #[.slice a1 n1 c1] w fun e w' => e = .returned (.bool true) ∧ Below w.heap.size w w' := by
  obtain ⟨_, _, _, e', htl, hm1, _⟩ := hY.ints
  cases e'
  unfold maxLen at hm1
  have DA := Lib.hid awake6
  by_cases h2 : n1 ≤ 2000
  case neg =>
    have h2' : 2000 < n1 := by omega
    clear h2 htl hY
    go_enter Try.func4, Try.ntmps4
    go_wp2_with (go_at_call 7; refine (DA.out _).mono ?_; rintro e u1 ⟨rfl, hb1⟩)
    go_ret
    exact ⟨rfl, hb1⟩
  have hlb : bs.length ≤ 20604 := by omega
  have D1 : Hid (∀ u, Below w.heap.size w u → Calls Try.prog 12 #[.slice a1 n1 c1] u (DecR u (dopT bs))) := fun u hu => sdec_any _ bs u (hY.below hu) hlb
  have D2 : Hid (∀ u, Below w.heap.size w u → Calls Try.prog 13 #[.slice a1 n1 c1] u (DecR u (dopT bs))) := fun u hu => rdec_any _ bs u (hY.below hu) hlb
  have D3 : Hid (∀ u, Below w.heap.size w u → Calls Try.prog 14 #[.slice a1 n1 c1] u (PreR u (dopT bs))) := fun u hu => spre_any _ bs u (hY.below hu) hlb
  have D4 : Hid (∀ u, Below w.heap.size w u → Calls Try.prog 15 #[.slice a1 n1 c1] u (PreR u (dopT bs))) := fun u hu => rpre_any _ bs u (hY.below hu) hlb
  obtain ⟨T1, T2, T3, hT⟩ : ∃ T1 T2 T3, dopT bs = (T1, T2, T3) := ⟨_, _, _, rfl⟩
  rw [hT] at D1 D2 D3 D4
  unfold DecR at D1 D2
  unfold PreR at D3 D4
  obtain ⟨T0, hT0⟩ : ∃ T0, (if T3 ≠ 0 then [] else T1) = T0 := ⟨_, rfl⟩
  simp only [hT0] at D1 D2
  simp only at D3 D4
  have HB0 := Lib.hid (Below.refl w.heap.size w)
  have e1 : (T3 == T3) = true := by simp
  have e2 : ((T2 : Int) == (T2 : Int)) = true := by simp
  clear hT hT0 hY htl hlb
  go_enter Try.func4, Try.ntmps4
  go_wp2_with (first
    | (go_at_call 12; refine (D1.out _ HB0.out).mono ?_; rintro e w1 ⟨v1, rfl, hv, hb⟩; have V1 := Lib.hid hv; have HB1 := Lib.hid (HB0.out.trans (hb.mono HB0.out.size)); clear hv hb)
    | (go_at_call 13; refine (D2.out _ HB1.out).mono ?_; rintro e w2 ⟨v2, rfl, hv, hb⟩; have V1b := Lib.hid (V1.out.below opE hb); have V2 := Lib.hid hv; have HB2 := Lib.hid (HB1.out.trans (hb.mono HB1.out.size)); clear hv hb)
    | (go_at_call 14; refine (D3.out _ HB2.out).mono ?_; rintro e w3 ⟨v3, rfl, hv, hb⟩; have V1c := Lib.hid (V1b.out.below opE hb); have V2c := Lib.hid (V2.out.below opE hb); have V3 := Lib.hid hv; have HB3 := Lib.hid (HB2.out.trans (hb.mono HB2.out.size)); clear hv hb)
    | (go_at_call 15; refine (D4.out _ HB3.out).mono ?_; rintro e w4 ⟨v4, rfl, hv, hb⟩; have V1d := Lib.hid (V1c.out.below opE hb); have V2d := Lib.hid (V2c.out.below opE hb); have V3d := Lib.hid (V3.out.below opE hb); have V4 := Lib.hid hv; have HB4 := Lib.hid (HB3.out.trans (hb.mono HB3.out.size)); clear hv hb)
    | (go_at_call 16; refine (sops_any v3 v4 _ _ V3e.out V4e.out).mono ?_; rintro e w6 ⟨rfl, hb⟩; have HB6 := Lib.hid (HB5.out.trans (hb.mono HB5.out.size)); clear hb)
    | (go_at_call 16; refine (sops_any v1 v2 _ _ V1d.out V2d.out).mono ?_; rintro e w5 ⟨rfl, hb⟩; have V3e := Lib.hid (V3d.out.below opE hb); have V4e := Lib.hid (V4.out.below opE hb); have HB5 := Lib.hid (HB4.out.trans (hb.mono HB4.out.size)); clear hb)
    | (go_at_call 7; refine (DA.out _).mono ?_; rintro e w7 ⟨rfl, hb7⟩))
  go_ret
  exact ⟨rfl, HB6.out.trans (hb7.mono HB6.out.size)⟩

theorem walk_ScriptDecodes (a0 : Option Addr) (len0 cap0 : Nat) (z0 : List Int) (w : World) (w0 : IsRow .u8 w a0 len0 cap0 z0) :
    Calls Try.prog 4 #[.slice a0 len0 cap0] w fun e w' => e = .returned (.bool true) ∧ Below w.heap.size w w' :=
  sdec_walk a0 len0 cap0 _ w w0.byt
end

end Go.Proofs.Ytmnojgdfbhdkhaa
