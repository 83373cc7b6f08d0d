/- Stage 3: the walk of RootsOrder. -/
import Derived.Test.YtgleleccmpncnaaAwake3
import Derived.Deep.RegionWith
set_option linter.unusedVariables false
namespace Go.Proofs.Ytgleleccmpncnaa
open Go.RowKit

theorem cmpRV_any (xs ys : List Int) (hx : IsBytes 32 xs) (hy : IsBytes 32 ys) (w : World) :
    Calls Try.prog 19 #[.agg (bytesV xs), .agg (bytesV ys)] w fun e w' => e = .returned (.int .i64 (cmpB xs ys)) ∧ Below w.heap.size w w' := cmpR_any xs ys hx hy w

set_option maxRecDepth 100000 in
set_option maxHeartbeats 2000000 in
theorem order_any (xs ys zs : List Int) (hx : IsBytes 32 xs) (hy : IsBytes 32 ys) (hz : IsBytes 32 zs) (w : World) :
    Calls Try.prog 5 #[.agg (bytesV xs), .agg (bytesV ys), .agg (bytesV zs)] w fun e w' => e = .returned (.bool true) ∧ Below w.heap.size w w' := by
  have D1 := rcmpRt_any xs ys hx hy
  have D2 := rcmpRt_any ys zs hy hz
  have D3 := rcmpRt_any xs zs hx hz
  have D4 := rcmpRt_any ys xs hy hx
  have D5 := cmpRV_any xs ys hx hy
  have D6 := isZ_any xs hx
  have q1 := eq_root hx hy
  have q2 := eq_root hx zero32'_is
  have ean := cmpB_anti xs ys (by rw [hx.1, hy.1])
  have ez := cmpB_zero xs ys (by rw [hx.1, hy.1])
  have et := cmpB_trans xs ys zs (by rw [hx.1, hy.1]) (by rw [hy.1, hz.1])
  have r1 := cmpB_rng xs ys
  have r2 := cmpB_rng ys zs
  have r3 := cmpB_rng xs zs
  rw [ean] at D4
  have hs1 : (bytesV xs).size = 32 := bytesV_size hx.1
  have hs2 : (bytesV ys).size = 32 := bytesV_size hy.1
  have hs3 : (bytesV zs).size = 32 := bytesV_size hz.1
  obtain ⟨c1, hc1⟩ : ∃ c, cmpB xs ys = c := ⟨_, rfl⟩
  obtain ⟨c2, hc2⟩ : ∃ c, cmpB ys zs = c := ⟨_, rfl⟩
  obtain ⟨c3, hc3⟩ : ∃ c, cmpB xs zs = c := ⟨_, rfl⟩
  rw [hc1] at D1 D4 D5 ez et r1
  rw [hc2] at D2 et r2
  rw [hc3] at D3 et r3
  have hq : (c1 == 0) = decide (xs = ys) := by
    rw [Bool.eq_iff_iff]
    simp only [beq_iff_eq, decide_eq_true_eq]
    exact ez
  obtain ⟨p1, hp1⟩ : ∃ p, decide (xs = ys) = p := ⟨_, rfl⟩
  obtain ⟨p2, hp2⟩ : ∃ p, decide (xs = zero32') = p := ⟨_, rfl⟩
  rw [hp1] at q1 hq
  rw [hp2] at q2 D6
  obtain ⟨Z, hZ⟩ : ∃ Z, bytesV zero32' = Z := ⟨_, rfl⟩
  have hsz : Z.size = 32 := by rw [← hZ]; rfl
  obtain ⟨hz32, hst⟩ := zero_array (P := Try.prog) (t := 37) (n := 32) Z (by rw [← hZ]; kernel_rfl) hsz (by rw [← hZ]; kernel_rfl)
  obtain ⟨X, HX⟩ : ∃ X, bytesV xs = X := ⟨_, rfl⟩
  obtain ⟨Y, HY⟩ : ∃ X, bytesV ys = X := ⟨_, rfl⟩
  obtain ⟨U, HU⟩ : ∃ X, bytesV zs = X := ⟨_, rfl⟩
  rw [HX] at D1 D3 D4 D5 D6 q1 q2 hs1
  rw [HY] at D1 D2 D4 D5 q1 hs2
  rw [HU] at D2 D3 hs3
  rw [hZ] at q2
  rw [HX, HY, HU]
  clear HX HY HU hZ hst ean ez hp1 hp2 hc1 hc2 hc3
  have H1 := Lib.hid D1; clear D1
  have H2 := Lib.hid D2; clear D2
  have H3 := Lib.hid D3; clear D3
  have H4 := Lib.hid D4; clear D4
  have H5 := Lib.hid D5; clear D5
  have H6 := Lib.hid D6; clear D6
  have hneg : IntKind.i64.wrap (-c1) = -c1 := IntWalk.i64_in _ (by omega)
  obtain ⟨W, hW⟩ : ∃ W, ((w.alloc (.cells X 37)).alloc (.cells Y 37)).alloc (.cells U 37) = W := ⟨_, rfl⟩
  have BX : Hid (Blk (((w.alloc (.cells X 37)).alloc (.cells Y 37)).alloc (.cells U 37)) w.heap.size X) := ((Blk.new rfl).alloc _).alloc _
  have BY : Hid (Blk (((w.alloc (.cells X 37)).alloc (.cells Y 37)).alloc (.cells U 37)) (w.heap.size + 1) Y) := (Blk.new (by simp)).alloc _
  have BU : Hid (Blk (((w.alloc (.cells X 37)).alloc (.cells Y 37)).alloc (.cells U 37)) (w.heap.size + 1 + 1) U) := Blk.new (by simp)
  have HB : Hid (Below w.heap.size w (((w.alloc (.cells X 37)).alloc (.cells Y 37)).alloc (.cells U 37))) := (((Below.refl _ _).alloc (Nat.le_refl _) _).alloc (by simp) _).alloc (by simp; omega) _
  clear hW
  have hcase : (0 < c1) ∨ (c1 ≤ 0 ∧ 0 < c2) ∨ (c1 ≤ 0 ∧ c2 ≤ 0 ∧ c3 ≤ 0) := by
    rcases Int.lt_or_le 0 c1 with h | h
    · exact .inl h
    · rcases Int.lt_or_le 0 c2 with h' | h'
      · exact .inr (.inl ⟨h, h'⟩)
      · exact .inr (.inr ⟨h, h', et h h'⟩)
  clear et
  go_enter Try.func5, Try.ntmps5
  go_wp2_with fail
  refine wp_region_fam2 (by kernel_rfl) (by kernel_rfl) ?_
  intro T F hT hF hG
  have CX : ∀ u, (∃ t, u = F t) → Blk u w.heap.size X := by rintro _ ⟨t, rfl⟩; exact BX.out.call (hF t)
  have CY : ∀ u, (∃ t, u = F t) → Blk u (w.heap.size + 1) Y := by rintro _ ⟨t, rfl⟩; exact BY.out.call (hF t)
  have CU : ∀ u, (∃ t, u = F t) → Blk u (w.heap.size + 1 + 1) U := by rintro _ ⟨t, rfl⟩; exact BU.out.call (hF t)
  have I1 := (show (Try.prog.info? 37).map (·.size) = some X.size by rw [hs1]; kernel_rfl)
  have I2 := (show (Try.prog.info? 37).map (·.size) = some Y.size by rw [hs2]; kernel_rfl)
  have I3 := (show (Try.prog.info? 37).map (·.size) = some U.size by rw [hs3]; kernel_rfl)
  repeat (first
    | ((with_reducible refine at_qload (.tmp 3) ?_); refine wpQuiet_load 37 _ rfl w.heap.size rfl X CX Try.underlying37 rfl I1 (by kernel_rfl) ?_; simp only [Act.put, List.setIfInBounds_toArray, List.set_cons_succ, List.set_cons_zero])
    | ((with_reducible refine at_qload (.tmp 4) ?_); refine wpQuiet_load 37 _ rfl (w.heap.size + 1) rfl Y CY Try.underlying37 rfl I2 (by kernel_rfl) ?_; simp only [Act.put, List.setIfInBounds_toArray, List.set_cons_succ, List.set_cons_zero])
    | ((with_reducible refine at_qload (.tmp 5) ?_); refine wpQuiet_load 37 _ rfl (w.heap.size + 1 + 1) rfl U CU Try.underlying37 rfl I3 (by kernel_rfl) ?_; simp only [Act.put, List.setIfInBounds_toArray, List.set_cons_succ, List.set_cons_zero])
    | (go_big_quiet_step ((first
        | (go_at_call_of 20 U; first | (with_reducible exact fam_call hF hG (Nat.le_refl _) (H2.out _)) | (with_reducible exact fam_call hF hG (Nat.le_refl _) (H3.out _)))
        | (go_at_call 20; exact fam_call hF hG (Nat.le_refl _) (H1.out _))))))
  refine wpQuiet_nil ?_
  rintro _ ⟨t, rfl⟩
  have HB1 := Lib.hid (bel0 HB.out (hF t))
  have BX1 := Lib.hid (BX.out.call (hF t))
  have BY1 := Lib.hid (BY.out.call (hF t))
  obtain ⟨wv, hwv⟩ : ∃ v, F t = v := ⟨_, rfl⟩
  rw [hwv] at HB1 BX1 BY1
  rw [hwv]
  clear CX CY CU hF hG hT hwv BX BY BU HB I3 H1 H2 H3
  clear t F T
  rcases hcase with h | ⟨h, h'⟩ | ⟨h, h', h''⟩
  case' inl =>
    have hd1 : decide (c1 ≤ 0) = false := decide_eq_false (by omega)
  case' inr.inl =>
    have hd1 : decide (c1 ≤ 0) = true := decide_eq_true h
    have hd2 : decide (c2 ≤ 0) = false := decide_eq_false (by omega)
  case' inr.inr =>
    have hd1 : decide (c1 ≤ 0) = true := decide_eq_true h
    have hd2 : decide (c2 ≤ 0) = true := decide_eq_true h'
    have hd3 : decide (0 < c3) = false := decide_eq_false (by omega)
  all_goals
    go_wp2_with fail
    refine wp_region_fam2 (by kernel_rfl) (by kernel_rfl) ?_
    intro T F hT hF hG
    have CX : ∀ u, (∃ t, u = F t) → Blk u w.heap.size X := by rintro _ ⟨t, rfl⟩; exact BX1.out.call (hF t)
    have CY : ∀ u, (∃ t, u = F t) → Blk u (w.heap.size + 1) Y := by rintro _ ⟨t, rfl⟩; exact BY1.out.call (hF t)
    repeat (first
      | ((with_reducible refine at_qload (.tmp 3) ?_); refine wpQuiet_load 37 _ rfl w.heap.size rfl X CX Try.underlying37 rfl I1 (by kernel_rfl) ?_; simp only [Act.put, List.setIfInBounds_toArray, List.set_cons_succ, List.set_cons_zero])
      | ((with_reducible refine at_qload (.tmp 4) ?_); refine wpQuiet_load 37 _ rfl (w.heap.size + 1) rfl Y CY Try.underlying37 rfl I2 (by kernel_rfl) ?_; simp only [Act.put, List.setIfInBounds_toArray, List.set_cons_succ, List.set_cons_zero])
      | (go_big_quiet_step ((first
          | (go_at_call 19; exact fam_call hF hG (Nat.le_refl _) (H5.out _))
          | (go_at_call 20; exact fam_call hF hG (Nat.le_refl _) (H4.out _))
          | (go_at_call 21; exact fam_call hF hG (Nat.le_refl _) (H6.out _))
          | (go_at_call 22; exact fam_call hF hG (Nat.le_refl _) (awake3 _))))))
    refine wpQuiet_nil ?_
    rintro _ ⟨t, rfl⟩
    go_wp2_with fail
    go_ret
    exact ⟨rfl, bel0 HB1.out (hF t)⟩

theorem walk_RootsOrder (a0 a1 a2 : List Int) (w : World) (w0 : a0.length = 32 ∧ ∀ x ∈ a0, (Lit.int .u8 x).wf = true) (w1 : a1.length = 32 ∧ ∀ x ∈ a1, (Lit.int .u8 x).wf = true) (w2 : a2.length = 32 ∧ ∀ x ∈ a2, (Lit.int .u8 x).wf = true) :
    Calls Try.prog 5 #[.agg (a0.map (Value.int .u8)).toArray, .agg (a1.map (Value.int .u8)).toArray, .agg (a2.map (Value.int .u8)).toArray] w fun e w' => e = .returned (.bool true) ∧ Below w.heap.size w w' :=
  order_any a0 a1 a2 w0 w1 w2 w

end Go.Proofs.Ytgleleccmpncnaa
