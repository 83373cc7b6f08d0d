/- BalancesTables. -/
import Derived.Test.YtdfemompijhohaaBkE
set_option linter.unusedVariables false
set_option linter.unusedSimpArgs false
namespace Go.Proofs.Ytdfemompijhohaa
open Go.RowKit Go.Maps
set_option maxRecDepth 100000

set_option maxHeartbeats 8000000 in
theorem walk_BalancesTables (a0 : TbD) (l0 : List Int) (a1 : Int) (w : World) (w0 : a0.cp.ok) (u0 : NumsV w a0.v l0) (w1 : (Lit.int .i64 a1).wf = true) :
    Calls Try.prog 3 #[.agg (flatP a0.parts), .int .i64 a1] w fun e w' => e = .returned (.bool true) ∧ Below w.heap.size w w' := by
  obtain ⟨c, v⟩ := a0
  show Calls Try.prog 3 #[.agg (flatP [c.cells, [v]]), .int .i64 a1] w _
  have HV := Lib.hid (fun u (hu : NumsV u v l0) => vtab_any c v l0 a1 u w0 hu)
  have HR := Lib.hid (fun u (hu : NumsV u v l0) => rvtab_any c v l0 a1 u w0 hu)
  have HO := Lib.hid (tabOff w0 v)
  obtain ⟨E, hE⟩ : ∃ E, vtE a1 l0 = E := ⟨_, rfl⟩
  rw [hE] at HV HR
  clear hE
  obtain ⟨X, HX⟩ : ∃ X, Hid (flatP [c.cells, [v]] = X) := ⟨_, rfl⟩
  rw [HX.out] at HV HR ⊢
  have hX : X.size = 34 := by rw [← HX.out]; exact HO.out.2.2
  have hi : (Try.prog.info? 29).map (·.size) = some X.size := by rw [hX]; kernel_rfl
  have hba := (Below.refl w.heap.size w).alloc (Nat.le_refl _) (.cells X 29)
  have HI := Lib.hid (u0.below hba)
  have HBA := Lib.hid hba
  have HBX : Hid (Blk (w.alloc (.cells X 29)) w.heap.size X) := Blk.new rfl
  have HBP : Hid (Blk (w.alloc (.cells X 29)) w.heap.size (flatP [c.cells, [v]])) := by show Blk _ _ _; rw [HX.out]; exact Blk.new rfl
  obtain ⟨a, k, rfl, hm⟩ := u0.shape
  clear hba u0 w0 w1 HX
  have HA := Lib.hid awake7_any
  unfold maxLen at hm
  by_cases hlen : 300 < l0.length
  · have hlen' : (300 : Int) < l0.length := by omega
    go_enter Try.func3, Try.ntmps3
    go_wp2_with (first
      | ((with_reducible refine at_load (.tmp 5) ?_); refine wpList_load_1 27 (.tmp 5) rfl w.heap.size 33 (.slice a l0.length k) (HBP.out.cellAt (k := 1) rfl HO.out.2.1) rfl _ Try.underlying27 rfl rfl ?_)
      | (go_at_call 7; refine (HA.out _).mono ?_; rintro e w1 ⟨rfl, hb1⟩; have HB1 := Lib.hid (HBA.out.trans (hb1.mono HBA.out.size)); clear hb1))
    go_ret
    exact ⟨rfl, HB1.out⟩
  · have hlen' : ¬ (300 : Int) < l0.length := by omega
    go_enter Try.func3, Try.ntmps3
    go_wp2_with ((with_reducible refine at_load (.tmp 5) ?_); refine wpList_load_1 27 (.tmp 5) rfl w.heap.size 33 (.slice a l0.length k) (HBP.out.cellAt (k := 1) rfl HO.out.2.1) rfl _ Try.underlying27 rfl rfl ?_)
    refine wp_region_fam2 (by kernel_rfl) (by kernel_rfl) ?_
    intro T F hT hF hG
    have CX := Lib.hid (show ∀ u, (∃ t, u = F t) → Blk u w.heap.size X by rintro _ ⟨t, rfl⟩; exact HBX.out.call (hF t))
    have CV := Lib.hid (fun t => HV.out (F t) (HI.out.below (hF t)))
    have CR := Lib.hid (fun t => HR.out (F t) (HI.out.below (hF t)))
    repeat (first
      | ((with_reducible refine at_qload (.tmp 2) ?_); refine wpQuiet_load 29 _ rfl w.heap.size rfl X CX.out Try.underlying29 rfl hi (by kernel_rfl) ?_; simp only [Act.put, List.setIfInBounds_toArray, List.set_cons_succ, List.set_cons_zero])
      | (go_big_quiet_step ((first
          | (go_at_call 8; exact fam_call hF hG (Nat.le_refl _) (CV.out _))
          | (go_at_call 9; exact fam_call hF hG (Nat.le_refl _) (CR.out _))
          | (go_at_call 7; exact fam_call hF hG (Nat.le_refl _) (HA.out _))))))
    refine wpQuiet_nil ?_
    rintro _ ⟨t, rfl⟩
    have HF := Lib.hid (HBA.out.trans ((hF t).mono HBA.out.size))
    go_wp2_with fail
    go_ret
    exact ⟨rfl, HF.out⟩

end Go.Proofs.Ytdfemompijhohaa
