/- Several texts as one: L16y. -/
import Derived.Test.YtdmjpmigejpkmaaZ8
namespace Go.Proofs.Ytdmjpmigejpkmaa

/-! L16y -/
section
set_option linter.unusedVariables false
set_option linter.unusedSimpArgs false
open Go.RowKit

set_option maxRecDepth 100000

set_option maxHeartbeats 8000000 in
theorem walk_StatusAny (y0 : Value) (a0 : List NdD) (w : World) (w0 : NodesV w y0 a0) (u0 : CapOK y0) :
    Calls Try.prog 4 #[.agg #[y0]] w fun e w' => e = .returned (.bool true) ∧ Below w.heap.size w w' := by
  obtain ⟨a, cap, rfl, hmx⟩ := w0.shape
  unfold maxLen at hmx
  have HAW := Lib.hid awake16_any
  have HC := Lib.hid (fun u (hu : Below w.heap.size w u) => cclo_any _ a0 u (w0.call hu) u0)
  have HR := Lib.hid (fun u (hu : Below w.heap.size w u) => clo_any _ a0 u (w0.call hu) u0)
  have hi1 : (Try.prog.info? 25).map (·.size) = some 1 := by kernel_rfl
  obtain ⟨q, hq⟩ : ∃ q, cloN a0 = q := ⟨_, rfl⟩
  rw [hq] at HC HR
  obtain ⟨m, hm⟩ : ∃ m, a0.length = m := ⟨_, rfl⟩
  rw [hm] at hmx HC HR ⊢
  have S0 := Lib.hid (pas_new w #[.slice a m cap] 25)
  clear w0 u0 hq hm
  by_cases hbig : (60 : Int) < m
  · go_enter Try.func4, Try.ntmps4
    go_wp2_with (first
      | ((with_reducible refine at_load (.tmp 3) ?_); refine wpList_load_1 23 (.tmp 3) rfl w.heap.size 0 (.slice a m cap) (S0.out.t.cell 0) rfl _ Try.underlying23 rfl rfl ?_)
      | (go_at_call 12; refine (HAW.out _).mono ?_; rintro e w9 ⟨rfl, hb9⟩; have HB9 := Lib.hid (S0.out.b.trans (hb9.mono S0.out.b.size)); clear hb9))
    go_ret
    exact ⟨rfl, HB9.out⟩
  have hqq : (q == q) = true := by simp
  have hbig' : ((60 : Int) < m) = False := eq_false hbig
  clear hbig
  go_enter Try.func4, Try.ntmps4
  go_wp2_with (first
    | ((with_reducible refine at_load (.tmp 3) ?_); refine wpList_load_1 23 (.tmp 3) rfl w.heap.size 0 (.slice a m cap) (S0.out.t.cell 0) rfl _ Try.underlying23 rfl rfl ?_))
  refine wp_region_fam2 (by kernel_rfl) (by kernel_rfl) ?_
  intro T F hT hF hG
  have CT := Lib.hid (show ∀ u, (∃ t, u = F t) → Blk u w.heap.size #[.slice a m cap] by rintro _ ⟨t, rfl⟩; exact S0.out.t.call (hF t))
  have CB := Lib.hid (fun t => S0.out.b.trans ((hF t).mono S0.out.b.size))
  repeat (first
    | ((with_reducible refine at_qload (.tmp 1) ?_); refine wpQuiet_load 25 _ rfl w.heap.size rfl #[.slice a m cap] CT.out Try.underlying25 rfl hi1 (by kernel_rfl) ?_; simp only [Act.put, List.setIfInBounds_toArray, List.set_cons_succ, List.set_cons_zero])
    | (go_big_quiet_step ((first
        | (go_at_call 10; exact fam_call hF hG (Nat.le_refl _) (HC.out _ (CB.out _)))
        | (go_at_call 11; exact fam_call hF hG (Nat.le_refl _) (HR.out _ (CB.out _)))
        | (go_at_call 12; exact fam_call hF hG (Nat.le_refl _) (HAW.out _))))))
  refine wpQuiet_nil ?_
  rintro _ ⟨t, rfl⟩
  have HB9 := Lib.hid (CB.out t)
  go_wp2_with fail
  go_ret
  exact ⟨rfl, HB9.out⟩
end

end Go.Proofs.Ytdmjpmigejpkmaa
