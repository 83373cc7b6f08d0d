/- AncestrySlots. (Written by gen/l12s-gen.py.) -/
import Derived.Test.YtdbkphkgjaecoaaAnE
set_option linter.unusedVariables false

set_option linter.unusedSimpArgs false
namespace Go.Proofs.Ytdbkphkgjaecoaa
open Go.RowKit

set_option maxRecDepth 100000

set_option maxHeartbeats 32000000 in
theorem walk_AncestrySlots (a0 : Option Addr) (len0 cap0 : Nat) (z0 : List Int) (a1 : Int) (a2 : Int) (w : World) (w0 : IsRow .i64 w a0 len0 cap0 z0) (w1 : (Lit.int .i64 a1).wf = true) (w2 : (Lit.int .u64 a2).wf = true) :
    Calls Try.prog 4 #[.slice a0 len0 cap0, .int .i64 a1, .int .u64 a2] w fun e w' => e = .returned (.bool true) ∧ Below w.heap.size w w' := by
  have HTR := Lib.hid (fun u (hu : Below w.heap.size w u) => tree_any (.slice a0 len0 cap0) _ u ((rowInts w0).below hu))
  have HAW := Lib.hid awake12_any
  have hi1 : (Try.prog.info? 25).map (·.size) = some 1 := by kernel_rfl
  obtain ⟨hz1, hst1⟩ := zero_array (P := Try.prog) (t := 25) (n := 1) #[.slice none 0 0] (by kernel_rfl) rfl (by kernel_rfl)
  clear w0 hst1
  go_enter Try.func4, Try.ntmps4
  go_upto_region 2 with (first
    | (go_at_call 9; refine (HTR.out _ (Below.refl _ _)).mono ?_; rintro e w1 ⟨v1, ns, rfl, hn1, hc1, hok, hl9, hb1⟩; obtain ⟨va, vc, rfl, _⟩ := hn1.shape; have HN1 := Lib.hid hn1; have HOK := Lib.hid hok; have HL9 := Lib.hid hl9; have HB1 := Lib.hid hb1; clear hn1 hc1 hok hl9 hb1)
    | ((with_reducible refine at_store (.tmp 7) ?_); refine wpList_store_blk rfl 25 (.tmp 7) _ rfl w1.heap.size #[.slice va ns.length vc] rfl rfl #[.slice none 0 0] (Blk.new rfl) rfl hi1 (by simp [Value.oneCell']) ?_; intro w2 U2 B2; have hb2 := U2.below ((Below.refl w1.heap.size w1).alloc (Nat.le_refl _) (.cells #[.slice none 0 0] 25)) (Nat.le_refl _); have S2 : Hid (AnS w w1.heap.size (.slice va ns.length vc) ns w2) := ⟨B2, HN1.out.call hb2, HB1.out.trans (hb2.mono HB1.out.size)⟩; clear U2 B2 hb2))
  obtain ⟨bt, hbt⟩ : ∃ x, w1.heap.size = x := ⟨_, rfl⟩
  rw [hbt] at S2 ⊢
  have hnl : ns.length ≤ 100000 := by have := HL9.out; omega
  have HNL := Lib.hid hnl
  have HMP : Hid (0 < ns.length) := HOK.out.pos
  have HAT := Lib.hid (fun (x s : Int) u (hu : AnS w bt (.slice va ns.length vc) ns u) => anat_any ns HOK.out x s (.slice va ns.length vc) u hu.n)
  have HRAT := Lib.hid (fun (x s : Int) u (hu : AnS w bt (.slice va ns.length vc) ns u) => rat_any ns HOK.out HNL.out x s (.slice va ns.length vc) u hu.n)
  obtain ⟨m, hm⟩ : ∃ m, Hid (ns.length = m) := ⟨_, Lib.hid rfl⟩
  rw [hm.out] at S2 HL9 HMP HAT HRAT ⊢
  have hm9 : m ≤ 9 := HL9.out
  have hm1 : 0 < m := HMP.out
  clear hbt HN1 HB1 hnl
  (try simp only [Act.put])
  obtain ⟨af, haf⟩ : ∃ f : Int → Int → Int, (fun x s => atP ns x s) = f := ⟨_, rfl⟩
  have HAF : Hid (∀ x s, atP ns x s = af x s) := fun x s => by rw [← haf]
  have H1 : Hid (∀ (x s : Int) u, AnS w bt (.slice va m vc) ns u → Calls Try.prog 20 #[.agg #[.slice va m vc], .int .i64 x, .int .u64 s] u fun e w' => e = .returned (.int .i64 (af x s)) ∧ Below u.heap.size u w') := fun x s u hu => by
    have h := HAT.out x s u hu
    rw [HAF.out x s] at h
    exact h
  have H2 : Hid (∀ (x s : Int) u, AnS w bt (.slice va m vc) ns u → Calls Try.prog 21 #[.agg #[.slice va m vc], .int .i64 x, .int .u64 s] u fun e w' => e = .returned (.int .i64 (af x s)) ∧ Below u.heap.size u w') := fun x s u hu => by
    have h := HRAT.out x s u hu
    rw [HAF.out x s] at h
    exact h
  obtain ⟨s31, hs31⟩ : ∃ x, bits .and .u64 a2 31 = x := ⟨_, rfl⟩
  clear haf HAT HRAT
  go_wp2_with fail
  go_loopw [8] (fun i wr => ∃ kk : Int, i = .int .i64 kk ∧ -1 ≤ kk ∧ kk ≤ m + 1 ∧ AnS w bt (.slice va m vc) ns wr) (fun i _ => (m + 1 - intOf i).toNat)
  case atStart => exact ⟨-1, rfl, by omega, by omega, S2.out⟩
  case round =>
    obtain ⟨kk, rfl, hk1, hk2, hs⟩ := hrel
    have S3 := Lib.hid hs
    clear hs S2
    by_cases hlt : kk ≤ (m : Int)
    case pos =>
      have hn1 : (af kk s31 != af kk s31) = false := by simp
      have hn2 : (af kk a2 != af kk a2) = false := by simp
      go_upto_region 5 with (first
        | ((with_reducible refine at_load (.tmp 12) ?_); refine wpList_load_1 23 (.tmp 12) rfl bt 0 (.slice va m vc) (S3.out.t.cell 0) rfl _ Try.underlying23 rfl rfl ?_))
      refine wp_region_fam2 (by kernel_rfl) (by kernel_rfl) ?_
      intro T F hT hF hG
      have c0 : ∀ t, (F t).cell? ⟨bt, 0, none⟩ = some (.slice va m vc) := fun t => (S3.out.call (hF t)).t.cell 0
      have CT := Lib.hid (show ∀ u, (∃ t, u = F t) → Blk u bt #[.slice va m vc] by rintro _ ⟨t, rfl⟩; exact (S3.out.call (hF t)).t)
      repeat (first
        | ((with_reducible refine at_qload (.tmp 7) ?_); refine wpQuiet_load 25 _ rfl bt rfl #[.slice va m vc] CT.out Try.underlying25 rfl hi1 (by kernel_rfl) ?_; simp only [Act.put, List.setIfInBounds_toArray, List.set_cons_succ, List.set_cons_zero])
        | (go_big_quiet_step (((first | (go_at_call 20; exact fam_call hF hG (Nat.le_refl _) (H1.out _ _ (F _) (S3.out.call (hF _)))) | (go_at_call 21; exact fam_call hF hG (Nat.le_refl _) (H2.out _ _ (F _) (S3.out.call (hF _)))))))))
      refine wpQuiet_nil ?_
      rintro _ ⟨t, rfl⟩
      have S4 := Lib.hid (S3.out.call (hF t))
      obtain ⟨uS4, hu⟩ : ∃ z, F t = z := ⟨_, rfl⟩
      rw [hu] at S4 ⊢
      clear c0 CT hG hu hF hT
      clear t F T
      go_wp2_with fail
      go_roundw
      case rel => exact ⟨kk + 1, by go_num, by omega, by omega, S4.out⟩
      case measure => simp [intOf]; omega
    case neg =>
      obtain rfl : kk = (m : Int) + 1 := by omega
      have hlt' : ((m : Int) + 1 ≤ (m : Int)) = False := eq_false hlt
      have hn1 : (af a1 a2 == af a1 a2) = true := by simp
      clear hlt
      go_upto_region 7 with (first
        | ((with_reducible refine at_load (.tmp 12) ?_); refine wpList_load_1 23 (.tmp 12) rfl bt 0 (.slice va m vc) (S3.out.t.cell 0) rfl _ Try.underlying23 rfl rfl ?_))
      refine wp_region_fam2 (by kernel_rfl) (by kernel_rfl) ?_
      intro T F hT hF hG
      have c0 : ∀ t, (F t).cell? ⟨bt, 0, none⟩ = some (.slice va m vc) := fun t => (S3.out.call (hF t)).t.cell 0
      have CT := Lib.hid (show ∀ u, (∃ t, u = F t) → Blk u bt #[.slice va m vc] by rintro _ ⟨t, rfl⟩; exact (S3.out.call (hF t)).t)
      repeat (first
        | ((with_reducible refine at_qload (.tmp 7) ?_); refine wpQuiet_load 25 _ rfl bt rfl #[.slice va m vc] CT.out Try.underlying25 rfl hi1 (by kernel_rfl) ?_; simp only [Act.put, List.setIfInBounds_toArray, List.set_cons_succ, List.set_cons_zero])
        | (go_big_quiet_step (((first | (go_at_call 20; exact fam_call hF hG (Nat.le_refl _) (H1.out _ _ (F _) (S3.out.call (hF _)))) | (go_at_call 21; exact fam_call hF hG (Nat.le_refl _) (H2.out _ _ (F _) (S3.out.call (hF _)))) | (go_at_call 19; exact fam_call hF hG (Nat.le_refl _) (HAW.out (F _))))))))
      refine wpQuiet_nil ?_
      rintro _ ⟨t, rfl⟩
      have S4 := Lib.hid (S3.out.call (hF t))
      obtain ⟨uS4, hu⟩ : ∃ z, F t = z := ⟨_, rfl⟩
      rw [hu] at S4 ⊢
      clear c0 CT hG hu hF hT
      clear t F T
      go_wp2_with fail
      go_ret
      exact ⟨rfl, S4.out.b⟩
end Go.Proofs.Ytdbkphkgjaecoaa
