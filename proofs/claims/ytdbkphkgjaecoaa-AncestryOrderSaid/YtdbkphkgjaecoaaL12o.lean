/- AncestryOrder. (Written by gen/l12o-gen.py.) -/
import Derived.Test.YtdbkphkgjaecoaaAnF
import Derived.Deep.CutRange
set_option linter.unusedVariables false

set_option linter.unusedSimpArgs false
namespace Go.Proofs.Ytdbkphkgjaecoaa
open Go.RowKit

set_option maxRecDepth 100000

theorem selK_up (p : Nat → Bool) : ∀ k, (selK p k).Pairwise (· < ·)
  | 0 => List.Pairwise.nil
  | k + 1 => by
    cases h : p k
    · rw [selK_no h]; exact selK_up p k
    · rw [selK_yes h, List.pairwise_append]
      refine ⟨selK_up p k, List.pairwise_singleton _ _, fun x hx y hy => ?_⟩
      rw [List.mem_singleton.1 hy]
      exact (selK_rng p k x hx).2

theorem desc_mem {ns : List NdD} {p : Int} {q : Nat} (hq : q < ns.length) : (q : Int) ∈ descN ns p ↔ p ∈ pathN ns (q : Int) := by
  unfold descN
  rw [selK_mem]
  constructor
  · rintro ⟨j, _, h2, h3⟩
    rw [h2]; exact of_decide_eq_true h3
  · exact fun h => ⟨q, hq, rfl, decide_eq_true h⟩

def OrI (w : World) (bt : Nat) (s dv : Value) (ns : List NdD) (L : List Int) (q : Int) (fv iv : Value) (wr : World) : Prop :=
  ∃ k : Nat, k ≤ L.length ∧ iv = .int .i64 k ∧ fv = .bool (decide (q ∈ L.take k)) ∧ IntsV wr dv L ∧ AnS w bt s ns wr

set_option maxHeartbeats 32000000 in
theorem walk_AncestryOrder (a0 : Option Addr) (len0 cap0 : Nat) (z0 : List Int) (a1 : Int) (a2 : Int) (a3 : Int) (w : World) (w0 : IsRow .i64 w a0 len0 cap0 z0) (w1 : (Lit.int .i64 a1).wf = true) (w2 : (Lit.int .i64 a2).wf = true) (w3 : (Lit.int .i64 a3).wf = true) :
    Calls Try.prog 6 #[.slice a0 len0 cap0, .int .i64 a1, .int .i64 a2, .int .i64 a3] w fun e w' => e = .returned (.bool true) ∧ Below w.heap.size w w' := by
  have HTR := Lib.hid (fun u (hu : Below w.heap.size w u) => tree_any (.slice a0 len0 cap0) _ u ((rowInts w0).below hu))
  have HAW := Lib.hid awake12_any
  have hi1 : (Try.prog.info? 25).map (·.size) = some 1 := by kernel_rfl
  obtain ⟨hz1, hst1⟩ := zero_array (P := Try.prog) (t := 25) (n := 1) #[.slice none 0 0] (by kernel_rfl) rfl (by kernel_rfl)
  clear w0 hst1
  go_enter Try.func6, Try.ntmps6
  go_upto_region 2 with (first
    | (go_at_call 9; refine (HTR.out _ (Below.refl _ _)).mono ?_; rintro e w1 ⟨v1, ns, rfl, hn1, hc1, hok, hl9, hb1⟩; obtain ⟨va, vc, rfl, _⟩ := hn1.shape; have HN1 := Lib.hid hn1; have HOK := Lib.hid hok; have HL9 := Lib.hid hl9; have HB1 := Lib.hid hb1; clear hn1 hc1 hok hl9 hb1)
    | ((with_reducible refine at_store (.tmp 9) ?_); refine wpList_store_blk rfl 25 (.tmp 9) _ rfl w1.heap.size #[.slice va ns.length vc] rfl rfl #[.slice none 0 0] (Blk.new rfl) rfl hi1 (by simp [Value.oneCell']) ?_; intro w2 U2 B2; have hb2 := U2.below ((Below.refl w1.heap.size w1).alloc (Nat.le_refl _) (.cells #[.slice none 0 0] 25)) (Nat.le_refl _); have S2 : Hid (AnS w w1.heap.size (.slice va ns.length vc) ns w2) := ⟨B2, HN1.out.call hb2, HB1.out.trans (hb2.mono HB1.out.size)⟩; clear U2 B2 hb2))
  obtain ⟨bt, hbt⟩ : ∃ x, w1.heap.size = x := ⟨_, rfl⟩
  rw [hbt] at S2 ⊢
  have hnl : ns.length ≤ 100000 := by have := HL9.out; omega
  have HNL := Lib.hid hnl
  have HMP : Hid (0 < ns.length) := HOK.out.pos
  have HIA := Lib.hid (fun (x y : Int) u (hu : AnS w bt (.slice va ns.length vc) ns u) => anis_any ns HOK.out x y (.slice va ns.length vc) u hu.n)
  have HDE := Lib.hid (fun (x : Int) u (hu : AnS w bt (.slice va ns.length vc) ns u) => ande_any ns HOK.out HNL.out x (.slice va ns.length vc) u hu.n)
  obtain ⟨m, hm⟩ : ∃ m, Hid (ns.length = m) := ⟨_, Lib.hid rfl⟩
  rw [hm.out] at S2 HL9 HMP HIA HDE ⊢
  have hm9 : m ≤ 9 := HL9.out
  have hm1 : 0 < m := HMP.out
  clear hbt HN1 HB1 hnl
  (try simp only [Act.put])
  obtain ⟨P, hlP, hP⟩ := i64_and16_nat a1
  obtain ⟨p, hp⟩ : ∃ x, P % m = x := ⟨_, rfl⟩
  have hrp : Int.tmod (P : Int) (m : Int) = (p : Int) := by rw [tmod_nat, hp]
  have hmp : p < m := by rw [← hp]; exact Nat.mod_lt _ hm1
  clear hp
  obtain ⟨Q, hlQ, hQ⟩ := i64_and16_nat a2
  obtain ⟨q, hq⟩ : ∃ x, Q % m = x := ⟨_, rfl⟩
  have hrq : Int.tmod (Q : Int) (m : Int) = (q : Int) := by rw [tmod_nat, hq]
  have hmq : q < m := by rw [← hq]; exact Nat.mod_lt _ hm1
  clear hq
  obtain ⟨R, hlR, hR⟩ := i64_and16_nat a3
  obtain ⟨r, hr⟩ : ∃ x, R % m = x := ⟨_, rfl⟩
  have hrr : Int.tmod (R : Int) (m : Int) = (r : Int) := by rw [tmod_nat, hr]
  have hmr : r < m := by rw [← hr]; exact Nat.mod_lt _ hm1
  clear hr
  have hpn : p < ns.length := by rw [hm.out]; exact hmp
  have hqn : q < ns.length := by rw [hm.out]; exact hmq
  have hrn : r < ns.length := by rw [hm.out]; exact hmr
  have hpm : (p : Int) < m := by omega
  have hqm : (q : Int) < m := by omega
  have hrm : (r : Int) < m := by omega
  have hm0 : ((m : Int) == 0) = false := by simp; omega
  have hm0' : ¬ (m : Int) = 0 := by omega
  obtain ⟨ia, hia⟩ : ∃ f : Int → Int → Bool, (fun x y => decide (x ∈ pathN ns y)) = f := ⟨_, rfl⟩
  have HF : Hid (∀ x y, decide (x ∈ pathN ns y) = ia x y) := fun x y => by rw [← hia]
  have H1 : Hid (∀ (x y : Int) u, AnS w bt (.slice va m vc) ns u → Calls Try.prog 13 #[.agg #[.slice va m vc], .int .i64 x, .int .i64 y] u fun e w' => e = .returned (.bool (ia x y)) ∧ Below u.heap.size u w') := fun x y u hu => by
    have h := HIA.out x y u hu
    rw [HF.out x y] at h
    exact h
  have hpp : ia (p : Int) (p : Int) = true := by rw [← HF.out]; exact decide_eq_true (path_self HOK.out hpn)
  have h0p : ia 0 (p : Int) = true := by rw [← HF.out]; exact decide_eq_true (path_root HOK.out p hpn)
  have HTR2 : Hid (ia (p : Int) (q : Int) = true → ia (q : Int) (r : Int) = true → ia (p : Int) (r : Int) = true) := fun h1 h2 => by
    rw [← HF.out] at h1 h2 ⊢
    exact decide_eq_true (path_trans HOK.out r hrn (of_decide_eq_true h1) (of_decide_eq_true h2))
  have HAS : Hid (ia (p : Int) (q : Int) = true → p ≠ q → ia (q : Int) (p : Int) = false) := fun h1 h2 => by
    rw [← HF.out] at h1 ⊢
    refine decide_eq_false fun h3 => h2 ?_
    have := path_le HOK.out (of_decide_eq_true h1)
    have := path_le HOK.out h3
    omega
  have HPQ : Hid (p = q → ia (p : Int) (q : Int) = true) := fun h => by subst h; exact hpp
  have HCM : Hid (ia (p : Int) (r : Int) = true → ia (q : Int) (r : Int) = true → ia (p : Int) (q : Int) = false → ia (q : Int) (p : Int) = true) := fun h1 h2 h3 => by
    rw [← HF.out] at h1 h2 h3 ⊢
    refine decide_eq_true ?_
    rcases Int.le_total (p : Int) (q : Int) with h | h
    · exact absurd (path_cmp HOK.out r hrn (of_decide_eq_true h1) (of_decide_eq_true h2) h) (of_decide_eq_false h3)
    · exact path_cmp HOK.out r hrn (of_decide_eq_true h2) (of_decide_eq_true h1) h
  have HDX : Hid (decide ((q : Int) ∈ descN ns (p : Int)) = ia (p : Int) (q : Int)) := by
    show _ = _
    rw [← HF.out]
    exact decide_eq_decide.2 (desc_mem hqn)
  have HDL : Hid ((descN ns (p : Int)).length ≤ m) := by show _ ≤ _; rw [← hm.out]; exact selK_len _ _
  have HDR : Hid (∀ x ∈ descN ns (p : Int), 0 ≤ x ∧ x < m) := fun x hx => by have := selK_rng _ _ x hx; rw [← hm.out]; exact this
  have HDU : Hid ((descN ns (p : Int)).Pairwise (· < ·)) := selK_up _ _
  have HDE1 := Lib.hid (HDE.out (p : Int))
  obtain ⟨L, hL⟩ : ∃ L, descN ns (p : Int) = L := ⟨_, rfl⟩
  rw [hL] at HDX HDL HDR HDU HDE1
  clear hia HIA hL HDE
  refine wp_region_fam2 (by kernel_rfl) (by kernel_rfl) ?_
  intro T F hT hF hG
  have c0 : ∀ t, (F t).cell? ⟨bt, 0, none⟩ = some (.slice va m vc) := fun t => (S2.out.call (hF t)).t.cell 0
  have CT := Lib.hid (show ∀ u, (∃ t, u = F t) → Blk u bt #[.slice va m vc] by rintro _ ⟨t, rfl⟩; exact (S2.out.call (hF t)).t)
  repeat (first
    | ((with_reducible refine at_qload (.tmp 9) ?_); refine wpQuiet_load 25 _ rfl bt rfl #[.slice va m vc] CT.out Try.underlying25 rfl hi1 (by kernel_rfl) ?_; simp only [Act.put, List.setIfInBounds_toArray, List.set_cons_succ, List.set_cons_zero])
    | (go_big_quiet_step (fail)))
  refine wpQuiet_nil ?_
  rintro _ ⟨t, rfl⟩
  have S3 := Lib.hid (S2.out.call (hF t))
  obtain ⟨uS3, hu⟩ : ∃ z, F t = z := ⟨_, rfl⟩
  rw [hu] at S3 ⊢
  clear c0 CT hG hu hF hT
  clear t F T
  go_wp2_with fail
  refine wp_region_fam2 (by kernel_rfl) (by kernel_rfl) ?_
  intro T F hT hF hG
  have c0 : ∀ t, (F t).cell? ⟨bt, 0, none⟩ = some (.slice va m vc) := fun t => (S3.out.call (hF t)).t.cell 0
  have CT := Lib.hid (show ∀ u, (∃ t, u = F t) → Blk u bt #[.slice va m vc] by rintro _ ⟨t, rfl⟩; exact (S3.out.call (hF t)).t)
  repeat (first
    | ((with_reducible refine at_qload (.tmp 9) ?_); refine wpQuiet_load 25 _ rfl bt rfl #[.slice va m vc] CT.out Try.underlying25 rfl hi1 (by kernel_rfl) ?_; simp only [Act.put, List.setIfInBounds_toArray, List.set_cons_succ, List.set_cons_zero])
    | (go_big_quiet_step ((go_at_call 13; exact fam_call hF hG (Nat.le_refl _) (H1.out _ _ (F _) (S3.out.call (hF _)))))))
  refine wpQuiet_nil ?_
  rintro _ ⟨t, rfl⟩
  have S4 := Lib.hid (S3.out.call (hF t))
  obtain ⟨uS4, hu⟩ : ∃ z, F t = z := ⟨_, rfl⟩
  rw [hu] at S4 ⊢
  clear c0 CT hG hu hF hT
  clear t F T
  obtain ⟨x, hx⟩ : ∃ x, ia (p : Int) (q : Int) = x := ⟨_, rfl⟩
  obtain ⟨y, hy⟩ : ∃ y, ia (q : Int) (r : Int) = y := ⟨_, rfl⟩
  obtain ⟨z, hz⟩ : ∃ z, ia (p : Int) (r : Int) = z := ⟨_, rfl⟩
  obtain ⟨t, ht⟩ : ∃ t, ia (q : Int) (p : Int) = t := ⟨_, rfl⟩
  rw [hx, hy, hz] at HTR2
  rw [hx, ht] at HAS
  rw [hx] at HPQ HDX
  rw [hx, hy, hz, ht] at HCM
  rw [hx, hy]
  have S := S4
  clear S2 S3 S4 hx hy
  (try simp only [Act.put])
  go_upto_region 4 with fail
  go_cut [80] from 43 to 80 (fun v wx => v = .bool false ∧ AnS w bt (.slice va m vc) ns wx)
  case first =>
    have hcs : (x = true ∧ y = true ∧ z = true ∧ (p = q ∨ (p ≠ q ∧ t = false))) ∨ (x = true ∧ y = false ∧ (p = q ∨ (p ≠ q ∧ t = false))) ∨ (x = false ∧ p ≠ q) := by
      have h1 := HTR2.out; have h2 := HAS.out; have h3 := HPQ.out
      clear hz ht
      by_cases hpq : p = q
      · have := h3 hpq
        subst this
        cases y
        · exact .inr (.inl ⟨rfl, rfl, .inl hpq⟩)
        · exact .inl ⟨rfl, rfl, h1 rfl rfl, .inl hpq⟩
      · cases x
        · exact .inr (.inr ⟨rfl, hpq⟩)
        · cases y
          · exact .inr (.inl ⟨rfl, rfl, .inr ⟨hpq, h2 rfl hpq⟩⟩)
          · exact .inl ⟨rfl, rfl, h1 rfl rfl, .inr ⟨hpq, h2 rfl hpq⟩⟩
    clear HTR2 HAS HPQ HCM
    rcases hcs with ⟨hx, hy, hz2, hc⟩ | ⟨hx, hy, hc⟩ | ⟨hx, hpq⟩
    · subst hx hy hz2
      rcases hc with hpq | ⟨hpq, ht2⟩
      · have hpq1 : ((p : Int) != (q : Int)) = false := by simp; omega
        clear hpq
        go_wp2_with (first
          | ((with_reducible refine at_load (.tmp 9) ?_); refine wpList_load_g 25 (.tmp 9) rfl bt rfl #[.slice va m vc] _ S.out.t Try.underlying25 rfl hi1 rfl ?_)
          | (go_at_call 13; refine (H1.out _ _ _ S.out).mono ?_; rintro e w6 ⟨rfl, hb⟩; have S := Lib.hid (S.out.call hb); clear hb; (try rw [hpp]); (try rw [h0p]); (try rw [hz]); (try rw [ht])))
        go_meet
        case rel => exact ⟨rfl, S.out⟩
      · subst ht2
        have hpq1 : ((p : Int) != (q : Int)) = true := by simp; omega
        clear hpq
        go_wp2_with (first
          | ((with_reducible refine at_load (.tmp 9) ?_); refine wpList_load_g 25 (.tmp 9) rfl bt rfl #[.slice va m vc] _ S.out.t Try.underlying25 rfl hi1 rfl ?_)
          | (go_at_call 13; refine (H1.out _ _ _ S.out).mono ?_; rintro e w6 ⟨rfl, hb⟩; have S := Lib.hid (S.out.call hb); clear hb; (try rw [hpp]); (try rw [h0p]); (try rw [hz]); (try rw [ht])))
        go_meet
        case rel => exact ⟨rfl, S.out⟩
    · subst hx hy
      rcases hc with hpq | ⟨hpq, ht2⟩
      · have hpq1 : ((p : Int) != (q : Int)) = false := by simp; omega
        clear hpq
        go_wp2_with (first
          | ((with_reducible refine at_load (.tmp 9) ?_); refine wpList_load_g 25 (.tmp 9) rfl bt rfl #[.slice va m vc] _ S.out.t Try.underlying25 rfl hi1 rfl ?_)
          | (go_at_call 13; refine (H1.out _ _ _ S.out).mono ?_; rintro e w6 ⟨rfl, hb⟩; have S := Lib.hid (S.out.call hb); clear hb; (try rw [hpp]); (try rw [h0p]); (try rw [hz]); (try rw [ht])))
        go_meet
        case rel => exact ⟨rfl, S.out⟩
      · subst ht2
        have hpq1 : ((p : Int) != (q : Int)) = true := by simp; omega
        clear hpq
        go_wp2_with (first
          | ((with_reducible refine at_load (.tmp 9) ?_); refine wpList_load_g 25 (.tmp 9) rfl bt rfl #[.slice va m vc] _ S.out.t Try.underlying25 rfl hi1 rfl ?_)
          | (go_at_call 13; refine (H1.out _ _ _ S.out).mono ?_; rintro e w6 ⟨rfl, hb⟩; have S := Lib.hid (S.out.call hb); clear hb; (try rw [hpp]); (try rw [h0p]); (try rw [hz]); (try rw [ht])))
        go_meet
        case rel => exact ⟨rfl, S.out⟩
    · subst hx
      have hpq1 : ((p : Int) != (q : Int)) = true := by simp; omega
      clear hpq
      go_wp2_with (first
        | ((with_reducible refine at_load (.tmp 9) ?_); refine wpList_load_g 25 (.tmp 9) rfl bt rfl #[.slice va m vc] _ S.out.t Try.underlying25 rfl hi1 rfl ?_)
        | (go_at_call 13; refine (H1.out _ _ _ S.out).mono ?_; rintro e w6 ⟨rfl, hb⟩; have S := Lib.hid (S.out.call hb); clear hb; (try rw [hpp]); (try rw [h0p]); (try rw [hz]); (try rw [ht])))
      go_meet
      case rel => exact ⟨rfl, S.out⟩
  case rest =>
    obtain ⟨rfl, hs5⟩ := hcut
    have S := Lib.hid hs5
    clear hs5 HTR2 HAS HPQ hpp h0p
    (try simp only [Act.put])
    go_upto_region 6 with fail
    go_cut [98] from 81 to 98 (fun v wx => v = .bool false ∧ AnS w bt (.slice va m vc) ns wx)
    case first =>
      have hcs : z = false ∨ (z = true ∧ y = false) ∨ (z = true ∧ y = true ∧ x = true) ∨ (z = true ∧ y = true ∧ x = false ∧ t = true) := by
        have h4 := HCM.out
        clear hz ht
        cases z
        · exact .inl rfl
        · cases y
          · exact .inr (.inl ⟨rfl, rfl⟩)
          · cases x
            · exact .inr (.inr (.inr ⟨rfl, rfl, rfl, h4 rfl rfl rfl⟩))
            · exact .inr (.inr (.inl ⟨rfl, rfl, rfl⟩))
      clear HCM
      rcases hcs with h1 | ⟨h1, h2⟩ | ⟨h1, h2, h3⟩ | ⟨h1, h2, h3, h4⟩
      · subst h1
        go_wp2_with (first
          | ((with_reducible refine at_load (.tmp 9) ?_); refine wpList_load_g 25 (.tmp 9) rfl bt rfl #[.slice va m vc] _ S.out.t Try.underlying25 rfl hi1 rfl ?_)
          | (go_at_call 13; refine (H1.out _ _ _ S.out).mono ?_; rintro e w6 ⟨rfl, hb⟩; have S := Lib.hid (S.out.call hb); clear hb; (try rw [hpp]); (try rw [h0p]); (try rw [hz]); (try rw [ht])))
        go_meet
        case rel => exact ⟨rfl, S.out⟩
      · subst h1 h2
        go_wp2_with (first
          | ((with_reducible refine at_load (.tmp 9) ?_); refine wpList_load_g 25 (.tmp 9) rfl bt rfl #[.slice va m vc] _ S.out.t Try.underlying25 rfl hi1 rfl ?_)
          | (go_at_call 13; refine (H1.out _ _ _ S.out).mono ?_; rintro e w6 ⟨rfl, hb⟩; have S := Lib.hid (S.out.call hb); clear hb; (try rw [hpp]); (try rw [h0p]); (try rw [hz]); (try rw [ht])))
        go_meet
        case rel => exact ⟨rfl, S.out⟩
      · subst h1 h2 h3
        go_wp2_with (first
          | ((with_reducible refine at_load (.tmp 9) ?_); refine wpList_load_g 25 (.tmp 9) rfl bt rfl #[.slice va m vc] _ S.out.t Try.underlying25 rfl hi1 rfl ?_)
          | (go_at_call 13; refine (H1.out _ _ _ S.out).mono ?_; rintro e w6 ⟨rfl, hb⟩; have S := Lib.hid (S.out.call hb); clear hb; (try rw [hpp]); (try rw [h0p]); (try rw [hz]); (try rw [ht])))
        go_meet
        case rel => exact ⟨rfl, S.out⟩
      · subst h1 h2 h3 h4
        go_wp2_with (first
          | ((with_reducible refine at_load (.tmp 9) ?_); refine wpList_load_g 25 (.tmp 9) rfl bt rfl #[.slice va m vc] _ S.out.t Try.underlying25 rfl hi1 rfl ?_)
          | (go_at_call 13; refine (H1.out _ _ _ S.out).mono ?_; rintro e w6 ⟨rfl, hb⟩; have S := Lib.hid (S.out.call hb); clear hb; (try rw [hpp]); (try rw [h0p]); (try rw [hz]); (try rw [ht])))
        go_meet
        case rel => exact ⟨rfl, S.out⟩
    case rest =>
    obtain ⟨rfl, hs5⟩ := hcut
    have S5 := Lib.hid hs5
    clear hs5 S hz ht HCM
    (try simp only [Act.put])
    have hdl : L.length ≤ 9 := by have := HDL.out; omega
    go_wp2_with (first
      | ((with_reducible refine at_load (.tmp 9) ?_); refine wpList_load_g 25 (.tmp 9) rfl bt rfl #[.slice va m vc] _ S5.out.t Try.underlying25 rfl hi1 rfl ?_)
      | (go_at_call 15; refine (HDE1.out _ S5.out).mono ?_; rintro e w6 ⟨v6, rfl, ho6, hb⟩; obtain ⟨da, dc, rfl, _⟩ := ho6.cap; have HI6 : Hid (IntsV w6 (.slice da L.length dc) L) := ⟨ho6.ints (by unfold maxLen; omega), fun x hx => by have := HDR.out x hx; omega⟩; have S6 := Lib.hid (S5.out.call hb); clear hb ho6))
    go_loopw [13, 14] (fun fv iv wr => OrI w bt (.slice va m vc) (.slice da L.length dc) ns L (q : Int) fv iv wr) (fun _ iv _ => L.length - (intOf iv).toNat)
    case atStart => exact ⟨0, Nat.zero_le _, rfl, by simp, HI6.out, S6.out⟩
    case round =>
      obtain ⟨k, hk, rfl, rfl, hi, hs⟩ := hrel
      have HI7 := Lib.hid hi
      have S7 := Lib.hid hs
      clear hi hs S6 HI6
      by_cases hlt : k < L.length
      case neg =>
        obtain rfl : k = L.length := by omega
        have hkk : ((L.length : Int) < (L.length : Int)) = False := eq_false (by omega)
        have HFV : Hid (decide ((q : Int) ∈ L.take L.length) = x) := by show _ = x; rw [List.take_length]; exact HDX.out
        rw [HFV.out]
        have hxx : (x == x) = true := by simp
        obtain ⟨n, hn⟩ : ∃ n, L.length = n := ⟨_, rfl⟩
        rw [hn] at hkk HI7 ⊢
        clear hn hlt hk hdl
        go_wp2_with (first
          | (go_at_call 19; refine (HAW.out _).mono ?_; rintro e w9 ⟨rfl, hb⟩; have S9 := Lib.hid (S7.out.call hb); clear hb))
        go_ret
        exact ⟨rfl, S9.out.b⟩
      have hlt' : (k : Int) < L.length := by omega
      have HMT := Lib.hid (fun y => mem_take_succ (l := L) hlt (y := y))
      obtain ⟨db, doff, rfl, hdb, hce⟩ := HI7.out.at hlt
      have HCE := Lib.hid hce
      have hgk : L.getD k 0 = L[k] := by simp [List.getD, hlt]
      have hpw : ∀ j, (hj : j < k) → L[j]'(by omega) < L[k] := fun j hj => List.pairwise_iff_getElem.1 HDU.out j k (by omega) hlt hj
      have HPW : Hid (∀ j, j + 1 = k → ¬ L.getD k 0 ≤ L.getD j 0) := fun j hj => by
        have := hpw j (by omega)
        rw [hgk, show L.getD j 0 = L[j]'(by omega) by simp [List.getD, show j < L.length by omega]]
        omega
      have HCJ := Lib.hid (fun j (hj : j < L.length) => (HI7.out.at hj))
      obtain ⟨d, hd⟩ : ∃ d, L.getD k 0 = d := ⟨_, rfl⟩
      rw [hd] at HCE HMT HPW
      obtain ⟨n, hn⟩ : ∃ n, L.length = n := ⟨_, rfl⟩
      rw [hn] at hlt' HI7 hlt hk HCJ hdl ⊢
      have HN := Lib.hid hn
      clear hce hgk hpw hd hdb hn
      obtain ⟨f, hf⟩ : ∃ f, decide ((q : Int) ∈ L.take k) = f := ⟨_, rfl⟩
      have HFF := Lib.hid hf
      rw [hf]
      clear hf
      have HNF : Hid (decide ((q : Int) ∈ L.take (k + 1)) = (f || (d == (q : Int)))) := by
        show _ = _
        rw [← HFF.out]
        apply Bool.eq_iff_iff.2
        rw [decide_eq_true_iff, HMT.out, Bool.or_eq_true, decide_eq_true_iff, beq_iff_eq]
        exact ⟨fun h => h.imp id Eq.symm, fun h => h.imp id Eq.symm⟩
      obtain ⟨g, hg⟩ : ∃ g, (d == (q : Int)) = g := ⟨_, rfl⟩
      rw [hg] at HNF
      cases f
      case false =>
        go_upto_region 14 with (first
          | ((with_reducible refine at_load (.tmp 112) ?_); refine wpList_load_1 3 (.tmp 112) rfl db (doff + k) (.int .i64 d) HCE.out rfl _ Try.underlying3 rfl rfl ?_))
        (try simp only [Act.put])
        by_cases hk0 : k = 0
        · subst hk0
          refine wp_region_fam2 (by kernel_rfl) (by kernel_rfl) ?_
          intro T F hT hF hG
          repeat (go_big_quiet_step (fail))
          refine wpQuiet_nil ?_
          rintro _ ⟨t, rfl⟩
          have S8 := Lib.hid (S7.out.call (hF t))
          have HI8 := Lib.hid (HI7.out.below (hF t))
          go_wp2_with fail
          go_roundw
          case rel => exact ⟨1, by rw [HN.out]; omega, by go_num, by rw [show (1 : Nat) = 0 + 1 from rfl, HNF.out]; first | rfl | simp, by first | exact HI8.out | (rw [HN.out]; exact HI8.out), S8.out⟩
          case measure => simp [intOf]; omega
        · obtain ⟨j, rfl⟩ : ∃ j, k = j + 1 := ⟨k - 1, by omega⟩
          obtain ⟨db', doff', he', hdb', hcj⟩ := HCJ.out j (by omega)
          cases he'
          have hle := HPW.out j rfl
          obtain ⟨c, hc⟩ : ∃ c, L.getD j 0 = c := ⟨_, rfl⟩
          rw [hc] at hcj hle
          have HCJ1 := Lib.hid hcj
          have hle' : (d ≤ c) = False := eq_false hle
          have hled : decide (d ≤ c) = false := decide_eq_false hle
          have hjm : ((j + 1 : Nat) : Int) - 1 = (j : Int) := by omega
          have hjn : (j : Int) < n := by omega
          have hj0 : (0 : Int) < ((j + 1 : Nat) : Int) := by omega
          obtain ⟨jj, hjj⟩ : ∃ x : Int, ((j + 1 : Nat) : Int) = x := ⟨_, rfl⟩
          have HJJ := Lib.hid hjj
          have HCE1 : Hid (wr.cell? ⟨db, doff + (j + 1), none⟩ = some (.int .i64 d)) := HCE.out
          clear hc hcj hle hk0 hjj
          refine wp_region_fam2 (by kernel_rfl) (by kernel_rfl) ?_
          intro T F hT hF hG
          have c1 : ∀ t, (F t).cell? ⟨db, doff + (j + 1), none⟩ = some (.int .i64 d) := fun t => ((hF t).cell (p := ⟨db, doff + (j + 1), none⟩) hdb').trans HCE1.out
          have c2 : ∀ t, (F t).cell? ⟨db, doff + j, none⟩ = some (.int .i64 c) := fun t => ((hF t).cell (p := ⟨db, doff + j, none⟩) hdb').trans HCJ1.out
          repeat (go_big_quiet_step (fail))
          refine wpQuiet_nil ?_
          rintro _ ⟨t, rfl⟩
          have S8 := Lib.hid (S7.out.call (hF t))
          have HI8 := Lib.hid (HI7.out.below (hF t))
          go_wp2_with fail
          go_roundw
          case rel => exact ⟨j + 1 + 1, by rw [HN.out]; omega, by go_num, by rw [HNF.out]; first | rfl | simp, by first | exact HI8.out | (rw [HN.out]; exact HI8.out), S8.out⟩
          case measure => simp [intOf]; omega
      case true =>
        go_upto_region 14 with (first
          | ((with_reducible refine at_load (.tmp 112) ?_); refine wpList_load_1 3 (.tmp 112) rfl db (doff + k) (.int .i64 d) HCE.out rfl _ Try.underlying3 rfl rfl ?_))
        (try simp only [Act.put])
        by_cases hk0 : k = 0
        · subst hk0
          refine wp_region_fam2 (by kernel_rfl) (by kernel_rfl) ?_
          intro T F hT hF hG
          repeat (go_big_quiet_step (fail))
          refine wpQuiet_nil ?_
          rintro _ ⟨t, rfl⟩
          have S8 := Lib.hid (S7.out.call (hF t))
          have HI8 := Lib.hid (HI7.out.below (hF t))
          go_wp2_with fail
          go_roundw
          case rel => exact ⟨1, by rw [HN.out]; omega, by go_num, by rw [show (1 : Nat) = 0 + 1 from rfl, HNF.out]; first | rfl | simp, by first | exact HI8.out | (rw [HN.out]; exact HI8.out), S8.out⟩
          case measure => simp [intOf]; omega
        · obtain ⟨j, rfl⟩ : ∃ j, k = j + 1 := ⟨k - 1, by omega⟩
          obtain ⟨db', doff', he', hdb', hcj⟩ := HCJ.out j (by omega)
          cases he'
          have hle := HPW.out j rfl
          obtain ⟨c, hc⟩ : ∃ c, L.getD j 0 = c := ⟨_, rfl⟩
          rw [hc] at hcj hle
          have HCJ1 := Lib.hid hcj
          have hle' : (d ≤ c) = False := eq_false hle
          have hled : decide (d ≤ c) = false := decide_eq_false hle
          have hjm : ((j + 1 : Nat) : Int) - 1 = (j : Int) := by omega
          have hjn : (j : Int) < n := by omega
          have hj0 : (0 : Int) < ((j + 1 : Nat) : Int) := by omega
          obtain ⟨jj, hjj⟩ : ∃ x : Int, ((j + 1 : Nat) : Int) = x := ⟨_, rfl⟩
          have HJJ := Lib.hid hjj
          have HCE1 : Hid (wr.cell? ⟨db, doff + (j + 1), none⟩ = some (.int .i64 d)) := HCE.out
          clear hc hcj hle hk0 hjj
          refine wp_region_fam2 (by kernel_rfl) (by kernel_rfl) ?_
          intro T F hT hF hG
          have c1 : ∀ t, (F t).cell? ⟨db, doff + (j + 1), none⟩ = some (.int .i64 d) := fun t => ((hF t).cell (p := ⟨db, doff + (j + 1), none⟩) hdb').trans HCE1.out
          have c2 : ∀ t, (F t).cell? ⟨db, doff + j, none⟩ = some (.int .i64 c) := fun t => ((hF t).cell (p := ⟨db, doff + j, none⟩) hdb').trans HCJ1.out
          repeat (go_big_quiet_step (fail))
          refine wpQuiet_nil ?_
          rintro _ ⟨t, rfl⟩
          have S8 := Lib.hid (S7.out.call (hF t))
          have HI8 := Lib.hid (HI7.out.below (hF t))
          go_wp2_with fail
          go_roundw
          case rel => exact ⟨j + 1 + 1, by rw [HN.out]; omega, by go_num, by rw [HNF.out]; first | rfl | simp, by first | exact HI8.out | (rw [HN.out]; exact HI8.out), S8.out⟩
          case measure => simp [intOf]; omega
end Go.Proofs.Ytdbkphkgjaecoaa
