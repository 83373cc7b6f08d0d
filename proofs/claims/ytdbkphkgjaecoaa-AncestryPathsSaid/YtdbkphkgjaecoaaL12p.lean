/- AncestryPaths. (Written by gen/l12p-gen.py.) -/
import Derived.Test.YtdbkphkgjaecoaaAnE
import Derived.Test.YtdbkphkgjaecoaaHeld4
import Derived.Test.YtdbkphkgjaecoaaHeldK
set_option linter.unusedVariables false

set_option linter.unusedSimpArgs false
namespace Go.Proofs.Ytdbkphkgjaecoaa
open Go.RowKit

set_option maxRecDepth 100000

def PaX (w : World) (bt : Nat) (s : Value) (ns : List NdD) (av bv : Value) (wx : World) : Prop :=
  ∃ A B : Int, av = .int .i64 A ∧ bv = .int .i64 B ∧ (-9223372036854775808 ≤ A ∧ A ≤ 9223372036854775807) ∧ AnS w bt s ns wx

set_option maxHeartbeats 32000000 in
theorem walk_AncestryPaths (a0 : Option Addr) (len0 cap0 : Nat) (z0 : List Int) (a1 : Int) (a2 : Int) (w : World) (w0 : IsRow .i64 w a0 len0 cap0 z0) (w1x : (Lit.int .i64 a1).wf = true) (w2 : (Lit.int .i64 a2).wf = true) :
    Calls Try.prog 3 #[.slice a0 len0 cap0, .int .i64 a1, .int .i64 a2] w fun e w' => e = .returned (.bool true) ∧ Below w.heap.size w w' := by
  have HTR := Lib.hid (fun u (hu : Below w.heap.size w u) => tree_any (.slice a0 len0 cap0) _ u ((rowInts w0).below hu))
  have HAW := Lib.hid awake12_any
  have hi1 : (Try.prog.info? 25).map (·.size) = some 1 := by kernel_rfl
  obtain ⟨hz1, hst1⟩ := zero_array (P := Try.prog) (t := 25) (n := 1) #[.slice none 0 0] (by kernel_rfl) rfl (by kernel_rfl)
  have HR1 := Lib.hid (wf_i64 w1x)
  clear w0 hst1
  go_enter Try.func3, Try.ntmps3
  go_upto_if 12 with (first
    | (go_at_call 9; refine (HTR.out _ (Below.refl _ _)).mono ?_; rintro e w1 ⟨v1, ns, rfl, hn1, hc1, hok, hl9, hb1⟩; obtain ⟨va, vc, rfl, _⟩ := hn1.shape; have HN1 := Lib.hid hn1; have HOK := Lib.hid hok; have HL9 := Lib.hid hl9; have HB1 := Lib.hid hb1; clear hn1 hc1 hok hl9 hb1)
    | ((with_reducible refine at_store (.tmp 7) ?_); refine wpList_store_blk rfl 25 (.tmp 7) _ rfl w1.heap.size #[.slice va ns.length vc] rfl rfl #[.slice none 0 0] (Blk.new rfl) rfl hi1 (by simp [Value.oneCell']) ?_; intro w2 U2 B2; have hb2 := U2.below ((Below.refl w1.heap.size w1).alloc (Nat.le_refl _) (.cells #[.slice none 0 0] 25)) (Nat.le_refl _); have S2 : Hid (AnS w w1.heap.size (.slice va ns.length vc) ns w2) := ⟨B2, HN1.out.call hb2, HB1.out.trans (hb2.mono HB1.out.size)⟩; clear U2 B2 hb2))
  obtain ⟨bt, hbt⟩ : ∃ x, w1.heap.size = x := ⟨_, rfl⟩
  rw [hbt] at S2 ⊢
  have hnl : ns.length ≤ 100000 := by have := HL9.out; omega
  have HNL := Lib.hid hnl
  have HMP : Hid (0 < ns.length) := HOK.out.pos
  have HIA := Lib.hid (fun (x y : Int) u (hu : AnS w bt (.slice va ns.length vc) ns u) => anis_any ns HOK.out x y (.slice va ns.length vc) u hu.n)
  have HRIA := Lib.hid (fun (x y : Int) u (hu : AnS w bt (.slice va ns.length vc) ns u) => isan_any ns HOK.out HNL.out x y (.slice va ns.length vc) u hu.n)
  have HHE := Lib.hid (fun (x y : Int) u (hu : AnS w bt (.slice va ns.length vc) ns u) => anhe_any ns HOK.out x y (.slice va ns.length vc) u hu.n)
  have HRHE := Lib.hid (fun (x y : Int) u (hu : AnS w bt (.slice va ns.length vc) ns u) => heir_any ns HOK.out HNL.out x y (.slice va ns.length vc) u hu.n)
  have HDE := Lib.hid (fun (x : Int) u (hu : AnS w bt (.slice va ns.length vc) ns u) => ande_any ns HOK.out HNL.out x (.slice va ns.length vc) u hu.n)
  have HRDE := Lib.hid (fun (x : Int) u (hu : AnS w bt (.slice va ns.length vc) ns u) => desc_any ns HOK.out HNL.out x (.slice va ns.length vc) u hu.n)
  have HPA := Lib.hid (fun (x : Int) (hx : -9223372036854775808 ≤ x ∧ x ≤ 9223372036854775807) u (hu : AnS w bt (.slice va ns.length vc) ns u) => anpa_any ns HOK.out HNL.out x hx (.slice va ns.length vc) u hu.n)
  have HRPA := Lib.hid (fun (x : Int) u (hu : AnS w bt (.slice va ns.length vc) ns u) => path_any ns HOK.out HNL.out x (.slice va ns.length vc) u hu.n)
  obtain ⟨m, hm⟩ : ∃ m, Hid (ns.length = m) := ⟨_, Lib.hid rfl⟩
  rw [hm.out] at S2 HL9 HMP HIA HRIA HHE HRHE HDE HRDE HPA HRPA ⊢
  have hm9 : m ≤ 9 := HL9.out
  have hm1 : 0 < m := HMP.out
  clear hbt HN1 HB1 hnl
  (try simp only [Act.put])
  have HSM := Lib.hid same_12
  obtain ⟨N, hN3, hN⟩ := i64_and3_nat a1
  obtain ⟨P, hlP, hP⟩ := i64_and16_nat (a1 / 4)
  obtain ⟨p, hp⟩ : ∃ x, P % m = x := ⟨_, rfl⟩
  have hrp : Int.tmod (P : Int) (m : Int) = (p : Int) := by rw [tmod_nat, hp]
  have hmp : p < m := by rw [← hp]; exact Nat.mod_lt _ hm1
  clear hp
  obtain ⟨Q, hlQ, hQ⟩ := i64_and16_nat (a2 / 4)
  obtain ⟨q, hq⟩ : ∃ x, Q % m = x := ⟨_, rfl⟩
  have hrq : Int.tmod (Q : Int) (m : Int) = (q : Int) := by rw [tmod_nat, hq]
  have hmq : q < m := by rw [← hq]; exact Nat.mod_lt _ hm1
  clear hq
  have hm0 : ((m : Int) == 0) = false := by simp; omega
  have hm0' : ¬ (m : Int) = 0 := by omega
  go_cut [1, 2] from 13 to 26 (fun av bv wx => PaX w bt (.slice va m vc) ns av bv wx)
  case first =>
    by_cases h0 : N = 0
    · subst h0
      have h00 : ((0 : Int) < ((0 : Nat) : Int)) = False := by simp
      go_wp2_with fail
      go_meet
      case rel => exact ⟨a1, a2, rfl, rfl, HR1.out, S2.out⟩
    · have h00 : (0 : Int) < (N : Int) := by omega
      clear h0
      go_upto_region 3 with fail
      refine wp_region_fam2 (by kernel_rfl) (by kernel_rfl) ?_
      intro T F hT hF hG
      have c0 : ∀ t, (F t).cell? ⟨bt, 0, none⟩ = some (.slice va m vc) := fun t => (S2.out.call (hF t)).t.cell 0
      have CT := Lib.hid (show ∀ u, (∃ t, u = F t) → Blk u bt #[.slice va m vc] by rintro _ ⟨t, rfl⟩; exact (S2.out.call (hF t)).t)
      repeat (first
        | ((with_reducible refine at_qload (.tmp 7) ?_); refine wpQuiet_load 25 _ rfl bt rfl #[.slice va m vc] CT.out Try.underlying25 rfl hi1 (by kernel_rfl) ?_; simp only [Act.put, List.setIfInBounds_toArray, List.set_cons_succ, List.set_cons_zero])
        | (go_big_quiet_step (fail)))
      refine wpQuiet_nil ?_
      rintro _ ⟨t, rfl⟩
      have S3 := Lib.hid (S2.out.call (hF t))
      obtain ⟨uS3, hu⟩ : ∃ z, F t = z := ⟨_, rfl⟩
      rw [hu] at S3 ⊢
      clear c0 CT hG hu hF hT
      clear t F T
      go_wp2_with fail
      go_meet
      case rel => exact ⟨(p : Int), (q : Int), rfl, rfl, by omega, S3.out⟩
  case rest =>
    obtain ⟨A, B, rfl, rfl, hA, hs⟩ := hcut
    have S3 := Lib.hid hs
    have H1 := Lib.hid (HPA.out A hA)
    have H2 := Lib.hid (HRPA.out A)
    have H3 := Lib.hid (HIA.out A B)
    have H4 := Lib.hid (HRIA.out A B)
    have H5 := Lib.hid (HDE.out A)
    have H6 := Lib.hid (HRDE.out A)
    have H7 := Lib.hid (HHE.out A B)
    have H8 := Lib.hid (HRHE.out A B)
    have HPI : Hid (∀ (u : World) B' x, OwnK .i64 3 u B' x (pathN ns A) → IntsV u x (pathN ns A)) := fun u B' x h => path_ints HOK.out HNL.out h
    have HDI : Hid (∀ (u : World) B' x, OwnK .i64 3 u B' x (descN ns A) → IntsV u x (descN ns A)) := fun u B' x h => ⟨h.ints (by have := selK_len (fun k => decide (A ∈ pathN ns (k : Int))) ns.length; have := HNL.out; unfold descN maxLen; omega), fun y hy => by have := selK_rng _ _ y hy; have := HNL.out; omega⟩
    unfold PacE at H1
    unfold PathE at H2
    unfold SelE at H5 H6
    obtain ⟨PL, hPL⟩ : ∃ x, pathN ns A = x := ⟨_, rfl⟩
    obtain ⟨DL, hDL⟩ : ∃ x, descN ns A = x := ⟨_, rfl⟩
    obtain ⟨qa, hqa⟩ : ∃ x, decide (A ∈ pathN ns B) = x := ⟨_, rfl⟩
    obtain ⟨hh, hhh⟩ : ∃ x, heirN ns A B = x := ⟨_, rfl⟩
    rw [hPL] at H1 H2 HPI
    rw [hDL] at H5 H6 HDI
    rw [hqa] at H3 H4
    rw [hhh] at H7 H8
    clear hs hA hPL hDL hqa hhh S2 hN hP hQ hrp hrq HPA HRPA HIA HRIA HDE HRDE HHE HRHE
    (try simp only [Act.put])
    go_upto_region 4 with fail
    have HSx0 : Hid ((fun u => AnS w bt (.slice va m vc) ns u) wc.drew) := S3.out.call (Below.drewN (n := 1) (Below.refl _ _) : Below wc.heap.size wc wc.drew)
    refine wp_region_held_drew (S := fun u => AnS w bt (.slice va m vc) ns u) (by kernel_rfl) (HSx0.out) (fun _ => ?_)
    (try simp only [Act.put, List.setIfInBounds_toArray, List.set_cons_zero, List.set_cons_succ])
    obtain ⟨x0, hx0⟩ : ∃ x, wc.drew = x := ⟨_, rfl⟩
    rw [hx0] at HSx0 ⊢
    clear hx0
    refine held_load (oi := ⟨some 27, _, _, _, _, _⟩) 0 rfl (by kernel_rfl) (by kernel_rfl) (by kernel_rfl) (fun _ _ _ _ h => h) rfl 25 (.tmp 7) rfl bt (0) rfl [.slice va m vc] _ (fun u' hu => hu.t.rng) Try.underlying25 rfl (hi1) HSx0.out ?_
    (try simp only [Act.put, List.setIfInBounds_toArray, List.set_cons_zero, List.set_cons_succ])
    refine wpAnyH_take (i := 1) (oi := ⟨some 28, _, _, _, _, _⟩) (v := .int .i64 A) rfl (by kernel_rfl) (by kernel_rfl) (by kernel_rfl) (fun _ _ _ h => h) (Or.inl ⟨by rfl, fun wz hz => ?_⟩) HSx0.out ?_
    · clear hz; go_simp; first | done | with_reducible rfl | rfl
    (try simp only [Act.put, List.setIfInBounds_toArray, List.set_cons_zero, List.set_cons_succ])
    refine held_load (oi := ⟨some 30, _, _, _, _, _⟩) 3 rfl (by kernel_rfl) (by kernel_rfl) (by kernel_rfl) (fun _ _ _ _ h => h) rfl 25 (.tmp 7) rfl bt (0) rfl [.slice va m vc] _ (fun u' hu => hu.t.rng) Try.underlying25 rfl (hi1) HSx0.out ?_
    (try simp only [Act.put, List.setIfInBounds_toArray, List.set_cons_zero, List.set_cons_succ])
    refine wpAnyH_take (i := 4) (oi := ⟨some 31, _, _, _, _, _⟩) (v := .int .i64 A) rfl (by kernel_rfl) (by kernel_rfl) (by kernel_rfl) (fun _ _ _ h => h) (Or.inl ⟨by rfl, fun wz hz => ?_⟩) HSx0.out ?_
    · clear hz; go_simp; first | done | with_reducible rfl | rfl
    (try simp only [Act.put, List.setIfInBounds_toArray, List.set_cons_zero, List.set_cons_succ])
    refine wpAnyH_ready (rs := [2]) (by kernel_rfl) (by simp) ?_
    refine AllReadyH.cons (o := ⟨some 29, _, _, _, _, _⟩) rfl (fun K hK => ?_) AllReadyH.nil
    go_simp
    refine (H1.out x0 HSx0.out).mono ?_
    rintro e x1 ⟨v1, rfl, hc1, hb⟩
    have HC1 := Lib.hid hc1
    clear hc1
    have HSx1 : Hid ((fun u => AnS w bt (.slice va m vc) ns u) x1) := HSx0.out.call hb
    clear hb
    refine hK.out _ _ (HSx1.out) (fun _ => ?_)
    clear hK K
    (try simp only [Act.put, List.setIfInBounds_toArray, List.set_cons_zero, List.set_cons_succ])
    refine wpAnyH_ready (rs := [5]) (by kernel_rfl) (by simp) ?_
    refine AllReadyH.cons (o := ⟨some 32, _, _, _, _, _⟩) rfl (fun K hK => ?_) AllReadyH.nil
    go_simp
    refine (H2.out x1 HSx1.out).mono ?_
    rintro e x2 ⟨v2, rfl, hc2, hb⟩
    have HC2 := Lib.hid (HPI.out _ _ _ hc2)
    clear hc2
    have HC1 := Lib.hid (HC1.out.below hb)
    have HSx2 : Hid ((fun u => AnS w bt (.slice va m vc) ns u) x2) := HSx1.out.call hb
    clear hb
    refine hK.out _ _ (HSx2.out) (fun _ => ?_)
    clear hK K
    (try simp only [Act.put, List.setIfInBounds_toArray, List.set_cons_zero, List.set_cons_succ])
    refine wpAnyH_ready (rs := [6]) (by kernel_rfl) (by simp) ?_
    refine AllReadyH.cons (o := ⟨some 33, _, _, _, _, _⟩) rfl (fun K hK => ?_) AllReadyH.nil
    go_simp
    refine (HSM.out v1 v2 PL x2 HC1.out HC2.out).mono ?_
    rintro e x3 ⟨rfl, hb⟩
    have HSx3 : Hid ((fun u => AnS w bt (.slice va m vc) ns u) x3) := HSx2.out.call hb
    clear hb
    refine hK.out _ _ (HSx3.out) (fun _ => ?_)
    clear hK K
    (try simp only [Act.put, List.setIfInBounds_toArray, List.set_cons_zero, List.set_cons_succ])
    refine wpAnyH_take (i := 7) (oi := ⟨some 34, _, _, _, _, _⟩) (v := .bool true) rfl (by kernel_rfl) (by kernel_rfl) (by kernel_rfl) (fun _ _ _ h => h) (Or.inl ⟨by rfl, fun wz hz => ?_⟩) HSx3.out ?_
    · clear hz; go_simp; first | done | with_reducible rfl | rfl
    (try simp only [Act.put, List.setIfInBounds_toArray, List.set_cons_zero, List.set_cons_succ])
    refine held_load (oi := ⟨some 35, _, _, _, _, _⟩) 8 rfl (by kernel_rfl) (by kernel_rfl) (by kernel_rfl) (fun _ _ _ _ h => h) rfl 25 (.tmp 7) rfl bt (0) rfl [.slice va m vc] _ (fun u' hu => hu.t.rng) Try.underlying25 rfl (hi1) HSx3.out ?_
    (try simp only [Act.put, List.setIfInBounds_toArray, List.set_cons_zero, List.set_cons_succ])
    refine wpAnyH_take (i := 9) (oi := ⟨some 36, _, _, _, _, _⟩) (v := .int .i64 A) rfl (by kernel_rfl) (by kernel_rfl) (by kernel_rfl) (fun _ _ _ h => h) (Or.inl ⟨by rfl, fun wz hz => ?_⟩) HSx3.out ?_
    · clear hz; go_simp; first | done | with_reducible rfl | rfl
    (try simp only [Act.put, List.setIfInBounds_toArray, List.set_cons_zero, List.set_cons_succ])
    refine wpAnyH_take (i := 10) (oi := ⟨some 37, _, _, _, _, _⟩) (v := .int .i64 B) rfl (by kernel_rfl) (by kernel_rfl) (by kernel_rfl) (fun _ _ _ h => h) (Or.inl ⟨by rfl, fun wz hz => ?_⟩) HSx3.out ?_
    · clear hz; go_simp; first | done | with_reducible rfl | rfl
    (try simp only [Act.put, List.setIfInBounds_toArray, List.set_cons_zero, List.set_cons_succ])
    refine held_load (oi := ⟨some 39, _, _, _, _, _⟩) 12 rfl (by kernel_rfl) (by kernel_rfl) (by kernel_rfl) (fun _ _ _ _ h => h) rfl 25 (.tmp 7) rfl bt (0) rfl [.slice va m vc] _ (fun u' hu => hu.t.rng) Try.underlying25 rfl (hi1) HSx3.out ?_
    (try simp only [Act.put, List.setIfInBounds_toArray, List.set_cons_zero, List.set_cons_succ])
    refine wpAnyH_take (i := 13) (oi := ⟨some 40, _, _, _, _, _⟩) (v := .int .i64 A) rfl (by kernel_rfl) (by kernel_rfl) (by kernel_rfl) (fun _ _ _ h => h) (Or.inl ⟨by rfl, fun wz hz => ?_⟩) HSx3.out ?_
    · clear hz; go_simp; first | done | with_reducible rfl | rfl
    (try simp only [Act.put, List.setIfInBounds_toArray, List.set_cons_zero, List.set_cons_succ])
    refine wpAnyH_take (i := 14) (oi := ⟨some 41, _, _, _, _, _⟩) (v := .int .i64 B) rfl (by kernel_rfl) (by kernel_rfl) (by kernel_rfl) (fun _ _ _ h => h) (Or.inl ⟨by rfl, fun wz hz => ?_⟩) HSx3.out ?_
    · clear hz; go_simp; first | done | with_reducible rfl | rfl
    (try simp only [Act.put, List.setIfInBounds_toArray, List.set_cons_zero, List.set_cons_succ])
    refine wpAnyH_ready (rs := [11]) (by kernel_rfl) (by simp) ?_
    refine AllReadyH.cons (o := ⟨some 38, _, _, _, _, _⟩) rfl (fun K hK => ?_) AllReadyH.nil
    go_simp
    refine (H3.out x3 HSx3.out).mono ?_
    rintro e x4 ⟨rfl, hb⟩
    have HSx4 : Hid ((fun u => AnS w bt (.slice va m vc) ns u) x4) := HSx3.out.call hb
    clear hb
    refine hK.out _ _ (HSx4.out) (fun _ => ?_)
    clear hK K
    (try simp only [Act.put, List.setIfInBounds_toArray, List.set_cons_zero, List.set_cons_succ])
    refine wpAnyH_ready (rs := [15]) (by kernel_rfl) (by simp) ?_
    refine AllReadyH.cons (o := ⟨some 42, _, _, _, _, _⟩) rfl (fun K hK => ?_) AllReadyH.nil
    go_simp
    refine (H4.out x4 HSx4.out).mono ?_
    rintro e x5 ⟨rfl, hb⟩
    have HSx5 : Hid ((fun u => AnS w bt (.slice va m vc) ns u) x5) := HSx4.out.call hb
    clear hb
    refine hK.out _ _ (HSx5.out) (fun _ => ?_)
    clear hK K
    (try simp only [Act.put, List.setIfInBounds_toArray, List.set_cons_zero, List.set_cons_succ])
    refine wpAnyH_take (i := 16) (oi := ⟨some 43, _, _, _, _, _⟩) (v := .bool true) rfl (by kernel_rfl) (by kernel_rfl) (by kernel_rfl) (fun _ _ _ h => h) (Or.inl ⟨by rfl, fun wz hz => ?_⟩) HSx5.out ?_
    · clear hz; go_simp; first | done | with_reducible rfl | rfl
    (try simp only [Act.put, List.setIfInBounds_toArray, List.set_cons_zero, List.set_cons_succ])
    refine wpAnyH_take (i := 17) (oi := ⟨some 44, _, _, _, _, _⟩) (v := .bool true) rfl (by kernel_rfl) (by kernel_rfl) (by kernel_rfl) (fun _ _ _ h => h) (Or.inl ⟨by rfl, fun wz hz => ?_⟩) HSx5.out ?_
    · clear hz; go_simp; first | done | with_reducible rfl | rfl
    (try simp only [Act.put, List.setIfInBounds_toArray, List.set_cons_zero, List.set_cons_succ])
    refine wpAnyH_take (i := 18) (oi := ⟨some 45, _, _, _, _, _⟩) (v := .bool true) rfl (by kernel_rfl) (by kernel_rfl) (by kernel_rfl) (fun _ _ _ h => h) (Or.inl ⟨by rfl, fun wz hz => ?_⟩) HSx5.out ?_
    · clear hz; go_simp; first | done | with_reducible rfl | rfl
    (try simp only [Act.put, List.setIfInBounds_toArray, List.set_cons_zero, List.set_cons_succ])
    refine held_load (oi := ⟨some 46, _, _, _, _, _⟩) 19 rfl (by kernel_rfl) (by kernel_rfl) (by kernel_rfl) (fun _ _ _ _ h => h) rfl 25 (.tmp 7) rfl bt (0) rfl [.slice va m vc] _ (fun u' hu => hu.t.rng) Try.underlying25 rfl (hi1) HSx5.out ?_
    (try simp only [Act.put, List.setIfInBounds_toArray, List.set_cons_zero, List.set_cons_succ])
    refine wpAnyH_take (i := 20) (oi := ⟨some 47, _, _, _, _, _⟩) (v := .int .i64 A) rfl (by kernel_rfl) (by kernel_rfl) (by kernel_rfl) (fun _ _ _ h => h) (Or.inl ⟨by rfl, fun wz hz => ?_⟩) HSx5.out ?_
    · clear hz; go_simp; first | done | with_reducible rfl | rfl
    (try simp only [Act.put, List.setIfInBounds_toArray, List.set_cons_zero, List.set_cons_succ])
    refine held_load (oi := ⟨some 49, _, _, _, _, _⟩) 22 rfl (by kernel_rfl) (by kernel_rfl) (by kernel_rfl) (fun _ _ _ _ h => h) rfl 25 (.tmp 7) rfl bt (0) rfl [.slice va m vc] _ (fun u' hu => hu.t.rng) Try.underlying25 rfl (hi1) HSx5.out ?_
    (try simp only [Act.put, List.setIfInBounds_toArray, List.set_cons_zero, List.set_cons_succ])
    refine wpAnyH_take (i := 23) (oi := ⟨some 50, _, _, _, _, _⟩) (v := .int .i64 A) rfl (by kernel_rfl) (by kernel_rfl) (by kernel_rfl) (fun _ _ _ h => h) (Or.inl ⟨by rfl, fun wz hz => ?_⟩) HSx5.out ?_
    · clear hz; go_simp; first | done | with_reducible rfl | rfl
    (try simp only [Act.put, List.setIfInBounds_toArray, List.set_cons_zero, List.set_cons_succ])
    refine wpAnyH_ready (rs := [21]) (by kernel_rfl) (by simp) ?_
    refine AllReadyH.cons (o := ⟨some 48, _, _, _, _, _⟩) rfl (fun K hK => ?_) AllReadyH.nil
    go_simp
    refine (H5.out x5 HSx5.out).mono ?_
    rintro e x6 ⟨v3, rfl, hc3, hb⟩
    have HC3 := Lib.hid (HDI.out _ _ _ hc3)
    clear hc3
    have HSx6 : Hid ((fun u => AnS w bt (.slice va m vc) ns u) x6) := HSx5.out.call hb
    clear hb
    refine hK.out _ _ (HSx6.out) (fun _ => ?_)
    clear hK K
    (try simp only [Act.put, List.setIfInBounds_toArray, List.set_cons_zero, List.set_cons_succ])
    refine wpAnyH_ready (rs := [24]) (by kernel_rfl) (by simp) ?_
    refine AllReadyH.cons (o := ⟨some 51, _, _, _, _, _⟩) rfl (fun K hK => ?_) AllReadyH.nil
    go_simp
    refine (H6.out x6 HSx6.out).mono ?_
    rintro e x7 ⟨v4, rfl, hc4, hb⟩
    have HC4 := Lib.hid (HDI.out _ _ _ hc4)
    clear hc4
    have HC3 := Lib.hid (HC3.out.below hb)
    have HSx7 : Hid ((fun u => AnS w bt (.slice va m vc) ns u) x7) := HSx6.out.call hb
    clear hb
    refine hK.out _ _ (HSx7.out) (fun _ => ?_)
    clear hK K
    (try simp only [Act.put, List.setIfInBounds_toArray, List.set_cons_zero, List.set_cons_succ])
    refine wpAnyH_ready (rs := [25]) (by kernel_rfl) (by simp) ?_
    refine AllReadyH.cons (o := ⟨some 52, _, _, _, _, _⟩) rfl (fun K hK => ?_) AllReadyH.nil
    go_simp
    refine (HSM.out v3 v4 DL x7 HC3.out HC4.out).mono ?_
    rintro e x8 ⟨rfl, hb⟩
    have HSx8 : Hid ((fun u => AnS w bt (.slice va m vc) ns u) x8) := HSx7.out.call hb
    clear hb
    refine hK.out _ _ (HSx8.out) (fun _ => ?_)
    clear hK K
    (try simp only [Act.put, List.setIfInBounds_toArray, List.set_cons_zero, List.set_cons_succ])
    refine wpAnyH_take (i := 26) (oi := ⟨some 53, _, _, _, _, _⟩) (v := .bool true) rfl (by kernel_rfl) (by kernel_rfl) (by kernel_rfl) (fun _ _ _ h => h) (Or.inl ⟨by rfl, fun wz hz => ?_⟩) HSx8.out ?_
    · clear hz; go_simp; first | done | with_reducible rfl | rfl
    (try simp only [Act.put, List.setIfInBounds_toArray, List.set_cons_zero, List.set_cons_succ])
    refine wpAnyH_take (i := 27) (oi := ⟨some 54, _, _, _, _, _⟩) (v := .bool true) rfl (by kernel_rfl) (by kernel_rfl) (by kernel_rfl) (fun _ _ _ h => h) (Or.inl ⟨by rfl, fun wz hz => ?_⟩) HSx8.out ?_
    · clear hz; go_simp; first | done | with_reducible rfl | rfl
    (try simp only [Act.put, List.setIfInBounds_toArray, List.set_cons_zero, List.set_cons_succ])
    refine held_load (oi := ⟨some 55, _, _, _, _, _⟩) 28 rfl (by kernel_rfl) (by kernel_rfl) (by kernel_rfl) (fun _ _ _ _ h => h) rfl 25 (.tmp 7) rfl bt (0) rfl [.slice va m vc] _ (fun u' hu => hu.t.rng) Try.underlying25 rfl (hi1) HSx8.out ?_
    (try simp only [Act.put, List.setIfInBounds_toArray, List.set_cons_zero, List.set_cons_succ])
    refine wpAnyH_take (i := 29) (oi := ⟨some 56, _, _, _, _, _⟩) (v := .int .i64 A) rfl (by kernel_rfl) (by kernel_rfl) (by kernel_rfl) (fun _ _ _ h => h) (Or.inl ⟨by rfl, fun wz hz => ?_⟩) HSx8.out ?_
    · clear hz; go_simp; first | done | with_reducible rfl | rfl
    (try simp only [Act.put, List.setIfInBounds_toArray, List.set_cons_zero, List.set_cons_succ])
    refine wpAnyH_take (i := 30) (oi := ⟨some 57, _, _, _, _, _⟩) (v := .int .i64 B) rfl (by kernel_rfl) (by kernel_rfl) (by kernel_rfl) (fun _ _ _ h => h) (Or.inl ⟨by rfl, fun wz hz => ?_⟩) HSx8.out ?_
    · clear hz; go_simp; first | done | with_reducible rfl | rfl
    (try simp only [Act.put, List.setIfInBounds_toArray, List.set_cons_zero, List.set_cons_succ])
    refine held_load (oi := ⟨some 59, _, _, _, _, _⟩) 32 rfl (by kernel_rfl) (by kernel_rfl) (by kernel_rfl) (fun _ _ _ _ h => h) rfl 25 (.tmp 7) rfl bt (0) rfl [.slice va m vc] _ (fun u' hu => hu.t.rng) Try.underlying25 rfl (hi1) HSx8.out ?_
    (try simp only [Act.put, List.setIfInBounds_toArray, List.set_cons_zero, List.set_cons_succ])
    refine wpAnyH_take (i := 33) (oi := ⟨some 60, _, _, _, _, _⟩) (v := .int .i64 A) rfl (by kernel_rfl) (by kernel_rfl) (by kernel_rfl) (fun _ _ _ h => h) (Or.inl ⟨by rfl, fun wz hz => ?_⟩) HSx8.out ?_
    · clear hz; go_simp; first | done | with_reducible rfl | rfl
    (try simp only [Act.put, List.setIfInBounds_toArray, List.set_cons_zero, List.set_cons_succ])
    refine wpAnyH_take (i := 34) (oi := ⟨some 61, _, _, _, _, _⟩) (v := .int .i64 B) rfl (by kernel_rfl) (by kernel_rfl) (by kernel_rfl) (fun _ _ _ h => h) (Or.inl ⟨by rfl, fun wz hz => ?_⟩) HSx8.out ?_
    · clear hz; go_simp; first | done | with_reducible rfl | rfl
    (try simp only [Act.put, List.setIfInBounds_toArray, List.set_cons_zero, List.set_cons_succ])
    refine wpAnyH_ready (rs := [31]) (by kernel_rfl) (by simp) ?_
    refine AllReadyH.cons (o := ⟨some 58, _, _, _, _, _⟩) rfl (fun K hK => ?_) AllReadyH.nil
    go_simp
    refine (H7.out x8 HSx8.out).mono ?_
    rintro e x9 ⟨rfl, hb⟩
    have HSx9 : Hid ((fun u => AnS w bt (.slice va m vc) ns u) x9) := HSx8.out.call hb
    clear hb
    refine hK.out _ _ (HSx9.out) (fun _ => ?_)
    clear hK K
    (try simp only [Act.put, List.setIfInBounds_toArray, List.set_cons_zero, List.set_cons_succ])
    refine wpAnyH_ready (rs := [35]) (by kernel_rfl) (by simp) ?_
    refine AllReadyH.cons (o := ⟨some 62, _, _, _, _, _⟩) rfl (fun K hK => ?_) AllReadyH.nil
    go_simp
    refine (H8.out x9 HSx9.out).mono ?_
    rintro e x10 ⟨rfl, hb⟩
    have HSx10 : Hid ((fun u => AnS w bt (.slice va m vc) ns u) x10) := HSx9.out.call hb
    clear hb
    refine hK.out _ _ (HSx10.out) (fun _ => ?_)
    clear hK K
    (try simp only [Act.put, List.setIfInBounds_toArray, List.set_cons_zero, List.set_cons_succ])
    refine wpAnyH_take (i := 36) (oi := ⟨some 63, _, _, _, _, _⟩) (v := .bool true) rfl (by kernel_rfl) (by kernel_rfl) (by kernel_rfl) (fun _ _ _ h => h) (Or.inl ⟨by rfl, fun wz hz => ?_⟩) HSx10.out ?_
    · clear hz; go_simp; first | done | with_reducible rfl | rfl
    (try simp only [Act.put, List.setIfInBounds_toArray, List.set_cons_zero, List.set_cons_succ])
    refine wpAnyH_take (i := 37) (oi := ⟨some 64, _, _, _, _, _⟩) (v := .bool true) rfl (by kernel_rfl) (by kernel_rfl) (by kernel_rfl) (fun _ _ _ h => h) (Or.inl ⟨by rfl, fun wz hz => ?_⟩) HSx10.out ?_
    · clear hz; go_simp; first | done | with_reducible rfl | rfl
    (try simp only [Act.put, List.setIfInBounds_toArray, List.set_cons_zero, List.set_cons_succ])
    refine wpAnyH_take (i := 38) (oi := ⟨some 65, _, _, _, _, _⟩) (v := .bool true) rfl (by kernel_rfl) (by kernel_rfl) (by kernel_rfl) (fun _ _ _ h => h) (Or.inl ⟨by rfl, fun wz hz => ?_⟩) HSx10.out ?_
    · clear hz; go_simp; first | done | with_reducible rfl | rfl
    (try simp only [Act.put, List.setIfInBounds_toArray, List.set_cons_zero, List.set_cons_succ])
    refine wpAnyH_ready (rs := [39]) (by kernel_rfl) (by simp) ?_
    refine AllReadyH.cons (o := ⟨some 66, _, _, _, _, _⟩) rfl (fun K hK => ?_) AllReadyH.nil
    go_simp
    refine (HAW.out x10).mono ?_
    rintro e x11 ⟨rfl, hb⟩
    have HSx11 : Hid ((fun u => AnS w bt (.slice va m vc) ns u) x11) := HSx10.out.call hb
    clear hb
    refine hK.out _ _ (HSx11.out) (fun _ => ?_)
    clear hK K
    (try simp only [Act.put, List.setIfInBounds_toArray, List.set_cons_zero, List.set_cons_succ])
    refine wpAnyH_take (i := 40) (oi := ⟨some 67, _, _, _, _, _⟩) (v := .bool true) rfl (by kernel_rfl) (by kernel_rfl) (by kernel_rfl) (fun _ _ _ h => h) (Or.inl ⟨by rfl, fun wz hz => ?_⟩) HSx11.out ?_
    · clear hz; go_simp; first | done | with_reducible rfl | rfl
    (try simp only [Act.put, List.setIfInBounds_toArray, List.set_cons_zero, List.set_cons_succ])
    refine wpAnyH_ready (rs := [41]) (by kernel_rfl) (by simp) ?_
    refine AllReadyH.cons (o := ⟨some 6, _, _, _, _, _⟩) rfl (fun K hK => ?_) AllReadyH.nil
    go_simp
    refine hK.out _ _ (HSx11.out) (fun _ => ?_)
    clear hK K
    (try simp only [Act.put, List.setIfInBounds_toArray, List.set_cons_zero, List.set_cons_succ])
    refine wpAnyH_done (by kernel_rfl) ?_ _
    go_wp2_with fail
    go_ret
    exact ⟨rfl, HSx11.out.b⟩
end Go.Proofs.Ytdbkphkgjaecoaa
