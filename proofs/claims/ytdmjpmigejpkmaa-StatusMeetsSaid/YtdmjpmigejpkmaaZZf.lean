/- Several texts as one: L16m. -/
import Derived.Test.YtdmjpmigejpkmaaZ8
import Derived.Test.YtdmjpmigejpkmaaZ9
namespace Go.Proofs.Ytdmjpmigejpkmaa

/-! L16m -/
section
set_option linter.unusedVariables false
set_option linter.unusedSimpArgs false
open Go.RowKit

set_option maxRecDepth 100000

theorem on_self {ns : List NdD} (hok : TrOK ns) {p : Nat} (hp : p < ns.length) : (p : Int) ∈ pathN ns (p : Int) := by
  rw [(up_path hok hp).2.2]; simp

/-- Raising and condemning in either order. -/
theorem st_meets {ns : List NdD} (hok : TrOK ns) {p q : Nat} (hp : p < ns.length) (hq : q < ns.length) (he : (raiN ns p).2 = 0) (hf : (conN ns q).2 = 0) :
    TrOK (raiN ns p).1 ∧ TrOK (conN ns q).1 ∧ (raiN ns p).1.length = ns.length ∧ (conN ns q).1.length = ns.length ∧ ∃ X E, conN (raiN ns p).1 q = (X, E) ∧ raiN (conN ns q).1 p = (X, E) ∧ (E == 21) = decide ((q : Int) ∈ pathN ns (p : Int)) := by
  obtain ⟨h1, h2, h3⟩ := rai_ok hok he
  obtain ⟨g1, g2, g3⟩ := con_ok hok hf
  refine ⟨h1, g1, by rw [h2, stN_len], by rw [g2, stN_len], ?_⟩
  rw [h2, g2]
  have hbl : ∀ j, belB (stN ns (onB ns p) 1) q j = belB ns q j := fun j => by unfold belB; rw [pathN_st]
  have hon : ∀ j, onB (stN ns (belB ns q) 2) p j = onB ns p j := fun j => by unfold onB; rw [pathN_st]
  have hx : ∀ j : Nat, j < ns.length → onB ns p j = true → belB ns q j = true → (q : Int) ∈ pathN ns (p : Int) := fun j hj a b => by
    unfold onB at a
    unfold belB at b
    simp only [decide_eq_true_eq] at a b
    exact path_trans hok p hp b a
  by_cases hA : (q : Int) ∈ pathN ns (p : Int)
  · refine ⟨[], 21, ?_, ?_, by rw [decide_eq_true hA]; rfl⟩
    · unfold conN
      rw [if_neg (fun h => h (by rw [stN_len]; omega)), if_pos]
      refine ⟨p, by rw [stN_len]; exact hp, by rw [hbl]; unfold belB; exact decide_eq_true hA, ?_⟩
      rw [(stN_b ns (onB ns p) 1 hp _).2.2, if_pos (by unfold onB; exact decide_eq_true (on_self hok hp))]
    · unfold raiN
      rw [if_neg (fun h => h (by rw [stN_len]; omega)), if_pos]
      refine ⟨q, by rw [stN_len]; exact hq, by rw [hon]; unfold onB; exact decide_eq_true hA, ?_⟩
      rw [(stN_b ns (belB ns q) 2 hq _).2.2, if_pos (by unfold belB; exact decide_eq_true (on_self hok hq))]
  · refine ⟨stN (stN ns (onB ns p) 1) (belB ns q) 2, 0, ?_, ?_, by rw [decide_eq_false hA]; rfl⟩
    · unfold conN
      rw [if_neg (fun h => h (by rw [stN_len]; omega)), if_neg]
      · rw [stN_cong2 _ 2 (fun j _ => hbl j)]
      · rintro ⟨j, hj, hb, e⟩
        have hj' : j < ns.length := by rw [stN_len] at hj; exact hj
        rw [hbl] at hb
        rw [(stN_b ns (onB ns p) 1 hj' hj).2.2] at e
        by_cases hc : onB ns p j = true
        · exact hA (hx j hj' hc hb)
        · rw [if_neg hc] at e
          exact g3 ⟨j, hj', hb, e⟩
    · unfold raiN
      rw [if_neg (fun h => h (by rw [stN_len]; omega)), if_neg]
      · rw [stN_cong2 _ 1 (fun j _ => hon j)]
        congr 1
        apply List.ext_getElem (by simp [stN_len])
        intro j k1 k2
        have hj : j < ns.length := by simpa [stN_len] using k1
        have e1 : j < (stN ns (belB ns q) 2).length := by rw [stN_len]; exact hj
        have e2 : j < (stN ns (onB ns p) 1).length := by rw [stN_len]; exact hj
        rw [stN_at _ _ 1 e1 k1, stN_at _ _ 2 e2 k2, stN_at ns _ 2 hj e1, stN_at ns _ 1 hj e2]
        by_cases hc : onB ns p j = true
        · by_cases hb : belB ns q j = true
          · exact absurd (hx j hj hc hb) hA
          · rw [if_pos hc, if_neg hb, if_neg hb, if_pos hc]
        · by_cases hb : belB ns q j = true
          · rw [if_neg hc, if_pos hb, if_pos hb, if_neg hc]
          · rw [if_neg hc, if_neg hb, if_neg hb, if_neg hc]
      · rintro ⟨j, hj, hb, e⟩
        have hj' : j < ns.length := by rw [stN_len] at hj; exact hj
        rw [hon] at hb
        rw [(stN_b ns (belB ns q) 2 hj' hj).2.2] at e
        by_cases hc : belB ns q j = true
        · exact hA (hx j hj' hb hc)
        · rw [if_neg hc] at e
          exact h3 ⟨j, hj', hb, e⟩

set_option maxHeartbeats 32000000 in
theorem walk_StatusMeets (a0 : Option Addr) (len0 cap0 : Nat) (z0 : List Int) (a1 : Int) (a2 : Int) (w : World) (w0 : IsRow .i64 w a0 len0 cap0 z0) (w1x : (Lit.int .i64 a1).wf = true) (w2x : (Lit.int .i64 a2).wf = true) :
    Calls Try.prog 8 #[.slice a0 len0 cap0, .int .i64 a1, .int .i64 a2] w fun e w' => e = .returned (.bool true) ∧ Below w.heap.size w w' := by
  have HTR := Lib.hid (fun u (hu : Below w.heap.size w u) => tree_any (.slice a0 len0 cap0) _ u ((rowInts w0).below hu))
  have HAW := Lib.hid awake16_any
  have hi1 : (Try.prog.info? 25).map (·.size) = some 1 := by kernel_rfl
  obtain ⟨hz1, hst1⟩ := zero_array (P := Try.prog) (t := 25) (n := 1) #[.slice none 0 0] (by kernel_rfl) rfl (by kernel_rfl)
  clear w0 hst1
  go_enter Try.func8, Try.ntmps8
  go_upto_region 2 with (first
    | (go_at_call 9; refine (HTR.out _ (Below.refl _ _)).mono ?_; rintro e w1 ⟨v1, ns, rfl, hn1, hc1, hok, hl9, hb1⟩; obtain ⟨va, vc, rfl, _⟩ := hn1.shape; have HN1 := Lib.hid hn1; have HOK := Lib.hid hok; have HL9 := Lib.hid hl9; have HB1 := Lib.hid hb1; clear hn1 hc1 hok hl9 hb1)
    | ((with_reducible refine at_store (.tmp 7) ?_); refine wpList_store_blk rfl 25 (.tmp 7) _ rfl w1.heap.size #[.slice va ns.length vc] rfl rfl #[.slice none 0 0] (Blk.new rfl) rfl hi1 (by simp [Value.oneCell']) ?_; intro w2 U2 B2; have hb2 := U2.below ((Below.refl w1.heap.size w1).alloc (Nat.le_refl _) (.cells #[.slice none 0 0] 25)) (Nat.le_refl _); have S2 : Hid (AnS w w1.heap.size (.slice va ns.length vc) ns w2) := ⟨B2, HN1.out.call hb2, HB1.out.trans (hb2.mono HB1.out.size)⟩; clear U2 B2 hb2))
  obtain ⟨bt, hbt⟩ : ∃ x, w1.heap.size = x := ⟨_, rfl⟩
  rw [hbt] at S2 ⊢
  have hnl : ns.length ≤ 100000 := by have := HL9.out; omega
  have HNL := Lib.hid hnl
  have HMP : Hid (0 < ns.length) := HOK.out.pos
  have hm9' : ns.length ≤ 9 := HL9.out
  have HRA := Lib.hid (fun (p : Nat) (hp : p < ns.length) u (hu : AnS w bt (.slice va ns.length vc) ns u) => crai_any ns HOK.out HNL.out (p : Int) (by omega) (.slice va ns.length vc) u hu.n)
  have HCO := Lib.hid (fun (q : Nat) u (hu : AnS w bt (.slice va ns.length vc) ns u) => ccon_any ns HOK.out HNL.out (q : Int) (.slice va ns.length vc) u hu.n)
  have HRIA := Lib.hid (fun (x y : Int) u (hu : AnS w bt (.slice va ns.length vc) ns u) => isan_any ns HOK.out HNL.out x y (.slice va ns.length vc) u hu.n)
  unfold SetE at HRA HCO
  obtain ⟨m, hm⟩ : ∃ m, Hid (ns.length = m) := ⟨_, Lib.hid rfl⟩
  have hm9 : m ≤ 9 := by have := HL9.out; have := hm.out; omega
  have hm1 : 0 < m := by have := HMP.out; have := hm.out; omega
  obtain ⟨K, hlK, hK⟩ := i64_and16_nat a1
  obtain ⟨p, hp⟩ : ∃ x, K % m = x := ⟨_, rfl⟩
  have hrp : Int.tmod (K : Int) (m : Int) = (p : Int) := by rw [tmod_nat, hp]
  have hmp : p < m := by rw [← hp]; exact Nat.mod_lt _ hm1
  clear hp
  obtain ⟨J, hlJ, hJ⟩ := i64_and16_nat a2
  obtain ⟨q, hq⟩ : ∃ x, J % m = x := ⟨_, rfl⟩
  have hrq : Int.tmod (J : Int) (m : Int) = (q : Int) := by rw [tmod_nat, hq]
  have hmq : q < m := by rw [← hq]; exact Nat.mod_lt _ hm1
  clear hq
  have hm0 : ((m : Int) == 0) = false := by simp; omega
  have hm0' : ¬ (m : Int) = 0 := by omega
  have hpn : p < ns.length := by rw [hm.out]; assumption
  have hqn : q < ns.length := by rw [hm.out]; assumption
  have HR1 := Lib.hid (HRA.out p hpn)
  have HC1 := Lib.hid (HCO.out q)
  have HIA := Lib.hid (HRIA.out (q : Int) (p : Int))
  have HME := Lib.hid (st_meets HOK.out hpn hqn)
  obtain ⟨R, hR⟩ : ∃ x, raiN ns (p : Int) = x := ⟨_, rfl⟩
  obtain ⟨Q, hQ⟩ : ∃ x, conN ns (q : Int) = x := ⟨_, rfl⟩
  rw [hR] at HR1 HME
  rw [hQ] at HC1 HME
  obtain ⟨qa, hqa⟩ : ∃ x, decide ((q : Int) ∈ pathN ns (p : Int)) = x := ⟨_, rfl⟩
  rw [hqa] at HIA HME
  clear hR hQ hqa
  obtain ⟨R1, R2⟩ := R
  obtain ⟨Q1, Q2⟩ := Q
  simp only at HR1 HC1 HME
  have HSM := Lib.hid (fun v1 v2 l u h1 h2 => stree_yes v1 v2 l u h1 h2)
  have HQA : Hid (∀ b : Bool, (b != b) = false) := fun b => by cases b <;> rfl
  rw [hm.out] at S2 HR1 HC1 HIA ⊢
  clear hbt HN1 HB1 hnl HRA HCO HRIA hm9'
  (try simp only [Act.put])
  refine wp_region_fam2 (by kernel_rfl) (by kernel_rfl) ?_
  intro T F hT hF hG
  have c0 : ∀ t, (F t).cell? ⟨bt, 0, none⟩ = some (.slice va m vc) := fun t => (S2.out.call (hF t)).t.cell 0
  have CT := Lib.hid (show ∀ u, (∃ t, u = F t) → Blk u bt #[.slice va m vc] by rintro _ ⟨t, rfl⟩; exact (S2.out.call (hF t)).t)
  repeat (first
    | ((with_reducible refine at_qload (.tmp 7) ?_); refine wpQuiet_load 25 _ rfl bt rfl #[.slice va m vc] CT.out Try.underlying25 rfl hi1 (by kernel_rfl) ?_; simp only [Act.put, List.setIfInBounds_toArray, List.set_cons_succ, List.set_cons_zero])
    | (go_big_quiet_step (fail)))
  refine wpQuiet_nil ?_
  rintro _ ⟨t, rfl⟩
  have S3 := Lib.hid (S2.out.call (hF t))
  obtain ⟨uS3, hu⟩ : ∃ z, F t = z := ⟨_, rfl⟩
  rw [hu] at S3 ⊢
  clear c0 CT hG hu hF hT
  clear t F T
  go_upto_region 4 with (first
    | ((with_reducible refine at_load (.tmp 7) ?_); refine wpList_load_g 25 (.tmp 7) rfl bt rfl #[.slice va m vc] _ S3.out.t Try.underlying25 rfl hi1 rfl ?_)
    | (go_at_call 19; refine (HR1.out _ S3.out).mono ?_; rintro e w1 ⟨v1, rfl, hn1, hc1, hw1, hb1⟩; obtain ⟨a8, c8, rfl, _⟩ := hn1.shape; have HN1 := Lib.hid hn1; have S1 := Lib.hid (S3.out.call hb1); clear hn1 hc1 hw1 hb1)
    | ((with_reducible refine at_store (.tmp 8) ?_); refine wpList_store_blk rfl 25 (.tmp 8) _ rfl w1.heap.size #[.slice a8 R1.length c8] rfl rfl #[.slice none 0 0] (Blk.new rfl) rfl hi1 (by simp [Value.oneCell']) ?_; intro y U B; have hb := U.below ((Below.refl w1.heap.size w1).alloc (Nat.le_refl _) (.cells #[.slice none 0 0] 25)) (Nat.le_refl _); have X8 : Hid (TwB y w1.heap.size (.slice a8 R1.length c8) R1) := ⟨B, HN1.out.call hb⟩; have T8 := Lib.hid (S1.out.call hb); clear U B hb))
  obtain ⟨b8, hb⟩ : ∃ x, w1.heap.size = x := ⟨_, rfl⟩
  rw [hb] at X8 ⊢
  clear hb HN1 S1
  (try simp only [Act.put])
  go_upto_region 5 with (first
    | ((with_reducible refine at_load (.tmp 7) ?_); refine wpList_load_g 25 (.tmp 7) rfl bt rfl #[.slice va m vc] _ T8.out.t Try.underlying25 rfl hi1 rfl ?_)
    | (go_at_call 20; refine (HC1.out _ T8.out).mono ?_; rintro e w1 ⟨v1, rfl, hn1, hc1, hw1, hb1⟩; obtain ⟨a10, c10, rfl, _⟩ := hn1.shape; have HN1 := Lib.hid hn1; have S1 := Lib.hid (T8.out.call hb1); have X8 := Lib.hid (X8.out.call hb1); clear hn1 hc1 hw1 hb1)
    | ((with_reducible refine at_store (.tmp 10) ?_); refine wpList_store_blk rfl 25 (.tmp 10) _ rfl w1.heap.size #[.slice a10 Q1.length c10] rfl rfl #[.slice none 0 0] (Blk.new rfl) rfl hi1 (by simp [Value.oneCell']) ?_; intro y U B; have hb := U.below ((Below.refl w1.heap.size w1).alloc (Nat.le_refl _) (.cells #[.slice none 0 0] 25)) (Nat.le_refl _); have X10 : Hid (TwB y w1.heap.size (.slice a10 Q1.length c10) Q1) := ⟨B, HN1.out.call hb⟩; have X8 := Lib.hid (X8.out.call hb); have T10 := Lib.hid (S1.out.call hb); clear U B hb))
  obtain ⟨b10, hb⟩ : ∃ x, w1.heap.size = x := ⟨_, rfl⟩
  rw [hb] at X10 ⊢
  clear hb HN1 S1
  (try simp only [Act.put])
  by_cases h1 : R2 = 0
  case neg =>
    have h1b : (R2 != 0) = true := by simpa using h1
    clear h1
    go_wp2_with (first
      | (go_at_call 12; refine (HAW.out _).mono ?_; rintro e w9 ⟨rfl, hb9⟩; have T11 := Lib.hid (T10.out.call hb9); clear hb9))
    go_ret
    exact ⟨rfl, T11.out.b⟩
  by_cases h2 : Q2 = 0
  case neg =>
    have h1b : (R2 != 0) = false := by simpa using h1
    have h2b : (Q2 != 0) = true := by simpa using h2
    clear h1 h2
    go_wp2_with (first
      | (go_at_call 12; refine (HAW.out _).mono ?_; rintro e w9 ⟨rfl, hb9⟩; have T11 := Lib.hid (T10.out.call hb9); clear hb9))
    go_ret
    exact ⟨rfl, T11.out.b⟩
  have h1b : (R2 != 0) = false := by simpa using h1
  have h2b : (Q2 != 0) = false := by simpa using h2
  obtain ⟨hok1, hok2, hl1, hl2, X, E, hX1, hX2, hE⟩ := HME.out h1 h2
  have HC2 : Hid (∀ v u, NodesV u v R1 → Calls Try.prog 20 #[.agg #[v], .int .i64 (q : Int)] u (SetE (X, E) u)) := fun v u hu => by rw [← hX1]; exact ccon_any R1 hok1 (by rw [hl1]; exact HNL.out) (q : Int) v u hu
  have HR2 : Hid (∀ v u, NodesV u v Q1 → Calls Try.prog 19 #[.agg #[v], .int .i64 (p : Int)] u (SetE (X, E) u)) := fun v u hu => by rw [← hX2]; exact crai_any Q1 hok2 (by rw [hl2]; exact HNL.out) (p : Int) (by omega) v u hu
  unfold SetE at HC2 HR2
  simp only at HC2 HR2
  have hEE : (E != E) = false := by simp
  have hqq := HQA.out qa
  clear h1 h2 hok1 hok2 hl1 hl2 hX1 hX2 HQA
  go_upto_region 8 with (first
    | ((with_reducible refine at_load (.tmp 8) ?_); refine wpList_load_g 25 (.tmp 8) rfl b8 rfl #[.slice a8 R1.length c8] _ X8.out.t Try.underlying25 rfl hi1 rfl ?_)
    | (go_at_call 20; refine (HC2.out _ _ X8.out.n).mono ?_; rintro e w1 ⟨v1, rfl, hn1, hc1, hw1, hb1⟩; obtain ⟨a12, c12, rfl, _⟩ := hn1.shape; have HN1 := Lib.hid hn1; have S1 := Lib.hid (T10.out.call hb1); have X8 := Lib.hid (X8.out.call hb1); have X10 := Lib.hid (X10.out.call hb1); clear hn1 hc1 hw1 hb1)
    | ((with_reducible refine at_store (.tmp 12) ?_); refine wpList_store_blk rfl 25 (.tmp 12) _ rfl w1.heap.size #[.slice a12 X.length c12] rfl rfl #[.slice none 0 0] (Blk.new rfl) rfl hi1 (by simp [Value.oneCell']) ?_; intro y U B; have hb := U.below ((Below.refl w1.heap.size w1).alloc (Nat.le_refl _) (.cells #[.slice none 0 0] 25)) (Nat.le_refl _); have X12 : Hid (TwB y w1.heap.size (.slice a12 X.length c12) X) := ⟨B, HN1.out.call hb⟩; have X8 := Lib.hid (X8.out.call hb); have X10 := Lib.hid (X10.out.call hb); have T12 := Lib.hid (S1.out.call hb); clear U B hb))
  obtain ⟨b12, hb⟩ : ∃ x, w1.heap.size = x := ⟨_, rfl⟩
  rw [hb] at X12 ⊢
  clear hb HN1 S1
  (try simp only [Act.put])
  go_upto_region 9 with (first
    | ((with_reducible refine at_load (.tmp 10) ?_); refine wpList_load_g 25 (.tmp 10) rfl b10 rfl #[.slice a10 Q1.length c10] _ X10.out.t Try.underlying25 rfl hi1 rfl ?_)
    | (go_at_call 19; refine (HR2.out _ _ X10.out.n).mono ?_; rintro e w1 ⟨v1, rfl, hn1, hc1, hw1, hb1⟩; obtain ⟨a14, c14, rfl, _⟩ := hn1.shape; have HN1 := Lib.hid hn1; have S1 := Lib.hid (T12.out.call hb1); have X12 := Lib.hid (X12.out.call hb1); have X10 := Lib.hid (X10.out.call hb1); clear hn1 hc1 hw1 hb1)
    | ((with_reducible refine at_store (.tmp 14) ?_); refine wpList_store_blk rfl 25 (.tmp 14) _ rfl w1.heap.size #[.slice a14 X.length c14] rfl rfl #[.slice none 0 0] (Blk.new rfl) rfl hi1 (by simp [Value.oneCell']) ?_; intro y U B; have hb := U.below ((Below.refl w1.heap.size w1).alloc (Nat.le_refl _) (.cells #[.slice none 0 0] 25)) (Nat.le_refl _); have X14 : Hid (TwB y w1.heap.size (.slice a14 X.length c14) X) := ⟨B, HN1.out.call hb⟩; have X12 := Lib.hid (X12.out.call hb); have X10 := Lib.hid (X10.out.call hb); have T14 := Lib.hid (S1.out.call hb); clear U B hb))
  obtain ⟨b14, hb⟩ : ∃ x, w1.heap.size = x := ⟨_, rfl⟩
  rw [hb] at X14 ⊢
  clear hb HN1 S1
  (try simp only [Act.put])
  go_wp2_with (first
    | ((with_reducible refine at_load (.tmp 7) ?_); refine wpList_load_rng 25 (.tmp 7) rfl bt 0 [.slice va m vc] T14.out.t.rng rfl _ Try.underlying25 rfl hi1 rfl ?_)
    | (go_at_call 23; refine (HIA.out _ T14.out).mono ?_; rintro e w3 ⟨rfl, hb3⟩; have T14 := Lib.hid (T14.out.call hb3); have X12 := Lib.hid (X12.out.call hb3); have X14 := Lib.hid (X14.out.call hb3); clear hb3)
    | ((with_reducible refine at_load (.tmp 12) ?_); refine wpList_load_rng 25 (.tmp 12) rfl b12 0 [.slice a12 X.length c12] X12.out.t.rng rfl _ Try.underlying25 rfl hi1 rfl ?_)
    | ((with_reducible refine at_load (.tmp 14) ?_); refine wpList_load_rng 25 (.tmp 14) rfl b14 0 [.slice a14 X.length c14] X14.out.t.rng rfl _ Try.underlying25 rfl hi1 rfl ?_)
    | (go_at_call 22; refine (HSM.out _ _ X _ X12.out.n X14.out.n).mono ?_; rintro e w4 ⟨rfl, hb4⟩; have T15 := Lib.hid (T14.out.call hb4); clear hb4)
    | (go_at_call 12; refine (HAW.out _).mono ?_; rintro e w9 ⟨rfl, hb9⟩; have T16 := Lib.hid (T15.out.call hb9); clear hb9))
  go_ret
  exact ⟨rfl, T16.out.b⟩
end

end Go.Proofs.Ytdmjpmigejpkmaa
