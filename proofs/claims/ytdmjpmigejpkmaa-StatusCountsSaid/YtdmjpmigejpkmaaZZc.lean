/- Several texts as one: L16n. -/
import Derived.Test.YtdmjpmigejpkmaaZ8
import Derived.Test.YtdmjpmigejpkmaaZ9
import Derived.Test.YtdmjpmigejpkmaaZ7
import Derived.Test.YtdmjpmigejpkmaaHeld4
import Derived.Test.YtdmjpmigejpkmaaZ5
import Derived.Test.YtdmjpmigejpkmaaOwL
namespace Go.Proofs.Ytdmjpmigejpkmaa

/-! L16n -/
section
set_option linter.unusedVariables false
set_option linter.unusedSimpArgs false
open Go.RowKit

set_option maxRecDepth 100000

theorem cnt_all {ns : List NdD} (hok : TrOK ns) : ∀ k, k ≤ ns.length → cntT ns [0, 1, 2] k = k
  | 0, _ => rfl
  | k + 1, h => by
    have hk : k < ns.length := by omega
    have hs := hok.st k hk
    have hm : decide (stI ns k ∈ [(0 : Int), 1, 2]) = true := by
      rw [stI_at hk]
      have : ns[k].st = 0 ∨ ns[k].st = 1 ∨ ns[k].st = 2 := by omega
      rcases this with e | e | e <;> rw [e] <;> decide
    rw [cntT_yes hm, cnt_all hok k (by omega)]
    omega

theorem cnt_wait (ns : List NdD) : ∀ k, cntT ns [0] k = ((selK (fun j => decide (stI ns j = 0)) k).length : Nat)
  | 0 => rfl
  | k + 1 => by
    cases h : decide (stI ns k = 0)
    · have h0 : decide (stI ns k ∈ [(0 : Int)]) = false := by simpa using h
      rw [cntT_no h0, cnt_wait ns k, selK_no (p := fun j => decide (stI ns j = 0)) h]
    · have h0 : decide (stI ns k ∈ [(0 : Int)]) = true := by simpa using h
      rw [cntT_yes h0, cnt_wait ns k, selK_yes (p := fun j => decide (stI ns j = 0)) h, List.length_append, List.length_singleton]
      omega

theorem wait_ints {ns : List NdD} {w : World} {B : Nat} {v : Value} (hlen : ns.length ≤ 100000) (h : OwnK .i64 3 w B v (waitT ns)) : IntsV w v (waitT ns) := by
  have hl : (waitT ns).length ≤ ns.length := selK_len _ _
  exact ⟨h.ints (by unfold maxLen; omega), fun x hx => by have := selK_rng (fun j => decide (stI ns j = 0)) ns.length x hx; omega⟩

theorem int_one {w : World} {g : Nat} {n : Int} (h : Blk w g #[.int .i64 n]) (hn : -9223372036854775808 ≤ n ∧ n ≤ 9223372036854775807) : IntsV w (.slice (some ⟨g, 0, none⟩) 1 1) [n] :=
  ⟨⟨_, _, _, rfl, rfl, by unfold maxLen; omega, .inr ⟨g, 0, rfl, h.lt, fun i hi => by
    have : i = 0 := by omega
    subst this
    exact h.cell 0⟩⟩, fun x hx => by rw [List.mem_singleton.1 hx]; exact hn⟩

set_option maxHeartbeats 32000000 in
theorem walk_StatusCounts (a0 : Option Addr) (len0 cap0 : Nat) (z0 : List Int) (a1 : Option Addr) (len1 cap1 : Nat) (z1 : List Int) (w : World) (w0 : IsRow .i64 w a0 len0 cap0 z0) (w1 : IsRow .i64 w a1 len1 cap1 z1) :
    Calls Try.prog 6 #[.slice a0 len0 cap0, .slice a1 len1 cap1] w fun e w' => e = .returned (.bool true) ∧ Below w.heap.size w w' := by
  have HTR := Lib.hid (fun u (hu : Below w.heap.size w u) => tree_any (.slice a0 len0 cap0) _ u ((rowInts w0).below hu))
  have HAW := Lib.hid awake16_any
  have hi1 : (Try.prog.info? 25).map (·.size) = some 1 := by kernel_rfl
  obtain ⟨hz1, hst1⟩ := zero_array (P := Try.prog) (t := 25) (n := 1) #[.slice none 0 0] (by kernel_rfl) rfl (by kernel_rfl)
  have HPK := Lib.hid (rowInts w1)
  clear w0 hst1 w1
  go_enter Try.func6, Try.ntmps6
  go_upto_region 2 with (first
    | (go_at_call 9; refine (HTR.out _ (Below.refl _ _)).mono ?_; rintro e w1 ⟨v1, ns, rfl, hn1, hc1, hok, hl9, hb1⟩; obtain ⟨va, vc, rfl, _⟩ := hn1.shape; have HN1 := Lib.hid hn1; have HOK := Lib.hid hok; have HL9 := Lib.hid hl9; have HB1 := Lib.hid hb1; clear hn1 hc1 hok hl9 hb1)
    | ((with_reducible refine at_store (.tmp 5) ?_); refine wpList_store_blk rfl 25 (.tmp 5) _ rfl w1.heap.size #[.slice va ns.length vc] rfl rfl #[.slice none 0 0] (Blk.new rfl) rfl hi1 (by simp [Value.oneCell']) ?_; intro w2 U2 B2; have hb2 := U2.below ((Below.refl w1.heap.size w1).alloc (Nat.le_refl _) (.cells #[.slice none 0 0] 25)) (Nat.le_refl _); have S2 : Hid (AnS w w1.heap.size (.slice va ns.length vc) ns w2) := ⟨B2, HN1.out.call hb2, HB1.out.trans (hb2.mono HB1.out.size)⟩; clear U2 B2 hb2))
  obtain ⟨bt, hbt⟩ : ∃ x, w1.heap.size = x := ⟨_, rfl⟩
  rw [hbt] at S2 ⊢
  have hnl : ns.length ≤ 100000 := by have := HL9.out; omega
  have HNL := Lib.hid hnl
  have HMP : Hid (0 < ns.length) := HOK.out.pos
  have HP1 : Hid (len1 ≤ maxLen) := by have := HPK.out.len; show _ ≤ _; omega
  have hpx := HP1.out
  unfold maxLen at hpx
  obtain ⟨zl, hzl⟩ : ∃ z, z1.take len1 = z := ⟨_, rfl⟩
  rw [hzl] at HPK
  clear hzl
  by_cases hbig : (20 : Int) < (len1 : Int)
  · (try simp only [Act.put])
    go_wp2_with (first
      | (go_at_call 12; refine (HAW.out _).mono ?_; rintro e w9 ⟨rfl, hb⟩; have S9 := Lib.hid (S2.out.call hb); clear hb))
    go_ret
    exact ⟨rfl, S9.out.b⟩
  have hbig' : ((20 : Int) < (len1 : Int)) = False := eq_false hbig
  clear hbig
  have HCC := Lib.hid (fun (l : List Int) (lv : Value) u (hu : AnS w bt (.slice va ns.length vc) ns u) (hl : IntsV u lv l) => ccnt_any ns l (.slice va ns.length vc) lv u hu.n hl HNL.out)
  have HRC := Lib.hid (fun (l : List Int) (lv : Value) u (hu : AnS w bt (.slice va ns.length vc) ns u) (hl : IntsV u lv l) => cntT_any ns l (.slice va ns.length vc) lv u hu.n hl HNL.out)
  have HCW : Hid (∀ u, AnS w bt (.slice va ns.length vc) ns u → Calls Try.prog 17 #[.agg #[.slice va ns.length vc]] u fun e w' => ∃ v', e = .returned v' ∧ IntsV w' v' (waitT ns) ∧ Below u.heap.size u w') := fun u hu => (cwait_any ns (.slice va ns.length vc) u hu.n HNL.out).mono fun e w' ⟨v', h1, h2, h3⟩ => ⟨v', h1, wait_ints HNL.out h2, h3⟩
  have HRW : Hid (∀ u, AnS w bt (.slice va ns.length vc) ns u → Calls Try.prog 18 #[.agg #[.slice va ns.length vc]] u fun e w' => ∃ v', e = .returned v' ∧ IntsV w' v' (waitT ns) ∧ Below u.heap.size u w') := fun u hu => (waitT_any ns (.slice va ns.length vc) u hu.n HNL.out).mono fun e w' ⟨v', h1, h2, h3⟩ => ⟨v', h1, wait_ints HNL.out h2, h3⟩
  have HSM := Lib.hid same_12
  have HPI : Hid (∀ u, AnS w bt (.slice va ns.length vc) ns u → IntsV u (.slice a1 len1 cap1) zl) := fun u hu => HPK.out.below hu.b
  have HALL := Lib.hid (cnt_all HOK.out ns.length (Nat.le_refl _))
  have HONE : Hid (cntT ns [0] ns.length = ((waitT ns).length : Nat)) := cnt_wait ns ns.length
  obtain ⟨m, hm⟩ : ∃ m, Hid (ns.length = m) := ⟨_, Lib.hid rfl⟩
  rw [hm.out] at S2 HL9 HMP HCC HRC HCW HRW HPI HALL HONE ⊢
  have hm9 : m ≤ 9 := HL9.out
  obtain ⟨WT, hWT⟩ : ∃ x, waitT ns = x := ⟨_, rfl⟩
  rw [hWT] at HCW HRW HONE
  obtain ⟨cn, hcn⟩ : ∃ x, cntT ns zl m = x := ⟨_, rfl⟩
  have HCN := Lib.hid hcn
  have HC1 : Hid (∀ u, AnS w bt (.slice va m vc) ns u → Calls Try.prog 14 #[.agg #[.slice va m vc], .slice a1 len1 cap1] u fun e w' => e = .returned (.int .i64 cn) ∧ Below u.heap.size u w') := fun u hu => by rw [← hcn]; exact HCC.out zl _ u hu (HPI.out u hu)
  have HC2 : Hid (∀ u, AnS w bt (.slice va m vc) ns u → Calls Try.prog 15 #[.agg #[.slice va m vc], .slice a1 len1 cap1] u fun e w' => e = .returned (.int .i64 cn) ∧ Below u.heap.size u w') := fun u hu => by rw [← hcn]; exact HRC.out zl _ u hu (HPI.out u hu)
  have HC3 : Hid (∀ u lv, AnS w bt (.slice va m vc) ns u → IntsV u lv [0, 1, 2] → Calls Try.prog 14 #[.agg #[.slice va m vc], lv] u fun e w' => e = .returned (.int .i64 (m : Int)) ∧ Below u.heap.size u w') := fun u lv hu hl => by rw [← HALL.out]; exact HCC.out _ lv u hu hl
  have HC4 : Hid (∀ u lv, AnS w bt (.slice va m vc) ns u → IntsV u lv [0] → Calls Try.prog 14 #[.agg #[.slice va m vc], lv] u fun e w' => e = .returned (.int .i64 ((WT.length : Nat) : Int)) ∧ Below u.heap.size u w') := fun u lv hu hl => by rw [← HONE.out]; exact HCC.out _ lv u hu hl
  clear hbt HN1 HB1 hnl hWT hcn HCC HRC HPK
  (try simp only [Act.put])
  go_upto_region 5 with (first
    | ((with_reducible refine at_load (.tmp 5) ?_); refine wpList_load_g 25 (.tmp 5) rfl bt rfl #[.slice va m vc] _ S2.out.t Try.underlying25 rfl hi1 rfl ?_)
    | (go_at_call 14; refine (HC3.out _ _ (S2.out.call ((Below.refl w2.heap.size w2).alloc (Nat.le_refl _) (.cells #[.int .i64 0, .int .i64 1, .int .i64 2] 3))) (ints_three (Blk.new rfl) (by omega) (by omega) (by omega))).mono ?_; rintro e w3 ⟨rfl, hb3⟩; have S3 := Lib.hid ((S2.out.call ((Below.refl w2.heap.size w2).alloc (Nat.le_refl _) (.cells #[.int .i64 0, .int .i64 1, .int .i64 2] 3))).call hb3); clear hb3))
  (try simp only [Act.put])
  have HSx0 : Hid ((fun u => AnS w bt (.slice va m vc) ns u) w3.drew) := S3.out.call (Below.drewN (n := 1) (Below.refl _ _) : Below w3.heap.size w3 w3.drew)
  refine wp_region_held_drew (S := fun u => AnS w bt (.slice va m vc) ns u) (by kernel_rfl) (HSx0.out) (fun _ => ?_)
  (try simp only [Act.put, List.setIfInBounds_toArray, List.set_cons_zero, List.set_cons_succ])
  obtain ⟨x0, hx0⟩ : ∃ x, w3.drew = x := ⟨_, rfl⟩
  rw [hx0] at HSx0 ⊢
  clear hx0
  refine held_load (oi := ⟨some 16, _, _, _, _, _⟩) 0 rfl (by kernel_rfl) (by kernel_rfl) (by kernel_rfl) (fun _ _ _ _ h => h) rfl 25 (.tmp 5) rfl bt (0) rfl [.slice va m vc] _ (fun u' hu => hu.t.rng) Try.underlying25 rfl (hi1) HSx0.out ?_
  (try simp only [Act.put, List.setIfInBounds_toArray, List.set_cons_zero, List.set_cons_succ])
  refine wpAnyH_take (i := 1) (oi := ⟨some 17, _, _, _, _, _⟩) (v := .slice a1 len1 cap1) rfl (by kernel_rfl) (by kernel_rfl) (by kernel_rfl) (fun _ _ _ h => h) (Or.inl ⟨by rfl, fun wz hz => ?_⟩) HSx0.out ?_
  · clear hz; go_simp; first | done | with_reducible rfl | rfl
  (try simp only [Act.put, List.setIfInBounds_toArray, List.set_cons_zero, List.set_cons_succ])
  refine held_load (oi := ⟨some 19, _, _, _, _, _⟩) 3 rfl (by kernel_rfl) (by kernel_rfl) (by kernel_rfl) (fun _ _ _ _ h => h) rfl 25 (.tmp 5) rfl bt (0) rfl [.slice va m vc] _ (fun u' hu => hu.t.rng) Try.underlying25 rfl (hi1) HSx0.out ?_
  (try simp only [Act.put, List.setIfInBounds_toArray, List.set_cons_zero, List.set_cons_succ])
  refine wpAnyH_take (i := 4) (oi := ⟨some 20, _, _, _, _, _⟩) (v := .slice a1 len1 cap1) rfl (by kernel_rfl) (by kernel_rfl) (by kernel_rfl) (fun _ _ _ h => h) (Or.inl ⟨by rfl, fun wz hz => ?_⟩) HSx0.out ?_
  · clear hz; go_simp; first | done | with_reducible rfl | rfl
  (try simp only [Act.put, List.setIfInBounds_toArray, List.set_cons_zero, List.set_cons_succ])
  refine wpAnyH_ready (rs := [2]) (by kernel_rfl) (by simp) ?_
  refine AllReadyH.cons (o := ⟨some 18, _, _, _, _, _⟩) rfl (fun K hK => ?_) AllReadyH.nil
  go_simp
  refine (HC1.out x0 HSx0.out).mono ?_
  rintro e x1 ⟨rfl, hb⟩
  have HSx1 : Hid ((fun u => AnS w bt (.slice va m vc) ns u) x1) := HSx0.out.call hb
  clear hb
  refine hK.out _ _ (HSx1.out) (fun _ => ?_)
  clear hK K
  (try simp only [Act.put, List.setIfInBounds_toArray, List.set_cons_zero, List.set_cons_succ])
  refine wpAnyH_ready (rs := [5]) (by kernel_rfl) (by simp) ?_
  refine AllReadyH.cons (o := ⟨some 21, _, _, _, _, _⟩) rfl (fun K hK => ?_) AllReadyH.nil
  go_simp
  refine (HC2.out x1 HSx1.out).mono ?_
  rintro e x2 ⟨rfl, hb⟩
  have HSx2 : Hid ((fun u => AnS w bt (.slice va m vc) ns u) x2) := HSx1.out.call hb
  clear hb
  refine hK.out _ _ (HSx2.out) (fun _ => ?_)
  clear hK K
  (try simp only [Act.put, List.setIfInBounds_toArray, List.set_cons_zero, List.set_cons_succ])
  refine wpAnyH_take (i := 6) (oi := ⟨some 22, _, _, _, _, _⟩) (v := .bool true) rfl (by kernel_rfl) (by kernel_rfl) (by kernel_rfl) (fun _ _ _ h => h) (Or.inl ⟨by rfl, fun wz hz => ?_⟩) HSx2.out ?_
  · clear hz; go_simp; first | done | with_reducible rfl | rfl
  (try simp only [Act.put, List.setIfInBounds_toArray, List.set_cons_zero, List.set_cons_succ])
  refine wpAnyH_take (i := 7) (oi := ⟨some 23, _, _, _, _, _⟩) (v := .bool true) rfl (by kernel_rfl) (by kernel_rfl) (by kernel_rfl) (fun _ _ _ h => h) (Or.inl ⟨by rfl, fun wz hz => ?_⟩) HSx2.out ?_
  · clear hz; go_simp; first | done | with_reducible rfl | rfl
  (try simp only [Act.put, List.setIfInBounds_toArray, List.set_cons_zero, List.set_cons_succ])
  refine held_load (oi := ⟨some 24, _, _, _, _, _⟩) 8 rfl (by kernel_rfl) (by kernel_rfl) (by kernel_rfl) (fun _ _ _ _ h => h) rfl 25 (.tmp 5) rfl bt (0) rfl [.slice va m vc] _ (fun u' hu => hu.t.rng) Try.underlying25 rfl (hi1) HSx2.out ?_
  (try simp only [Act.put, List.setIfInBounds_toArray, List.set_cons_zero, List.set_cons_succ])
  refine held_load (oi := ⟨some 26, _, _, _, _, _⟩) 10 rfl (by kernel_rfl) (by kernel_rfl) (by kernel_rfl) (fun _ _ _ _ h => h) rfl 25 (.tmp 5) rfl bt (0) rfl [.slice va m vc] _ (fun u' hu => hu.t.rng) Try.underlying25 rfl (hi1) HSx2.out ?_
  (try simp only [Act.put, List.setIfInBounds_toArray, List.set_cons_zero, List.set_cons_succ])
  refine wpAnyH_ready (rs := [9]) (by kernel_rfl) (by simp) ?_
  refine AllReadyH.cons (o := ⟨some 25, _, _, _, _, _⟩) rfl (fun K hK => ?_) AllReadyH.nil
  go_simp
  refine (HCW.out x2 HSx2.out).mono ?_
  rintro e x3 ⟨v1, rfl, hc1, hb⟩
  have HW1 := Lib.hid hc1
  clear hc1
  have HSx3 : Hid ((fun u => AnS w bt (.slice va m vc) ns u) x3) := HSx2.out.call hb
  clear hb
  refine hK.out _ _ (HSx3.out) (fun _ => ?_)
  clear hK K
  (try simp only [Act.put, List.setIfInBounds_toArray, List.set_cons_zero, List.set_cons_succ])
  refine wpAnyH_ready (rs := [11]) (by kernel_rfl) (by simp) ?_
  refine AllReadyH.cons (o := ⟨some 27, _, _, _, _, _⟩) rfl (fun K hK => ?_) AllReadyH.nil
  go_simp
  refine (HRW.out x3 HSx3.out).mono ?_
  rintro e x4 ⟨v2, rfl, hc2, hb⟩
  have HW2 := Lib.hid hc2
  clear hc2
  have HW1 := Lib.hid (HW1.out.below hb)
  have HSx4 : Hid ((fun u => AnS w bt (.slice va m vc) ns u) x4) := HSx3.out.call hb
  clear hb
  refine hK.out _ _ (HSx4.out) (fun _ => ?_)
  clear hK K
  (try simp only [Act.put, List.setIfInBounds_toArray, List.set_cons_zero, List.set_cons_succ])
  refine wpAnyH_ready (rs := [12]) (by kernel_rfl) (by simp) ?_
  refine AllReadyH.cons (o := ⟨some 28, _, _, _, _, _⟩) rfl (fun K hK => ?_) AllReadyH.nil
  go_simp
  refine (HSM.out v1 v2 WT x4 HW1.out HW2.out).mono ?_
  rintro e x5 ⟨rfl, hb⟩
  have HSx5 : Hid ((fun u => AnS w bt (.slice va m vc) ns u) x5) := HSx4.out.call hb
  clear hb
  refine hK.out _ _ (HSx5.out) (fun _ => ?_)
  clear hK K
  (try simp only [Act.put, List.setIfInBounds_toArray, List.set_cons_zero, List.set_cons_succ])
  refine wpAnyH_take (i := 13) (oi := ⟨some 29, _, _, _, _, _⟩) (v := .bool true) rfl (by kernel_rfl) (by kernel_rfl) (by kernel_rfl) (fun _ _ _ h => h) (Or.inl ⟨by rfl, fun wz hz => ?_⟩) HSx5.out ?_
  · clear hz; go_simp; first | done | with_reducible rfl | rfl
  (try simp only [Act.put, List.setIfInBounds_toArray, List.set_cons_zero, List.set_cons_succ])
  refine wpAnyH_take (i := 14) (oi := ⟨some 30, _, _, _, _, _⟩) (v := .bool true) rfl (by kernel_rfl) (by kernel_rfl) (by kernel_rfl) (fun _ _ _ h => h) (Or.inl ⟨by rfl, fun wz hz => ?_⟩) HSx5.out ?_
  · clear hz; go_simp; first | done | with_reducible rfl | rfl
  (try simp only [Act.put, List.setIfInBounds_toArray, List.set_cons_zero, List.set_cons_succ])
  refine wpAnyH_take (i := 15) (oi := ⟨some 31, _, _, _, _, _⟩) (v := .int .i64 (m : Int)) rfl (by kernel_rfl) (by kernel_rfl) (by kernel_rfl) (fun _ _ _ h => h) (Or.inl ⟨by rfl, fun wz hz => ?_⟩) HSx5.out ?_
  · clear hz; go_simp; first | done | with_reducible rfl | rfl
  (try simp only [Act.put, List.setIfInBounds_toArray, List.set_cons_zero, List.set_cons_succ])
  refine wpAnyH_take (i := 16) (oi := ⟨some 32, _, _, _, _, _⟩) (v := .pointer (some ⟨bt, 0, none⟩)) rfl (by kernel_rfl) (by kernel_rfl) (by kernel_rfl) (fun _ _ _ h => h) (Or.inl ⟨by rfl, fun wz hz => ?_⟩) HSx5.out ?_
  · clear hz; go_simp; first | done | with_reducible rfl | rfl
  (try simp only [Act.put, List.setIfInBounds_toArray, List.set_cons_zero, List.set_cons_succ])
  refine held_load1 (oi := ⟨some 33, _, _, _, _, _⟩) 17 rfl (by kernel_rfl) (by kernel_rfl) (by kernel_rfl) (fun _ _ _ _ h => h) rfl 23 (.tmp 32) rfl bt (0) rfl (.slice va m vc) _ (fun u' hu => hu.t.cell 0) Try.underlying23 rfl HSx5.out ?_
  (try simp only [Act.put, List.setIfInBounds_toArray, List.set_cons_zero, List.set_cons_succ])
  refine wpAnyH_take (i := 18) (oi := ⟨some 34, _, _, _, _, _⟩) (v := .int .i64 (m : Int)) rfl (by kernel_rfl) (by kernel_rfl) (by kernel_rfl) (fun _ _ _ h => h) (Or.inl ⟨by rfl, fun wz hz => ?_⟩) HSx5.out ?_
  · clear hz; go_simp; first | done | with_reducible rfl | rfl
  (try simp only [Act.put, List.setIfInBounds_toArray, List.set_cons_zero, List.set_cons_succ])
  refine wpAnyH_take (i := 19) (oi := ⟨some 35, _, _, _, _, _⟩) (v := .bool true) rfl (by kernel_rfl) (by kernel_rfl) (by kernel_rfl) (fun _ _ _ h => h) (Or.inl ⟨by rfl, fun wz hz => ?_⟩) HSx5.out ?_
  · clear hz; go_simp; first | done | with_reducible rfl | rfl
  (try simp only [Act.put, List.setIfInBounds_toArray, List.set_cons_zero, List.set_cons_succ])
  refine wpAnyH_take (i := 20) (oi := ⟨some 36, _, _, _, _, _⟩) (v := .bool true) rfl (by kernel_rfl) (by kernel_rfl) (by kernel_rfl) (fun _ _ _ h => h) (Or.inl ⟨by rfl, fun wz hz => ?_⟩) HSx5.out ?_
  · clear hz; go_simp; first | done | with_reducible rfl | rfl
  (try simp only [Act.put, List.setIfInBounds_toArray, List.set_cons_zero, List.set_cons_succ])
  refine wpAnyH_take (i := 21) (oi := ⟨some 37, _, _, _, _, _⟩) (v := .bool true) rfl (by kernel_rfl) (by kernel_rfl) (by kernel_rfl) (fun _ _ _ h => h) (Or.inl ⟨by rfl, fun wz hz => ?_⟩) HSx5.out ?_
  · clear hz; go_simp; first | done | with_reducible rfl | rfl
  (try simp only [Act.put, List.setIfInBounds_toArray, List.set_cons_zero, List.set_cons_succ])
  refine held_load (oi := ⟨some 38, _, _, _, _, _⟩) 22 rfl (by kernel_rfl) (by kernel_rfl) (by kernel_rfl) (fun _ _ _ _ h => h) rfl 25 (.tmp 5) rfl bt (0) rfl [.slice va m vc] _ (fun u' hu => hu.t.rng) Try.underlying25 rfl (hi1) HSx5.out ?_
  (try simp only [Act.put, List.setIfInBounds_toArray, List.set_cons_zero, List.set_cons_succ])
  refine held_load (oi := ⟨some 41, _, _, _, _, _⟩) 25 rfl (by kernel_rfl) (by kernel_rfl) (by kernel_rfl) (fun _ _ _ _ h => h) rfl 25 (.tmp 5) rfl bt (0) rfl [.slice va m vc] _ (fun u' hu => hu.t.rng) Try.underlying25 rfl (hi1) HSx5.out ?_
  (try simp only [Act.put, List.setIfInBounds_toArray, List.set_cons_zero, List.set_cons_succ])
  refine wpAnyH_ready (rs := [23]) (by kernel_rfl) (by simp) ?_
  refine AllReadyH.cons (o := ⟨some 39, _, _, _, _, _⟩) rfl (fun K hK => ?_) AllReadyH.nil
  rw [if_pos (by rfl)]
  refine wp_buildSlice 22 1 _ rfl #[(0, .int .i64 0)] (by simp [Act.eval]) _ (bs_int 0 _) ?_
  have HAL : Hid (Below x5.heap.size x5 (x5.alloc (.cells #[.int .i64 0] 3))) := (Below.refl _ _).alloc (Nat.le_refl _) _
  have HI0 : Hid (IntsV (x5.alloc (.cells #[.int .i64 0] 3)) (.slice (some ⟨x5.heap.size, 0, none⟩) 1 1) [0]) := int_one (Blk.new rfl) (by omega)
  obtain ⟨gz, hgz⟩ : ∃ x, x5.heap.size = x := ⟨_, rfl⟩
  obtain ⟨xz, hxz⟩ : ∃ x, x5.alloc (.cells #[.int .i64 0] 3) = x := ⟨_, rfl⟩
  have HSxz : Hid (AnS w bt (.slice va m vc) ns xz) := by show AnS _ _ _ _ _; rw [← hxz]; exact HSx5.out.call HAL.out
  rw [hgz, hxz] at HI0
  rw [hgz, hxz]
  clear hgz hxz HAL
  refine hK.out _ _ (HSxz.out) (fun _ => ?_)
  clear hK K
  (try simp only [Act.put, List.setIfInBounds_toArray, List.set_cons_zero, List.set_cons_succ])
  refine wpAnyH_ready (rs := [24]) (by kernel_rfl) (by simp) ?_
  refine AllReadyH.cons (o := ⟨some 40, _, _, _, _, _⟩) rfl (fun K hK => ?_) AllReadyH.nil
  go_simp
  refine (HC4.out xz _ HSxz.out HI0.out).mono ?_
  rintro e x6 ⟨rfl, hb⟩
  have HSx6 : Hid ((fun u => AnS w bt (.slice va m vc) ns u) x6) := HSxz.out.call hb
  clear hb
  refine hK.out _ _ (HSx6.out) (fun _ => ?_)
  clear hK K
  (try simp only [Act.put, List.setIfInBounds_toArray, List.set_cons_zero, List.set_cons_succ])
  refine wpAnyH_ready (rs := [26]) (by kernel_rfl) (by simp) ?_
  refine AllReadyH.cons (o := ⟨some 42, _, _, _, _, _⟩) rfl (fun K hK => ?_) AllReadyH.nil
  go_simp
  refine (HCW.out x6 HSx6.out).mono ?_
  rintro e x7 ⟨v3, rfl, hc3, hb⟩
  have HW3 := Lib.hid hc3
  clear hc3
  obtain ⟨wa, wl, wc, rfl⟩ := ints_shape' HW3.out.1
  have hwl := HW3.out.len.1
  subst hwl
  have HSx7 : Hid ((fun u => AnS w bt (.slice va m vc) ns u) x7) := HSx6.out.call hb
  clear hb
  refine hK.out _ _ (HSx7.out) (fun _ => ?_)
  clear hK K
  (try simp only [Act.put, List.setIfInBounds_toArray, List.set_cons_zero, List.set_cons_succ])
  refine wpAnyH_take (i := 27) (oi := ⟨some 43, _, _, _, _, _⟩) (v := .int .i64 ((WT.length : Nat) : Int)) rfl (by kernel_rfl) (by kernel_rfl) (by kernel_rfl) (fun _ _ _ h => h) (Or.inl ⟨by rfl, fun wz hz => ?_⟩) HSx7.out ?_
  · clear hz; go_simp; first | done | with_reducible rfl | rfl
  (try simp only [Act.put, List.setIfInBounds_toArray, List.set_cons_zero, List.set_cons_succ])
  refine wpAnyH_take (i := 28) (oi := ⟨some 44, _, _, _, _, _⟩) (v := .bool true) rfl (by kernel_rfl) (by kernel_rfl) (by kernel_rfl) (fun _ _ _ h => h) (Or.inl ⟨by rfl, fun wz hz => ?_⟩) HSx7.out ?_
  · clear hz; go_simp; first | done | with_reducible rfl | rfl
  (try simp only [Act.put, List.setIfInBounds_toArray, List.set_cons_zero, List.set_cons_succ])
  refine wpAnyH_take (i := 29) (oi := ⟨some 45, _, _, _, _, _⟩) (v := .bool true) rfl (by kernel_rfl) (by kernel_rfl) (by kernel_rfl) (fun _ _ _ h => h) (Or.inl ⟨by rfl, fun wz hz => ?_⟩) HSx7.out ?_
  · clear hz; go_simp; first | done | with_reducible rfl | rfl
  (try simp only [Act.put, List.setIfInBounds_toArray, List.set_cons_zero, List.set_cons_succ])
  refine wpAnyH_take (i := 30) (oi := ⟨some 46, _, _, _, _, _⟩) (v := .bool true) rfl (by kernel_rfl) (by kernel_rfl) (by kernel_rfl) (fun _ _ _ h => h) (Or.inl ⟨by rfl, fun wz hz => ?_⟩) HSx7.out ?_
  · clear hz; go_simp; first | done | with_reducible rfl | rfl
  (try simp only [Act.put, List.setIfInBounds_toArray, List.set_cons_zero, List.set_cons_succ])
  refine wpAnyH_ready (rs := [31]) (by kernel_rfl) (by simp) ?_
  refine AllReadyH.cons (o := ⟨some 47, _, _, _, _, _⟩) rfl (fun K hK => ?_) AllReadyH.nil
  go_simp
  refine (HAW.out x7).mono ?_
  rintro e x8 ⟨rfl, hb⟩
  have HSx8 : Hid ((fun u => AnS w bt (.slice va m vc) ns u) x8) := HSx7.out.call hb
  clear hb
  refine hK.out _ _ (HSx8.out) (fun _ => ?_)
  clear hK K
  (try simp only [Act.put, List.setIfInBounds_toArray, List.set_cons_zero, List.set_cons_succ])
  refine wpAnyH_take (i := 32) (oi := ⟨some 48, _, _, _, _, _⟩) (v := .bool true) rfl (by kernel_rfl) (by kernel_rfl) (by kernel_rfl) (fun _ _ _ h => h) (Or.inl ⟨by rfl, fun wz hz => ?_⟩) HSx8.out ?_
  · clear hz; go_simp; first | done | with_reducible rfl | rfl
  (try simp only [Act.put, List.setIfInBounds_toArray, List.set_cons_zero, List.set_cons_succ])
  refine wpAnyH_ready (rs := [33]) (by kernel_rfl) (by simp) ?_
  refine AllReadyH.cons (o := ⟨some 4, _, _, _, _, _⟩) rfl (fun K hK => ?_) AllReadyH.nil
  go_simp
  refine hK.out _ _ (HSx8.out) (fun _ => ?_)
  clear hK K
  (try simp only [Act.put, List.setIfInBounds_toArray, List.set_cons_zero, List.set_cons_succ])
  refine wpAnyH_done (by kernel_rfl) ?_ _
  go_wp2_with fail
  go_ret
  exact ⟨rfl, HSx8.out.b⟩
end

end Go.Proofs.Ytdmjpmigejpkmaa
