/- AncestryMeets. (Written by gen/l12m-gen.py.) -/
import Derived.Test.YtdbkphkgjaecoaaAnE
import Derived.Test.YtdbkphkgjaecoaaAnG
set_option linter.unusedVariables false

set_option linter.unusedSimpArgs false
namespace Go.Proofs.Ytdbkphkgjaecoaa
open Go.RowKit

set_option maxRecDepth 100000

set_option maxHeartbeats 32000000 in
theorem walk_AncestryMeets (a0 : Option Addr) (len0 cap0 : Nat) (z0 : List Int) (a1 : Int) (a2 : Int) (w : World) (w0 : IsRow .i64 w a0 len0 cap0 z0) (w1 : (Lit.int .i64 a1).wf = true) (w2 : (Lit.int .i64 a2).wf = true) :
    Calls Try.prog 7 #[.slice a0 len0 cap0, .int .i64 a1, .int .i64 a2] w fun e w' => e = .returned (.bool true) ∧ Below w.heap.size w w' := by
  have HTR := Lib.hid (fun u (hu : Below w.heap.size w u) => tree_any (.slice a0 len0 cap0) _ u ((rowInts w0).below hu))
  have HAW := Lib.hid awake12_any
  have hi1 : (Try.prog.info? 25).map (·.size) = some 1 := by kernel_rfl
  obtain ⟨hz1, hst1⟩ := zero_array (P := Try.prog) (t := 25) (n := 1) #[.slice none 0 0] (by kernel_rfl) rfl (by kernel_rfl)
  clear w0 hst1
  go_enter Try.func7, Try.ntmps7
  go_upto_region 2 with (first
    | (go_at_call 9; refine (HTR.out _ (Below.refl _ _)).mono ?_; rintro e w1 ⟨v1, ns, rfl, hn1, hc1, hok, hl9, hb1⟩; obtain ⟨va, vc, rfl, _⟩ := hn1.shape; have HN1 := Lib.hid hn1; have HOK := Lib.hid hok; have HL9 := Lib.hid hl9; have HB1 := Lib.hid hb1; clear hn1 hc1 hok hl9 hb1)
    | ((with_reducible refine at_store (.tmp 7) ?_); refine wpList_store_blk rfl 25 (.tmp 7) _ rfl w1.heap.size #[.slice va ns.length vc] rfl rfl #[.slice none 0 0] (Blk.new rfl) rfl hi1 (by simp [Value.oneCell']) ?_; intro w2 U2 B2; have hb2 := U2.below ((Below.refl w1.heap.size w1).alloc (Nat.le_refl _) (.cells #[.slice none 0 0] 25)) (Nat.le_refl _); have S2 : Hid (AnS w w1.heap.size (.slice va ns.length vc) ns w2) := ⟨B2, HN1.out.call hb2, HB1.out.trans (hb2.mono HB1.out.size)⟩; clear U2 B2 hb2))
  obtain ⟨bt, hbt⟩ : ∃ x, w1.heap.size = x := ⟨_, rfl⟩
  rw [hbt] at S2 ⊢
  have hnl : ns.length ≤ 100000 := by have := HL9.out; omega
  have HNL := Lib.hid hnl
  have HMP : Hid (0 < ns.length) := HOK.out.pos
  have HIA := Lib.hid (fun (x y : Int) u (hu : AnS w bt (.slice va ns.length vc) ns u) => anis_any ns HOK.out x y (.slice va ns.length vc) u hu.n)
  have HHE := Lib.hid (fun (x y : Int) u (hu : AnS w bt (.slice va ns.length vc) ns u) => anhe_any ns HOK.out x y (.slice va ns.length vc) u hu.n)
  have HCO := Lib.hid (fun (l : List Int) (lv : Value) u (hu : AnS w bt (.slice va ns.length vc) ns u) (hl : IntsV u lv l) => anco_any ns HOK.out l (.slice va ns.length vc) lv u hu.n hl)
  obtain ⟨m, hm⟩ : ∃ m, Hid (ns.length = m) := ⟨_, Lib.hid rfl⟩
  rw [hm.out] at S2 HL9 HMP HIA HHE HCO ⊢
  have hm9 : m ≤ 9 := HL9.out
  have hm1 : 0 < m := HMP.out
  clear hbt HN1 HB1 hnl
  (try simp only [Act.put])
  obtain ⟨P, hlP, hP⟩ := i64_and16_nat a1
  obtain ⟨p, hp⟩ : ∃ x, P % m = x := ⟨_, rfl⟩
  have hrp : Int.tmod (P : Int) (m : Int) = (p : Int) := by rw [tmod_nat, hp]
  have hmp : p < m := by rw [← hp]; exact Nat.mod_lt _ hm1
  clear hp
  obtain ⟨Q, hlQ, hQ⟩ := i64_and16_nat a2
  obtain ⟨q, hq⟩ : ∃ x, Q % m = x := ⟨_, rfl⟩
  have hrq : Int.tmod (Q : Int) (m : Int) = (q : Int) := by rw [tmod_nat, hq]
  have hmq : q < m := by rw [← hq]; exact Nat.mod_lt _ hm1
  clear hq
  have hpn : p < ns.length := by rw [hm.out]; exact hmp
  have hqn : q < ns.length := by rw [hm.out]; exact hmq
  have hpm : (p : Int) < m := by omega
  have hqm : (q : Int) < m := by omega
  obtain ⟨c, hc, hc1, hc2, hcp, hcq, hcx⟩ := com_two HOK.out hpn hqn
  have HC1 := Lib.hid (fun lv u hu hl => HCO.out [(p : Int), (q : Int)] lv u hu hl)
  have HC2 := Lib.hid (fun lv u hu hl => HCO.out [(q : Int), (p : Int)] lv u hu hl)
  have HC3 := Lib.hid (fun lv u hu hl => HCO.out [(p : Int)] lv u hu hl)
  rw [hc1] at HC1
  rw [hc2] at HC2
  rw [com_one HOK.out hpn] at HC3
  have HA1 := Lib.hid (fun u hu => HIA.out (c : Int) (p : Int) u hu)
  have HA2 := Lib.hid (fun u hu => HIA.out (c : Int) (q : Int) u hu)
  rw [decide_eq_true hcp] at HA1
  rw [decide_eq_true hcq] at HA2
  have HCP := Lib.hid hcp
  have HCQ := Lib.hid hcq
  have HCX := Lib.hid hcx
  have hcm : (c : Int) < m := by rw [← hm.out]; omega
  have hc0 : ((c : Int) < 0) = False := eq_false (by omega)
  have hm0 : ((m : Int) == 0) = false := by simp; omega
  have hm0' : ¬ (m : Int) = 0 := by omega
  have hccn : ((c : Int) != (c : Int)) = false := by simp
  have hppn : ((p : Int) != (p : Int)) = false := by simp
  clear hc1 hc2 hcp hcq hcx
  refine wp_region_fam2 (by kernel_rfl) (by kernel_rfl) ?_
  intro T F hT hF hG
  have c0 : ∀ t, (F t).cell? ⟨bt, 0, none⟩ = some (.slice va m vc) := fun t => (S2.out.call (hF t)).t.cell 0
  have CT := Lib.hid (show ∀ u, (∃ t, u = F t) → Blk u bt #[.slice va m vc] by rintro _ ⟨t, rfl⟩; exact (S2.out.call (hF t)).t)
  repeat (first
    | ((with_reducible refine at_qload (.tmp 7) ?_); refine wpQuiet_load 25 _ rfl bt rfl #[.slice va m vc] CT.out Try.underlying25 rfl hi1 (by kernel_rfl) ?_; simp only [Act.put, List.setIfInBounds_toArray, List.set_cons_succ, List.set_cons_zero])
    | (go_big_quiet_step (fail)))
  refine wpQuiet_nil ?_
  rintro _ ⟨t, rfl⟩
  have S3 := Lib.hid (S2.out.call (hF t))
  obtain ⟨uS3, hu⟩ : ∃ z, F t = z := ⟨_, rfl⟩
  rw [hu] at S3 ⊢
  clear c0 CT hG hu hF hT
  clear t F T
  have S := S3
  have hp64 : -9223372036854775808 ≤ (p : Int) ∧ (p : Int) ≤ 9223372036854775807 := by omega
  have hq64 : -9223372036854775808 ≤ (q : Int) ∧ (q : Int) ≤ 9223372036854775807 := by omega
  clear S3
  go_upto_region 6 with (first
    | ((with_reducible refine at_load (.tmp 7) ?_); refine wpList_load_g 25 (.tmp 7) rfl bt rfl #[.slice va m vc] _ S.out.t Try.underlying25 rfl hi1 rfl ?_)
    | (go_at_call 22; have _d := K4; refine (HC3.out _ _ (S.out.call ((Below.refl _ _).alloc (Nat.le_refl _) (.cells #[.int .i64 (p : Int)] 3))) ⟨one_ints _ _, by simp; omega⟩).mono ?_; rintro e w8 ⟨rfl, hb⟩; have S := Lib.hid ((S.out.call ((Below.refl _ _).alloc (Nat.le_refl _) (.cells #[.int .i64 (p : Int)] 3))).call hb); clear hb)
    | (go_at_call 22; have _d := K3; refine (HC2.out _ _ (S.out.call ((Below.refl _ _).alloc (Nat.le_refl _) (.cells #[.int .i64 (q : Int), .int .i64 (p : Int)] 3))) (ints_two11 (Blk.new rfl) hq64 hp64)).mono ?_; rintro e w7 ⟨rfl, hb⟩; have S := Lib.hid ((S.out.call ((Below.refl _ _).alloc (Nat.le_refl _) (.cells #[.int .i64 (q : Int), .int .i64 (p : Int)] 3))).call hb); have K4 := True.intro; clear hb)
    | (go_at_call 13; have _d := K2; refine (HA2.out _ S.out).mono ?_; rintro e w6 ⟨rfl, hb⟩; have S := Lib.hid (S.out.call hb); have K3 := True.intro; clear hb)
    | (go_at_call 13; have _d := K1; refine (HA1.out _ S.out).mono ?_; rintro e w5 ⟨rfl, hb⟩; have S := Lib.hid (S.out.call hb); have K2 := True.intro; clear hb)
    | (go_at_call 22; refine (HC1.out _ _ (S.out.call ((Below.refl _ _).alloc (Nat.le_refl _) (.cells #[.int .i64 (p : Int), .int .i64 (q : Int)] 3))) (ints_two11 (Blk.new rfl) hp64 hq64)).mono ?_; rintro e w4 ⟨rfl, hb⟩; have S := Lib.hid ((S.out.call ((Below.refl _ _).alloc (Nat.le_refl _) (.cells #[.int .i64 (p : Int), .int .i64 (q : Int)] 3))).call hb); have K1 := True.intro; clear hb))
  (try simp only [Act.put])
  obtain ⟨hf, hhf⟩ : ∃ f : Int → Int, (fun b => heirN ns (c : Int) b) = f := ⟨_, rfl⟩
  have HHF : Hid (∀ b, heirN ns (c : Int) b = hf b) := fun b => by rw [← hhf]
  have HH : Hid (∀ (b : Int) u, AnS w bt (.slice va m vc) ns u → Calls Try.prog 17 #[.agg #[.slice va m vc], .int .i64 (c : Int), .int .i64 b] u fun e w' => e = .returned (.int .i64 (hf b)) ∧ Below u.heap.size u w') := fun b u hu => by
    have h := HHE.out (c : Int) b u hu
    rw [HHF.out b] at h
    exact h
  clear hhf
  refine wp_region_fam2 (by kernel_rfl) (by kernel_rfl) ?_
  intro T F hT hF hG
  have c0 : ∀ t, (F t).cell? ⟨bt, 0, none⟩ = some (.slice va m vc) := fun t => (S.out.call (hF t)).t.cell 0
  have CT := Lib.hid (show ∀ u, (∃ t, u = F t) → Blk u bt #[.slice va m vc] by rintro _ ⟨t, rfl⟩; exact (S.out.call (hF t)).t)
  repeat (first
    | ((with_reducible refine at_qload (.tmp 7) ?_); refine wpQuiet_load 25 _ rfl bt rfl #[.slice va m vc] CT.out Try.underlying25 rfl hi1 (by kernel_rfl) ?_; simp only [Act.put, List.setIfInBounds_toArray, List.set_cons_succ, List.set_cons_zero])
    | (go_big_quiet_step ((go_at_call 17; exact fam_call hF hG (Nat.le_refl _) (HH.out _ (F _) (S.out.call (hF _)))))))
  refine wpQuiet_nil ?_
  rintro _ ⟨t, rfl⟩
  have S6 := Lib.hid (S.out.call (hF t))
  obtain ⟨uS6, hu⟩ : ∃ z, F t = z := ⟨_, rfl⟩
  rw [hu] at S6 ⊢
  clear c0 CT hG hu hF hT
  clear t F T
  have HXP := Lib.hid (HHF.out (p : Int))
  have HXQ := Lib.hid (HHF.out (q : Int))
  obtain ⟨x, hx⟩ : ∃ x, hf (p : Int) = x := ⟨_, rfl⟩
  obtain ⟨y, hy⟩ : ∃ y, hf (q : Int) = y := ⟨_, rfl⟩
  rw [hx] at HXP ⊢
  rw [hy] at HXQ ⊢
  clear hx hy
  by_cases hcp : c = p
  · by_cases hcq : c = q
    · have hx1 : x = -1 := by rw [← HXP.out, hcp]; exact heirN_self HOK.out (p : Int)
      subst hx1
      have hcpb : ((c : Int) == (p : Int)) = true := by simp; omega
      have hy1 : y = -1 := by rw [← HXQ.out, hcq]; exact heirN_self HOK.out (q : Int)
      subst hy1
      have hcqb : ((c : Int) == (q : Int)) = true := by simp; omega
      clear hcp hcq HXP HXQ
      go_wp2_with (first
        | (go_at_call 19; refine (HAW.out _).mono ?_; rintro e w9 ⟨rfl, hb⟩; have S9 := Lib.hid (S6.out.call hb); clear hb))
      go_ret
      exact ⟨rfl, S9.out.b⟩
    · have hx1 : x = -1 := by rw [← HXP.out, hcp]; exact heirN_self HOK.out (p : Int)
      subst hx1
      have hcpb : ((c : Int) == (p : Int)) = true := by simp; omega
      obtain ⟨i, hi, hix, hiu, him⟩ := heir_spec HOK.out q hqn HCQ.out (by omega)
      rw [HXQ.out] at hix
      subst hix
      have hcqb : ((c : Int) == (q : Int)) = false := by simp; omega
      have hi0 : ((i : Int) < 0) = False := eq_false (by omega)
      clear him hiu
      clear hcp hcq HXP HXQ
      go_wp2_with (first
        | (go_at_call 19; refine (HAW.out _).mono ?_; rintro e w9 ⟨rfl, hb⟩; have S9 := Lib.hid (S6.out.call hb); clear hb))
      go_ret
      exact ⟨rfl, S9.out.b⟩
  · by_cases hcq : c = q
    · obtain ⟨j, hj, hjx, hju, hjm⟩ := heir_spec HOK.out p hpn HCP.out (by omega)
      rw [HXP.out] at hjx
      subst hjx
      have hcpb : ((c : Int) == (p : Int)) = false := by simp; omega
      have hj0 : ((j : Int) < 0) = False := eq_false (by omega)
      have HJP := Lib.hid (fun u hu => HIA.out (j : Int) (p : Int) u hu)
      rw [decide_eq_true hjm] at HJP
      have HJM := Lib.hid hjm
      have HJU := Lib.hid hju
      clear hjm
      have hy1 : y = -1 := by rw [← HXQ.out, hcq]; exact heirN_self HOK.out (q : Int)
      subst hy1
      have hcqb : ((c : Int) == (q : Int)) = true := by simp; omega
      have hji : ((j : Int) == (-1 : Int)) = false := by simp
      clear hcp hcq HXP HXQ
      obtain ⟨b, off, rfl, hlm, hbb, hna, _⟩ := S6.out.n.elem hj
      have HUP : Hid (uS6.cell? ⟨b, off + j * 240 + 238, none⟩ = some (.int .i64 (c : Int))) := by show _ = _; rw [hna.up, HJU.out]
      have hjm1 : (j : Int) < m := by rw [← hm.out]; omega
      have hjm2 : ((m : Int) ≤ (j : Int)) = False := eq_false (by omega)
      have hd1 : decide ((m : Int) ≤ (j : Int)) = false := decide_eq_false (by omega)
      clear hlm hna hju
      go_wp2_with (first
        | ((with_reducible refine at_load (.tmp 98) ?_); refine wpList_load_1 23 (.tmp 98) rfl bt 0 (.slice (some ⟨b, off, none⟩) m vc) (S6.out.t.cell 0) rfl _ Try.underlying23 rfl rfl ?_)
        | ((with_reducible refine at_load (.tmp 103) ?_); refine wpList_load_1 23 (.tmp 103) rfl bt 0 (.slice (some ⟨b, off, none⟩) m vc) (S6.out.t.cell 0) rfl _ Try.underlying23 rfl rfl ?_)
        | ((with_reducible refine at_load (.tmp 107) ?_); refine wpList_load_1 3 (.tmp 107) rfl b (off + j * 240 + 238) (.int .i64 (c : Int)) HUP.out rfl _ Try.underlying3 rfl rfl ?_)
        | ((with_reducible refine at_load (.tmp 7) ?_); refine wpList_load_g 25 (.tmp 7) rfl bt rfl #[.slice (some ⟨b, off, none⟩) m vc] _ S6.out.t Try.underlying25 rfl hi1 rfl ?_)
        | (go_at_call 13; refine (HJP.out _ S6.out).mono ?_; rintro e w8 ⟨rfl, hb⟩; have S8 := Lib.hid (S6.out.call hb); clear hb)
        | (go_at_call 19; refine (HAW.out _).mono ?_; rintro e w9 ⟨rfl, hb⟩; have S9 := Lib.hid (S8.out.call hb); clear hb))
      go_ret
      exact ⟨rfl, S9.out.b⟩
    · obtain ⟨j, hj, hjx, hju, hjm⟩ := heir_spec HOK.out p hpn HCP.out (by omega)
      rw [HXP.out] at hjx
      subst hjx
      have hcpb : ((c : Int) == (p : Int)) = false := by simp; omega
      have hj0 : ((j : Int) < 0) = False := eq_false (by omega)
      have HJP := Lib.hid (fun u hu => HIA.out (j : Int) (p : Int) u hu)
      rw [decide_eq_true hjm] at HJP
      have HJM := Lib.hid hjm
      have HJU := Lib.hid hju
      clear hjm
      obtain ⟨i, hi, hix, hiu, him⟩ := heir_spec HOK.out q hqn HCQ.out (by omega)
      rw [HXQ.out] at hix
      subst hix
      have hcqb : ((c : Int) == (q : Int)) = false := by simp; omega
      have hi0 : ((i : Int) < 0) = False := eq_false (by omega)
      have hji : ((j : Int) == (i : Int)) = false := by
        have : ¬ (j : Int) = (i : Int) := fun e => by
          have h1 := HCX.out (j : Int) HJM.out (by rw [e]; exact him)
          have h2 := (up_path HOK.out hj).2.1
          rw [hju] at h2
          omega
        simpa using this
      clear him hiu
      clear hcp hcq HXP HXQ
      obtain ⟨b, off, rfl, hlm, hbb, hna, _⟩ := S6.out.n.elem hj
      have HUP : Hid (uS6.cell? ⟨b, off + j * 240 + 238, none⟩ = some (.int .i64 (c : Int))) := by show _ = _; rw [hna.up, HJU.out]
      have hjm1 : (j : Int) < m := by rw [← hm.out]; omega
      have hjm2 : ((m : Int) ≤ (j : Int)) = False := eq_false (by omega)
      have hd1 : decide ((m : Int) ≤ (j : Int)) = false := decide_eq_false (by omega)
      clear hlm hna hju
      go_wp2_with (first
        | ((with_reducible refine at_load (.tmp 98) ?_); refine wpList_load_1 23 (.tmp 98) rfl bt 0 (.slice (some ⟨b, off, none⟩) m vc) (S6.out.t.cell 0) rfl _ Try.underlying23 rfl rfl ?_)
        | ((with_reducible refine at_load (.tmp 103) ?_); refine wpList_load_1 23 (.tmp 103) rfl bt 0 (.slice (some ⟨b, off, none⟩) m vc) (S6.out.t.cell 0) rfl _ Try.underlying23 rfl rfl ?_)
        | ((with_reducible refine at_load (.tmp 107) ?_); refine wpList_load_1 3 (.tmp 107) rfl b (off + j * 240 + 238) (.int .i64 (c : Int)) HUP.out rfl _ Try.underlying3 rfl rfl ?_)
        | ((with_reducible refine at_load (.tmp 7) ?_); refine wpList_load_g 25 (.tmp 7) rfl bt rfl #[.slice (some ⟨b, off, none⟩) m vc] _ S6.out.t Try.underlying25 rfl hi1 rfl ?_)
        | (go_at_call 13; refine (HJP.out _ S6.out).mono ?_; rintro e w8 ⟨rfl, hb⟩; have S8 := Lib.hid (S6.out.call hb); clear hb)
        | (go_at_call 19; refine (HAW.out _).mono ?_; rintro e w9 ⟨rfl, hb⟩; have S9 := Lib.hid (S8.out.call hb); clear hb))
      go_ret
      exact ⟨rfl, S9.out.b⟩
end Go.Proofs.Ytdbkphkgjaecoaa
