/- Several texts as one: L15p. -/
import Derived.Test.YtidimiioglgliaaZ5
import Derived.Test.YtidimiioglgliaaHeld4
import Derived.Test.YtidimiioglgliaaHeldK
import Derived.Test.YtidimiioglgliaaZ6
namespace Go.Proofs.Ytidimiioglgliaa

/-! L15p -/
section
set_option linter.unusedVariables false
set_option linter.unusedSimpArgs false
open Go.RowKit

set_option maxRecDepth 100000

theorem sbtL_in (ns : List NdD) (dl : List Int) : ∀ (k : Nat), ∀ x ∈ sbtL ns dl k, 0 ≤ x ∧ x ≤ 18446744073709551615 := by
  intro k x hx
  obtain ⟨j, hj, rfl⟩ := List.mem_iff_getElem.1 hx
  have hl := sbtL_len ns dl k
  have e : (sbtL ns dl k)[j] = (sbtL ns dl k).getD j 0 := by simp [List.getD_eq_getElem?_getD, hj]
  rw [e, sbtL_get ns dl k (by omega), IntKind.wrap_u64]
  omega

/-- weights' Subtree in a tree's variable. -/
theorem b_sub {w : World} {bt m : Nat} {s : Value} {ns : List NdD} (hok : TrOK ns) (hnl : ns.length ≤ 100000) (hm : ns.length = m) (u : World) (h : AnS w bt s ns u) (dv : Value) (dl : List Int) (hd : NumsV u dv dl) (hl : dl.length = m) :
    Calls Try.prog 18 #[.agg #[s], dv] u fun e w' => ∃ v', e = .returned v' ∧ NumsV w' v' (sbtL ns dl m) ∧ Below u.heap.size u w' := by
  refine (csubtree_any ns hok hnl dl s dv u h.n hd (by rw [hl, hm])).mono ?_
  rintro e w' ⟨v', rfl, hr, hb⟩
  rw [hm] at hr
  exact ⟨v', rfl, hr.nums (sbtL_in _ _ _), hb⟩

/-- A boost adds its amount to the weights of its node's ancestors. -/
theorem boost_path {ns : List NdD} (hok : TrOK ns) (hnz : NzR ns) {X : List Int} (hl : X.length = ns.length) {i k : Nat} (hi : i < ns.length) (hk : k < ns.length) (am : Int) :
    (sbtL ns (booN ns X ns[i].b.root am) ns.length).getD k 0 = if ns[i].st ≠ 2 ∧ ancB ns k i = true then IntKind.u64.wrap ((sbtL ns X ns.length).getD k 0 + am) else (sbtL ns X ns.length).getD k 0 := by
  have hF := hok.find hi
  have hr := hnz ns[i] (List.getElem_mem hi)
  have hb : booN ns X ns[i].b.root am = if ns[i].st ≠ 2 then X.set i (IntKind.u64.wrap (X.getD i 0 + am)) else X := by
    unfold booN
    rw [hF, show ((i : Int)).toNat = i from rfl, ndN_at hi]
    by_cases h : ns[i].st ≠ 2
    · rw [if_pos ⟨by omega, h, hr⟩, if_pos h]
    · rw [if_neg (fun g => h g.2.1), if_neg h]
  rw [sbtL_get ns X _ hk, sbtL_get ns _ _ hk, hb]
  by_cases h : ns[i].st ≠ 2
  · rw [if_pos h]
    have hD : ∀ x, (X.set i (IntKind.u64.wrap (X.getD i 0 + am))).getD x 0 = X.getD x 0 + (if x = i then IntKind.u64.wrap (X.getD i 0 + am) - X.getD i 0 else 0) := by
      intro x
      simp only [List.getD_eq_getElem?_getD, List.getElem?_set]
      by_cases e : i = x
      · subst e
        have hix : i < X.length := by omega
        simp [hix]
        omega
      · have e' : ¬ x = i := fun h => e h.symm
        simp [e, e']
    have hS : sbX ns (fun x => (X.set i (IntKind.u64.wrap (X.getD i 0 + am))).getD x 0) k = sbX ns (fun x => X.getD x 0) k + (if ancB ns k i = true then IntKind.u64.wrap (X.getD i 0 + am) - X.getD i 0 else 0) := by
      unfold sbX
      rw [show (if ancB ns k i = true then IntKind.u64.wrap (X.getD i 0 + am) - X.getD i 0 else 0) = sumX (fun x => if x = i then (if ancB ns k i = true then IntKind.u64.wrap (X.getD i 0 + am) - X.getD i 0 else 0) else 0) ns.length from ?_, ← sumX_add]
      · refine sumX_congr fun x hx => ?_
        simp only [hD]
        by_cases e : x = i
        · subst e
          by_cases c : ancB ns k x = true <;> simp [c]
        · by_cases c : ancB ns k x = true <;> simp [c, e]
      · rw [sumX_one hi (fun x _ e => by rw [if_neg e])]; simp
    rw [hS]
    by_cases c : ancB ns k i = true
    · rw [if_pos c, if_pos ⟨h, c⟩]
      rw [IntKind.wrap_u64, IntKind.wrap_u64, IntKind.wrap_u64, IntKind.wrap_u64]; omega
    · rw [if_neg c, if_neg (fun g => c g.2), Int.add_zero]
  · rw [if_neg h, if_neg (fun g => h g.1)]

/-- The tree's variable, two lists of weights. -/
structure BpS (w : World) (bt : Nat) (s p q : Value) (ns : List NdD) (X Y : List Int) (u : World) : Prop where
  a : AnS w bt s ns u
  p : NumsV u p X
  q : NumsV u q Y

theorem BpS.call {w u u' : World} {bt : Nat} {s p q : Value} {ns : List NdD} {X Y : List Int} (h : BpS w bt s p q ns X Y u) (hb : Below u.heap.size u u') : BpS w bt s p q ns X Y u' := ⟨h.a.call hb, ⟨h.p.1.below hb, h.p.2⟩, ⟨h.q.1.below hb, h.q.2⟩⟩

set_option maxHeartbeats 32000000 in
theorem walk_BoostPath (a0 : Option Addr) (len0 cap0 : Nat) (z0 : List Int) (a1 : Option Addr) (len1 cap1 : Nat) (z1 : List Int) (a2 : Int) (a3 : Int) (w : World) (w0 : IsRow .i64 w a0 len0 cap0 z0) (w1 : IsRow .i64 w a1 len1 cap1 z1) (w2 : (Lit.int .i64 a2).wf = true) (w3 : (Lit.int .u64 a3).wf = true) :
    Calls Try.prog 6 #[.slice a0 len0 cap0, .slice a1 len1 cap1, .int .i64 a2, .int .u64 a3] w fun e w' => e = .returned (.bool true) ∧ Below w.heap.size w w' := by
  have HTR := Lib.hid (fun u (hu : Below w.heap.size w u) => treen_any (.slice a0 len0 cap0) _ u ((rowInts w0).below hu))
  have HI1 := Lib.hid (fun u (hu : Below w.heap.size w u) => (rowInts w1).below hu)
  obtain ⟨l1, hl1⟩ : ∃ l, z1.take len1 = l := ⟨_, rfl⟩
  rw [hl1] at HI1
  have HAW := Lib.hid awake15_any
  have hi1 : (Try.prog.info? 43).map (·.size) = some 1 := by kernel_rfl
  obtain ⟨hz1, hst1⟩ := zero_array (P := Try.prog) (t := 43) (n := 1) #[.slice none 0 0] (by kernel_rfl) rfl (by kernel_rfl)
  have HR3 := Lib.hid (wf_u64 w3)
  clear hst1 w0 w1 w2 w3
  clear hl1
  go_enter Try.func6, Try.ntmps6
  go_upto_region 2 with (first
    | (go_at_call 12; refine (HTR.out _ (Below.refl _ _)).mono ?_; rintro e w1 ⟨v1, ns, rfl, hn1, hc1, hok, hl9, hb1, hnz⟩; obtain ⟨va, vc, rfl, _⟩ := hn1.shape; have HN1 := Lib.hid hn1; have HNZ := Lib.hid hnz; have HOK := Lib.hid hok; have HL9 := Lib.hid hl9; have HB1 := Lib.hid hb1; clear hnz hn1 hc1 hok hl9 hb1)
    | ((with_reducible refine at_store (.tmp 9) ?_); refine wpList_store_blk rfl 43 (.tmp 9) _ rfl w1.heap.size #[.slice va ns.length vc] rfl rfl #[.slice none 0 0] (Blk.new rfl) rfl hi1 (by simp [Value.oneCell']) ?_; intro w2 U2 B2; have hb2 := U2.below ((Below.refl w1.heap.size w1).alloc (Nat.le_refl _) (.cells #[.slice none 0 0] 43)) (Nat.le_refl _); have S2 : Hid (AnS w w1.heap.size (.slice va ns.length vc) ns w2) := ⟨B2, HN1.out.call hb2, HB1.out.trans (hb2.mono HB1.out.size)⟩; clear U2 B2 hb2))
  obtain ⟨bt, hbt⟩ : ∃ x, w1.heap.size = x := ⟨_, rfl⟩
  rw [hbt] at S2 ⊢
  have hnl : ns.length ≤ 100000 := by have := HL9.out; omega
  have HNL := Lib.hid hnl
  have HPOS : Hid (0 < ns.length) := HOK.out.pos
  obtain ⟨m, hm⟩ : ∃ m, Hid (ns.length = m) := ⟨_, Lib.hid rfl⟩
  rw [hm.out] at S2 ⊢
  have hm9 : m ≤ 9 := by have := HL9.out; have := hm.out; omega
  have hm1 : 0 < m := by have := HPOS.out; have := hm.out; omega
  clear hbt HN1 HB1 hnl HTR
  (try simp only [Act.put])
  have HNU := Lib.hid (fun u (hu : AnS w bt (.slice va m vc) ns u) => num_any (.slice a1 len1 cap1) l1 m u (HI1.out u hu.b) (by omega))
  have HC0 := Lib.hid (S2.out.t.cell 0)
  go_upto_region 3 with (first
    | ((with_reducible refine at_load (.tmp 19) ?_); refine wpList_load_1 41 (.tmp 19) rfl bt 0 (.slice va m vc) HC0.out rfl _ Try.underlying41 rfl rfl ?_)
    | (go_at_call 13; refine (HNU.out _ S2.out).mono ?_; rintro e w3 ⟨v3, rfl, ho3, hb3⟩; have S3 : Hid (BdN w bt (.slice va m vc) v3 ns (numK l1 m) w3) := ⟨S2.out.call hb3, num_nums ho3 (by omega)⟩; clear ho3 hb3))
  obtain ⟨da, dc, rfl, _⟩ := NumsV.shapeW S3.out.d
  have HLX := Lib.hid (numK_len l1 m)
  obtain ⟨X, hX⟩ : ∃ x, numK l1 m = x := ⟨_, rfl⟩
  rw [hX] at S3 HLX ⊢
  clear hX HNU S2 HC0 HI1
  rw [HLX.out] at S3 ⊢
  obtain ⟨K, hlK, hK⟩ := i64_and16_nat a2
  obtain ⟨k, hk⟩ : ∃ x, K % m = x := ⟨_, rfl⟩
  have hrk : Int.tmod (K : Int) (m : Int) = (k : Int) := by rw [tmod_nat, hk]
  have hmk : k < m := by rw [← hk]; exact Nat.mod_lt _ hm1
  clear hk
  have hm0 : ((m : Int) == 0) = false := by simp; omega
  have hm0' : ¬ (m : Int) = 0 := by omega
  have hm0q : ¬ m = 0 := by omega
  obtain ⟨am, ham, ham0, ham1⟩ : ∃ x, a3.tmod 4611686018427387905 = x ∧ 0 ≤ x ∧ x ≤ 4611686018427387904 := by
    have h := HR3.out
    refine ⟨_, rfl, ?_⟩
    rw [Int.tmod_eq_emod_of_nonneg h.1]; omega
  have hkn : k < ns.length := by rw [hm.out]; exact hmk
  have HN4 := Lib.hid (show NodesV w3 (.slice va m vc) ns from S3.out.a.n)
  obtain ⟨nb, no, rfl, hl0, hbb, hna, hok⟩ := HN4.out.elem hkn
  have HRT : Hid (w3.rangeAt nb (no + k * 240 + 67) (bytesL ns[k].b.root)) := hna.bk.root
  have HST : Hid (w3.cell? ⟨nb, no + k * 240 + 239, none⟩ = some (.int .i64 ns[k].st)) := hna.st
  have HIK : Hid (IsBytes 32 ns[k].b.root) := hok.1.2.2.2.1
  have HBP : Hid (∀ j, j < m → (sbtL ns (booN ns X ns[k].b.root am) m).getD j 0 = if ns[k].st ≠ 2 ∧ ancB ns j k = true then IntKind.u64.wrap ((sbtL ns X m).getD j 0 + am) else (sbtL ns X m).getD j 0) := fun j hj => by
    have h := boost_path HOK.out HNZ.out (X := X) (by rw [HLX.out, hm.out]) hkn (k := j) (by rw [hm.out]; exact hj) am
    rw [hm.out] at h
    exact h
  obtain ⟨rk, hrk0⟩ : ∃ r, ns[k].b.root = r := ⟨_, rfl⟩
  obtain ⟨st, hst0⟩ : ∃ r, ns[k].st = r := ⟨_, rfl⟩
  rw [hrk0] at HRT HIK HBP
  rw [hst0] at HST HBP
  have hiK : (Try.prog.info? 28).map (·.size) = some (bytesL rk).length := by rw [bytesL_len HIK.out]; kernel_rfl
  have HBB : Hid (nb < w3.heap.size) := hbb
  clear hl0 hbb hna hok hrk0 hst0 hkn HN4
  go_upto_region 5 with (first
    | ((with_reducible refine at_load (.tmp 25) ?_); refine wpList_load_1 41 (.tmp 25) rfl bt 0 (.slice (some ⟨nb, no, none⟩) m vc) (S3.out.a.t.cell 0) rfl _ Try.underlying41 rfl rfl ?_)
    | fail)
  have HRU : Hid (∀ u, Below w3.heap.size w3 u → u.rangeAt nb (no + k * 240 + 67) (bytesL rk)) := fun u hu => Below.rng hu HBB.out HRT.out
  have HSU := Lib.hid (fun u (hu : AnS w bt (.slice (some ⟨nb, no, none⟩) m vc) ns u) dv dl hd hl => b_sub HOK.out HNL.out hm.out u hu dv dl hd hl)
  have HDI : Hid (∀ u, AnS w bt (.slice (some ⟨nb, no, none⟩) m vc) ns u → NumsV u (.slice da m dc) X → Calls Try.prog 16 #[.agg #[.slice (some ⟨nb, no, none⟩) m vc], .slice da m dc, .agg (bytesL rk).toArray, .int .u64 am] u fun e w' => ∃ v', e = .returned v' ∧ NumsV w' v' (booN ns X rk am) ∧ Below u.heap.size u w') := fun u hu hd => by
    have h := cboo_any _ _ ns X rk am u hu.n hd (by rw [HLX.out, hm.out]) (by rw [HLX.out]; omega) HIK.out
    refine h.mono ?_
    rintro e w' ⟨v', rfl, h1, _, h3⟩
    exact ⟨v', rfl, h1, h3⟩
  have HLB : Hid ((booN ns X rk am).length = m) := by show _ = _; rw [booN_len, HLX.out]
  obtain ⟨BO, hBO⟩ : ∃ x, booN ns X rk am = x := ⟨_, rfl⟩
  rw [hBO] at HDI HLB HBP
  have HSX : Hid (∀ u, AnS w bt (.slice (some ⟨nb, no, none⟩) m vc) ns u → ∀ dv, NumsV u dv X → Calls Try.prog 18 #[.agg #[.slice (some ⟨nb, no, none⟩) m vc], dv] u fun e w' => ∃ v', e = .returned v' ∧ NumsV w' v' (sbtL ns X m) ∧ Below u.heap.size u w') := fun u hu dv hd => HSU.out u hu dv X hd HLX.out
  have HSB : Hid (∀ u, AnS w bt (.slice (some ⟨nb, no, none⟩) m vc) ns u → ∀ dv, NumsV u dv BO → Calls Try.prog 18 #[.agg #[.slice (some ⟨nb, no, none⟩) m vc], dv] u fun e w' => ∃ v', e = .returned v' ∧ NumsV w' v' (sbtL ns BO m) ∧ Below u.heap.size u w') := fun u hu dv hd => HSU.out u hu dv BO hd HLB.out
  have HLY := Lib.hid (sbtL_len ns X m)
  have HLZ := Lib.hid (sbtL_len ns BO m)
  obtain ⟨Y, hY⟩ : ∃ x, sbtL ns X m = x := ⟨_, rfl⟩
  obtain ⟨Z, hZ⟩ : ∃ x, sbtL ns BO m = x := ⟨_, rfl⟩
  rw [hY] at HSX HLY HBP
  rw [hZ] at HSB HLZ HBP
  clear hBO hY hZ HSU
  go_cut [12, 13] from 31 to 46 (fun pv qv wx => ∃ p q, pv = p ∧ qv = q ∧ BpS w bt (.slice (some ⟨nb, no, none⟩) m vc) p q ns Y Z wx ∧ Below w3.heap.size w3 wx)
  case first =>
    have HSx0 : Hid ((fun u => BdN w bt (.slice (some ⟨nb, no, none⟩) m vc) (.slice da m dc) ns X u ∧ Below w3.heap.size w3 u) w3.drew) := ⟨S3.out.call (Below.drewN (n := 1) (Below.refl _ _) : Below w3.heap.size w3 w3.drew), (Below.drewN (n := 1) (Below.refl _ _) : Below w3.heap.size w3 w3.drew)⟩
    refine wp_region_held_drew (S := fun u => BdN w bt (.slice (some ⟨nb, no, none⟩) m vc) (.slice da m dc) ns X u ∧ Below w3.heap.size w3 u) (by kernel_rfl) (HSx0.out) (fun _ => ?_)
    (try simp only [Act.put, List.setIfInBounds_toArray, List.set_cons_zero, List.set_cons_succ])
    obtain ⟨x0, hx0⟩ : ∃ x, w3.drew = x := ⟨_, rfl⟩
    rw [hx0] at HSx0 ⊢
    clear hx0
    refine held_load (oi := ⟨some 31, _, _, _, _, _⟩) 0 rfl (by kernel_rfl) (by kernel_rfl) (by kernel_rfl) (fun _ _ _ _ h => h) rfl 43 (.tmp 9) rfl bt (0) rfl [.slice (some ⟨nb, no, none⟩) m vc] _ (fun u' hu => hu.1.a.t.range) Try.underlying43 rfl (hi1) HSx0.out ?_
    (try simp only [Act.put, List.setIfInBounds_toArray, List.set_cons_zero, List.set_cons_succ])
    refine wpAnyH_take (i := 1) (oi := ⟨some 32, _, _, _, _, _⟩) (v := .slice da m dc) rfl (by kernel_rfl) (by kernel_rfl) (by kernel_rfl) (fun _ _ _ h => h) (Or.inl ⟨by rfl, fun wz hz => ?_⟩) HSx0.out ?_
    · clear hz; go_simp; first | done | with_reducible rfl | rfl
    (try simp only [Act.put, List.setIfInBounds_toArray, List.set_cons_zero, List.set_cons_succ])
    refine held_load (oi := ⟨some 34, _, _, _, _, _⟩) 3 rfl (by kernel_rfl) (by kernel_rfl) (by kernel_rfl) (fun _ _ _ _ h => h) rfl 43 (.tmp 9) rfl bt (0) rfl [.slice (some ⟨nb, no, none⟩) m vc] _ (fun u' hu => hu.1.a.t.range) Try.underlying43 rfl (hi1) HSx0.out ?_
    (try simp only [Act.put, List.setIfInBounds_toArray, List.set_cons_zero, List.set_cons_succ])
    refine held_load (oi := ⟨some 35, _, _, _, _, _⟩) 4 rfl (by kernel_rfl) (by kernel_rfl) (by kernel_rfl) (fun _ _ _ _ h => h) rfl 43 (.tmp 9) rfl bt (0) rfl [.slice (some ⟨nb, no, none⟩) m vc] _ (fun u' hu => hu.1.a.t.range) Try.underlying43 rfl (hi1) HSx0.out ?_
    (try simp only [Act.put, List.setIfInBounds_toArray, List.set_cons_zero, List.set_cons_succ])
    refine wpAnyH_take (i := 5) (oi := ⟨some 36, _, _, _, _, _⟩) (v := .slice da m dc) rfl (by kernel_rfl) (by kernel_rfl) (by kernel_rfl) (fun _ _ _ h => h) (Or.inl ⟨by rfl, fun wz hz => ?_⟩) HSx0.out ?_
    · clear hz; go_simp; first | done | with_reducible rfl | rfl
    (try simp only [Act.put, List.setIfInBounds_toArray, List.set_cons_zero, List.set_cons_succ])
    refine wpAnyH_take (i := 6) (oi := ⟨some 37, _, _, _, _, _⟩) (v := .pointer (some ⟨bt, 0, none⟩)) rfl (by kernel_rfl) (by kernel_rfl) (by kernel_rfl) (fun _ _ _ h => h) (Or.inl ⟨by rfl, fun wz hz => ?_⟩) HSx0.out ?_
    · clear hz; go_simp; first | done | with_reducible rfl | rfl
    (try simp only [Act.put, List.setIfInBounds_toArray, List.set_cons_zero, List.set_cons_succ])
    refine held_load1 (oi := ⟨some 38, _, _, _, _, _⟩) 7 rfl (by kernel_rfl) (by kernel_rfl) (by kernel_rfl) (fun _ _ _ _ h => h) rfl 41 (.tmp 37) rfl bt (0) rfl (.slice (some ⟨nb, no, none⟩) m vc) _ (fun u' hu => hu.1.a.t.cell 0) Try.underlying41 rfl HSx0.out ?_
    (try simp only [Act.put, List.setIfInBounds_toArray, List.set_cons_zero, List.set_cons_succ])
    refine wpAnyH_take (i := 8) (oi := ⟨some 39, _, _, _, _, _⟩) (v := .int .i64 k) rfl (by kernel_rfl) (by kernel_rfl) (by kernel_rfl) (fun _ _ _ h => h) (Or.inl ⟨by rfl, fun wz hz => ?_⟩) HSx0.out ?_
    · clear hz; go_simp; first | done | with_reducible rfl | rfl
    (try simp only [Act.put, List.setIfInBounds_toArray, List.set_cons_zero, List.set_cons_succ])
    refine wpAnyH_take (i := 9) (oi := ⟨some 40, _, _, _, _, _⟩) (v := .pointer (some ⟨nb, no + k * 240, none⟩)) rfl (by kernel_rfl) (by kernel_rfl) (by kernel_rfl) (fun _ _ _ h => h) (Or.inl ⟨by rfl, fun wz hz => ?_⟩) HSx0.out ?_
    · clear hz; go_simp; first | done | with_reducible rfl | rfl
    (try simp only [Act.put, List.setIfInBounds_toArray, List.set_cons_zero, List.set_cons_succ])
    refine wpAnyH_take (i := 10) (oi := ⟨some 41, _, _, _, _, _⟩) (v := .pointer (some ⟨nb, no + k * 240, none⟩)) rfl (by kernel_rfl) (by kernel_rfl) (by kernel_rfl) (fun _ _ _ h => h) (Or.inl ⟨by rfl, fun wz hz => ?_⟩) HSx0.out ?_
    · clear hz; go_simp; first | done | with_reducible rfl | rfl
    (try simp only [Act.put, List.setIfInBounds_toArray, List.set_cons_zero, List.set_cons_succ])
    refine wpAnyH_take (i := 11) (oi := ⟨some 42, _, _, _, _, _⟩) (v := .pointer (some ⟨nb, no + k * 240 + 67, none⟩)) rfl (by kernel_rfl) (by kernel_rfl) (by kernel_rfl) (fun _ _ _ h => h) (Or.inl ⟨by rfl, fun wz hz => ?_⟩) HSx0.out ?_
    · clear hz; go_simp; first | done | with_reducible rfl | rfl
    (try simp only [Act.put, List.setIfInBounds_toArray, List.set_cons_zero, List.set_cons_succ])
    refine held_load (oi := ⟨some 43, _, _, _, _, _⟩) 12 rfl (by kernel_rfl) (by kernel_rfl) (by kernel_rfl) (fun _ _ _ _ h => h) rfl 28 (.tmp 42) rfl nb ((no + k * 240 + 67)) rfl (bytesL rk) _ (fun u' hu => HRU.out _ hu.2) Try.underlying28 rfl (hiK) HSx0.out ?_
    (try simp only [Act.put, List.setIfInBounds_toArray, List.set_cons_zero, List.set_cons_succ])
    refine wpAnyH_take (i := 13) (oi := ⟨some 44, _, _, _, _, _⟩) (v := .int .u64 am) rfl (by kernel_rfl) (by kernel_rfl) (by kernel_rfl) (fun _ _ _ h => h) (Or.inl ⟨by rfl, fun wz hz => ?_⟩) HSx0.out ?_
    · clear hz; go_simp; first | done | with_reducible rfl | rfl
    (try simp only [Act.put, List.setIfInBounds_toArray, List.set_cons_zero, List.set_cons_succ])
    refine wpAnyH_ready (rs := [2]) (by kernel_rfl) (by simp) ?_
    refine AllReadyH.cons (o := ⟨some 33, _, _, _, _, _⟩) rfl (fun K hK => ?_) AllReadyH.nil
    go_simp
    refine (HSX.out x0 HSx0.out.1.a _ HSx0.out.1.d).mono ?_
    rintro e x1 ⟨p1, rfl, hn1, hb⟩
    have HP1 := Lib.hid hn1
    clear hn1
    have HSx1 : Hid ((fun u => BdN w bt (.slice (some ⟨nb, no, none⟩) m vc) (.slice da m dc) ns X u ∧ Below w3.heap.size w3 u) x1) := ⟨HSx0.out.1.call hb, HSx0.out.2.trans (hb.mono HSx0.out.2.size)⟩
    clear hb
    refine hK.out _ _ (HSx1.out) (fun _ => ?_)
    clear hK K
    (try simp only [Act.put, List.setIfInBounds_toArray, List.set_cons_zero, List.set_cons_succ])
    refine wpAnyH_ready (rs := [14]) (by kernel_rfl) (by simp) ?_
    refine AllReadyH.cons (o := ⟨some 45, _, _, _, _, _⟩) rfl (fun K hK => ?_) AllReadyH.nil
    go_simp
    refine (HDI.out x1 HSx1.out.1.a HSx1.out.1.d).mono ?_
    rintro e x2 ⟨p2, rfl, hn2, hb⟩
    have HP2 := Lib.hid hn2
    clear hn2
    have HP1 := Lib.hid ((⟨HP1.out.1.below hb, HP1.out.2⟩ : NumsV _ _ _))
    have HSx2 : Hid ((fun u => BdN w bt (.slice (some ⟨nb, no, none⟩) m vc) (.slice da m dc) ns X u ∧ Below w3.heap.size w3 u) x2) := ⟨HSx1.out.1.call hb, HSx1.out.2.trans (hb.mono HSx1.out.2.size)⟩
    clear hb
    refine hK.out _ _ (HSx2.out) (fun _ => ?_)
    clear hK K
    (try simp only [Act.put, List.setIfInBounds_toArray, List.set_cons_zero, List.set_cons_succ])
    refine wpAnyH_ready (rs := [15]) (by kernel_rfl) (by simp) ?_
    refine AllReadyH.cons (o := ⟨some 46, _, _, _, _, _⟩) rfl (fun K hK => ?_) AllReadyH.nil
    go_simp
    refine (HSB.out x2 HSx2.out.1.a _ HP2.out).mono ?_
    rintro e x3 ⟨p3, rfl, hn3, hb⟩
    have HP3 := Lib.hid hn3
    clear hn3
    have HP1 := Lib.hid ((⟨HP1.out.1.below hb, HP1.out.2⟩ : NumsV _ _ _))
    have HSx3 : Hid ((fun u => BdN w bt (.slice (some ⟨nb, no, none⟩) m vc) (.slice da m dc) ns X u ∧ Below w3.heap.size w3 u) x3) := ⟨HSx2.out.1.call hb, HSx2.out.2.trans (hb.mono HSx2.out.2.size)⟩
    clear hb
    refine hK.out _ _ (HSx3.out) (fun _ => ?_)
    clear hK K
    (try simp only [Act.put, List.setIfInBounds_toArray, List.set_cons_zero, List.set_cons_succ])
    refine wpAnyH_ready (rs := [16]) (by kernel_rfl) (by simp) ?_
    refine AllReadyH.cons (o := ⟨some 12, _, _, _, _, _⟩) rfl (fun K hK => ?_) AllReadyH.nil
    go_simp
    refine hK.out _ _ (HSx3.out) (fun _ => ?_)
    clear hK K
    (try simp only [Act.put, List.setIfInBounds_toArray, List.set_cons_zero, List.set_cons_succ])
    refine wpAnyH_ready (rs := [17]) (by kernel_rfl) (by simp) ?_
    refine AllReadyH.cons (o := ⟨some 13, _, _, _, _, _⟩) rfl (fun K hK => ?_) AllReadyH.nil
    go_simp
    refine hK.out _ _ (HSx3.out) (fun _ => ?_)
    clear hK K
    (try simp only [Act.put, List.setIfInBounds_toArray, List.set_cons_zero, List.set_cons_succ])
    refine wpAnyH_done (by kernel_rfl) ?_ _
    go_wp2_with fail
    go_meet
    case rel => exact ⟨p1, p3, rfl, rfl, ⟨HSx3.out.1.a, HP1.out, HP3.out⟩, HSx3.out.2⟩
  case rest =>
    obtain ⟨p, q, rfl, rfl, hs, hbw⟩ := hcut
    have S4 := Lib.hid hs
    have HB4 := Lib.hid hbw
    obtain ⟨pa, pc, rfl, _⟩ := NumsV.shapeW hs.p
    obtain ⟨qa, qc, rfl, _⟩ := NumsV.shapeW hs.q
    clear hs hbw S3 HSX HSB HDI HRU HRT
    rw [HLY.out] at S4 ⊢
    rw [HLZ.out] at S4 ⊢
    obtain ⟨w6, hw6⟩ : ∃ z, wc = z := ⟨_, rfl⟩
    rw [hw6] at S4 HB4 ⊢
    clear hw6
    have HS6 : Hid (w6.cell? ⟨nb, no + k * 240 + 239, none⟩ = some (.int .i64 st)) := (HB4.out.cell HBB.out).trans HST.out
    have HC6 := Lib.hid (S4.out.a.t.cell 0)
    have HIA := Lib.hid (fun (x y : Int) u (hu : AnS w bt (.slice (some ⟨nb, no, none⟩) m vc) ns u) => isan_any ns HOK.out HNL.out x y (.slice (some ⟨nb, no, none⟩) m vc) u hu.n)
    clear HST
    go_wp2_with (first
      | ((with_reducible refine at_load (.tmp 49) ?_); refine wpList_load_1 41 (.tmp 49) rfl bt 0 (.slice (some ⟨nb, no, none⟩) m vc) HC6.out rfl _ Try.underlying41 rfl rfl ?_)
      | ((with_reducible refine at_load (.tmp 56) ?_); refine wpList_load_1 41 (.tmp 56) rfl bt 0 (.slice (some ⟨nb, no, none⟩) m vc) HC6.out rfl _ Try.underlying41 rfl rfl ?_)
      | fail)
    go_loopw [14] (fun iv wr => ∃ j : Nat, j ≤ m ∧ iv = .int .i64 j ∧ BpS w bt (.slice (some ⟨nb, no, none⟩) m vc) (.slice pa m pc) (.slice qa m qc) ns Y Z wr ∧ wr.cell? ⟨nb, no + k * 240 + 239, none⟩ = some (.int .i64 st) ∧ nb < wr.heap.size) (fun iv _ => m - (intOf iv).toNat)
    case atStart => exact ⟨0, Nat.zero_le _, rfl, S4.out, HS6.out, Nat.lt_of_lt_of_le HBB.out HB4.out.size⟩
    case round =>
      obtain ⟨j, hj, rfl, hs, hst, hnb⟩ := hrel
      have S5 := Lib.hid hs
      have HS5 := Lib.hid hst
      have HNB := Lib.hid hnb
      clear hs hst hnb S4 HS6 HB4 HC6
      by_cases hlt : j < m
      case neg =>
        obtain rfl : j = m := by omega
        go_wp2_with (first
          | (go_at_call 9; refine (HAW.out _).mono ?_; rintro e w9 ⟨rfl, hb9⟩; have S9 := Lib.hid (S5.out.call hb9); clear hb9))
        go_ret
        exact ⟨rfl, S9.out.a.b⟩
      have hlt' : (j : Int) < m := by omega
      have HBJ := Lib.hid (HBP.out j hlt)
      have HC5 := Lib.hid (S5.out.a.t.cell 0)
      obtain ⟨xb, xo, ex, hxb, hcx⟩ := NumsV.elemW S5.out.p (k := j) (by rw [HLY.out]; exact hlt)
      cases ex
      obtain ⟨yb, yo, ey, hyb, hcy⟩ := NumsV.elemW S5.out.q (k := j) (by rw [HLZ.out]; exact hlt)
      cases ey
      have HA := Lib.hid (fun u (hu : AnS w bt (.slice (some ⟨nb, no, none⟩) m vc) ns u) => HIA.out (j : Int) (k : Int) u hu)
      have HQ : Hid (decide ((j : Int) ∈ pathN ns (k : Int)) = ancB ns j k) := rfl
      rw [HQ.out] at HA
      obtain ⟨y, hy⟩ : ∃ y, Y.getD j 0 = y := ⟨_, rfl⟩
      obtain ⟨z, hz⟩ : ∃ y, Z.getD j 0 = y := ⟨_, rfl⟩
      obtain ⟨q, hq⟩ : ∃ q, ancB ns j k = q := ⟨_, rfl⟩
      rw [hy] at hcx HBJ
      rw [hz] at hcy HBJ
      rw [hq] at HA HBJ
      have HCX := Lib.hid hcx
      have HCY := Lib.hid hcy
      have HXB := Lib.hid hxb
      have HYB := Lib.hid hyb
      clear hcx hcy hxb hyb hy hz hq HQ
      by_cases h2 : st = 2
      case pos =>
        subst h2
        have hzy : z = y := by rw [HBJ.out, if_neg (fun h => h.1 rfl)]
        subst hzy
        clear HBJ HBP
        go_wp2_with (first
                  | ((with_reducible refine at_load (.tmp 69) ?_); refine wpList_load_1 22 (.tmp 69) rfl xb (xo + j) _ HCX.out rfl _ Try.underlying22 rfl rfl ?_)
                  | ((with_reducible refine at_load (.tmp 71) ?_); refine wpList_load_1 41 (.tmp 71) rfl bt 0 (.slice (some ⟨nb, no, none⟩) m vc) HC5.out rfl _ Try.underlying41 rfl rfl ?_)
                  | ((with_reducible refine at_load (.tmp 75) ?_); refine wpList_load_1 3 (.tmp 75) rfl nb (no + k * 240 + 239) _ HS5.out rfl _ Try.underlying3 rfl rfl ?_)
                  | ((with_reducible refine at_load (.tmp 9) ?_); refine wpList_load_rng 43 (.tmp 9) rfl bt 0 [.slice (some ⟨nb, no, none⟩) m vc] S5.out.a.t.range rfl _ Try.underlying43 rfl hi1 rfl ?_)
                  | (go_at_call 19; refine (HA.out _ S5.out.a).mono ?_; rintro e w8 ⟨rfl, hb8⟩; have S6 := Lib.hid (S5.out.call hb8); have HS6 := Lib.hid ((hb8.cell HNB.out).trans HS5.out); have HCY6 := Lib.hid ((hb8.cell (p := ⟨yb, yo + j, none⟩) HYB.out).trans HCY.out); have HNB6 : Hid (nb < w8.heap.size) := Nat.lt_of_lt_of_le HNB.out hb8.size; clear hb8)
                  | ((with_reducible refine at_load (.tmp 89) ?_); refine wpList_load_1 22 (.tmp 89) rfl yb (yo + j) _ HCY.out rfl _ Try.underlying22 rfl rfl ?_)
                  | fail)
        go_roundw
        case rel => exact ⟨j + 1, by omega, by go_num, S5.out, HS5.out, HNB.out⟩
        case measure => simp [intOf]; omega
      case neg =>
        have hs2 : (st != 2) = true := by simpa using h2
        cases q
        case false =>
          have hzy : z = y := by rw [HBJ.out, if_neg (fun h => by cases h.2)]
          subst hzy
          clear HBJ HBP
          go_wp2_with (first
                    | ((with_reducible refine at_load (.tmp 69) ?_); refine wpList_load_1 22 (.tmp 69) rfl xb (xo + j) _ HCX.out rfl _ Try.underlying22 rfl rfl ?_)
                    | ((with_reducible refine at_load (.tmp 71) ?_); refine wpList_load_1 41 (.tmp 71) rfl bt 0 (.slice (some ⟨nb, no, none⟩) m vc) HC5.out rfl _ Try.underlying41 rfl rfl ?_)
                    | ((with_reducible refine at_load (.tmp 75) ?_); refine wpList_load_1 3 (.tmp 75) rfl nb (no + k * 240 + 239) _ HS5.out rfl _ Try.underlying3 rfl rfl ?_)
                    | ((with_reducible refine at_load (.tmp 9) ?_); refine wpList_load_rng 43 (.tmp 9) rfl bt 0 [.slice (some ⟨nb, no, none⟩) m vc] S5.out.a.t.range rfl _ Try.underlying43 rfl hi1 rfl ?_)
                    | (go_at_call 19; refine (HA.out _ S5.out.a).mono ?_; rintro e w8 ⟨rfl, hb8⟩; have S6 := Lib.hid (S5.out.call hb8); have HS6 := Lib.hid ((hb8.cell HNB.out).trans HS5.out); have HCY6 := Lib.hid ((hb8.cell (p := ⟨yb, yo + j, none⟩) HYB.out).trans HCY.out); have HNB6 : Hid (nb < w8.heap.size) := Nat.lt_of_lt_of_le HNB.out hb8.size; clear hb8)
                    | ((with_reducible refine at_load (.tmp 89) ?_); refine wpList_load_1 22 (.tmp 89) rfl yb (yo + j) _ HCY6.out rfl _ Try.underlying22 rfl rfl ?_)
                    | fail)
          go_roundw
          case rel => exact ⟨j + 1, by omega, by go_num, S6.out, HS6.out, HNB6.out⟩
          case measure => simp [intOf]; omega
        case true =>
          have hzy : IntKind.u64.wrap (y + am) = z := by rw [HBJ.out, if_pos ⟨h2, rfl⟩]
          clear HBJ HBP
          go_wp2_with (first
                    | ((with_reducible refine at_load (.tmp 69) ?_); refine wpList_load_1 22 (.tmp 69) rfl xb (xo + j) _ HCX.out rfl _ Try.underlying22 rfl rfl ?_)
                    | ((with_reducible refine at_load (.tmp 71) ?_); refine wpList_load_1 41 (.tmp 71) rfl bt 0 (.slice (some ⟨nb, no, none⟩) m vc) HC5.out rfl _ Try.underlying41 rfl rfl ?_)
                    | ((with_reducible refine at_load (.tmp 75) ?_); refine wpList_load_1 3 (.tmp 75) rfl nb (no + k * 240 + 239) _ HS5.out rfl _ Try.underlying3 rfl rfl ?_)
                    | ((with_reducible refine at_load (.tmp 9) ?_); refine wpList_load_rng 43 (.tmp 9) rfl bt 0 [.slice (some ⟨nb, no, none⟩) m vc] S5.out.a.t.range rfl _ Try.underlying43 rfl hi1 rfl ?_)
                    | (go_at_call 19; refine (HA.out _ S5.out.a).mono ?_; rintro e w8 ⟨rfl, hb8⟩; have S6 := Lib.hid (S5.out.call hb8); have HS6 := Lib.hid ((hb8.cell HNB.out).trans HS5.out); have HCY6 := Lib.hid ((hb8.cell (p := ⟨yb, yo + j, none⟩) HYB.out).trans HCY.out); have HNB6 : Hid (nb < w8.heap.size) := Nat.lt_of_lt_of_le HNB.out hb8.size; clear hb8)
                    | ((with_reducible refine at_load (.tmp 89) ?_); refine wpList_load_1 22 (.tmp 89) rfl yb (yo + j) _ HCY6.out rfl _ Try.underlying22 rfl rfl ?_)
                    | fail)
          go_roundw
          case rel => exact ⟨j + 1, by omega, by go_num, S6.out, HS6.out, HNB6.out⟩
          case measure => simp [intOf]; omega
end

end Go.Proofs.Ytidimiioglgliaa
