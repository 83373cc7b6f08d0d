/- Several texts as one: L16k. -/
import Derived.Test.YtdmjpmigejpkmaaZ9
namespace Go.Proofs.Ytdmjpmigejpkmaa

/-! L16k -/
section
set_option linter.unusedVariables false
set_option linter.unusedSimpArgs false
open Go.RowKit

set_option maxRecDepth 100000

theorem stN_same (ns : List NdD) (p : Nat → Bool) (s : Int) : stN (stN ns p s) p s = stN ns p s := by
  apply List.ext_getElem (by simp [stN_len])
  intro j h1 h2
  have hj : j < ns.length := by simpa [stN_len] using h2
  rw [stN_at (stN ns p s) p s h2 h1, stN_at ns p s hj h2]
  by_cases h : p j = true <;> simp [h]

/-- Raising twice. -/
theorem rai_again {ns : List NdD} (hok : TrOK ns) {p : Nat} (hp : p < ns.length) (he : (raiN ns p).2 = 0) :
    TrOK (raiN ns p).1 ∧ (raiN ns p).1 = stN ns (onB ns p) 1 ∧ raiN (raiN ns p).1 p = ((raiN ns p).1, 0) ∧ (∀ j (hj : j < ns.length), onB ns p j = true → ns[j].st = 0 ∨ ns[j].st = 1) ∧ ∃ h : p < (raiN ns p).1.length, (raiN ns p).1[p].st = 1 := by
  obtain ⟨h1, h2, h3⟩ := rai_ok hok he
  have hst : ∀ j (hj : j < ns.length), onB ns p j = true → ns[j].st = 0 ∨ ns[j].st = 1 := fun j hj hb => by
    have := hok.st j hj
    have h : ns[j].st ≠ 2 := fun e => h3 ⟨j, hj, hb, e⟩
    omega
  have hpp : onB ns p p = true := by
    unfold onB
    rw [(up_path hok hp).2.2]; simp
  rw [h2]
  rw [h2] at h1
  have hon : ∀ j, onB (stN ns (onB ns p) 1) p j = onB ns p j := fun j => by unfold onB; rw [pathN_st]
  refine ⟨h1, rfl, ?_, hst, by rw [stN_len]; exact hp, ?_⟩
  · unfold raiN
    rw [if_neg (fun h => h (by rw [stN_len]; omega)), if_neg]
    · rw [stN_cong2 _ 1 (fun j _ => hon j), stN_same]
    · rintro ⟨j, hj, hb, e⟩
      have hj' : j < ns.length := by rw [stN_len] at hj; exact hj
      rw [hon] at hb
      rw [(stN_b ns (onB ns p) 1 hj' hj).2.2, if_pos hb] at e
      cases e
  · rw [(stN_b ns (onB ns p) 1 hp _).2.2, if_pos hpp]

/-- Condemning twice. -/
theorem con_again {ns : List NdD} (hok : TrOK ns) {p : Nat} (hp : p < ns.length) (he : (conN ns p).2 = 0) :
    TrOK (conN ns p).1 ∧ (conN ns p).1 = stN ns (belB ns p) 2 ∧ conN (conN ns p).1 p = ((conN ns p).1, 0) ∧ (∀ j (hj : j < ns.length), belB ns p j = true → ns[j].st = 0 ∨ ns[j].st = 2) ∧ ∃ h : p < (conN ns p).1.length, (conN ns p).1[p].st = 2 := by
  obtain ⟨h1, h2, h3⟩ := con_ok hok he
  have hst : ∀ j (hj : j < ns.length), belB ns p j = true → ns[j].st = 0 ∨ ns[j].st = 2 := fun j hj hb => by
    have := hok.st j hj
    have h : ns[j].st ≠ 1 := fun e => h3 ⟨j, hj, hb, e⟩
    omega
  have hpp : belB ns p p = true := by
    unfold belB
    rw [(up_path hok hp).2.2]; simp
  rw [h2]
  rw [h2] at h1
  have hon : ∀ j, belB (stN ns (belB ns p) 2) p j = belB ns p j := fun j => by unfold belB; rw [pathN_st]
  refine ⟨h1, rfl, ?_, hst, by rw [stN_len]; exact hp, ?_⟩
  · unfold conN
    rw [if_neg (fun h => h (by rw [stN_len]; omega)), if_neg]
    · rw [stN_cong2 _ 2 (fun j _ => hon j), stN_same]
    · rintro ⟨j, hj, hb, e⟩
      have hj' : j < ns.length := by rw [stN_len] at hj; exact hj
      rw [hon] at hb
      rw [(stN_b ns (belB ns p) 2 hj' hj).2.2, if_pos hb] at e
      cases e
  · rw [(stN_b ns (belB ns p) 2 hp _).2.2, if_pos hpp]

theorem both_opt {ns : List NdD} (hok : TrOK ns) {p : Nat} (hp : p < ns.length) (he : (raiN ns p).2 = 0) (hf : (conN ns p).2 = 0) : ns[p].st = 0 := by
  obtain ⟨_, _, _, h1, _⟩ := rai_again hok hp he
  obtain ⟨_, _, _, h2, _⟩ := con_again hok hp hf
  have a1 := h1 p hp (by unfold onB; rw [(up_path hok hp).2.2]; simp)
  have a2 := h2 p hp (by unfold belB; rw [(up_path hok hp).2.2]; simp)
  omega

/-- The tree's variable and those of the two results. -/
structure ClS (w : World) (bt b6 b8 : Nat) (s v6 v8 : Value) (ns R Q : List NdD) (u : World) : Prop where
  a : AnS w bt s ns u
  x : TwB u b6 v6 R
  y : TwB u b8 v8 Q

theorem ClS.call {w u u' : World} {bt b6 b8 : Nat} {s v6 v8 : Value} {ns R Q : List NdD} (h : ClS w bt b6 b8 s v6 v8 ns R Q u) (hb : Below u.heap.size u u') : ClS w bt b6 b8 s v6 v8 ns R Q u' := ⟨h.a.call hb, h.x.call hb, h.y.call hb⟩

set_option maxHeartbeats 32000000 in
theorem walk_StatusClosed (a0 : Option Addr) (len0 cap0 : Nat) (z0 : List Int) (a1 : Int) (w : World) (w0 : IsRow .i64 w a0 len0 cap0 z0) (w1x : (Lit.int .i64 a1).wf = true) :
    Calls Try.prog 7 #[.slice a0 len0 cap0, .int .i64 a1] w fun e w' => e = .returned (.bool true) ∧ Below w.heap.size w w' := by
  have HTR := Lib.hid (fun u (hu : Below w.heap.size w u) => tree_any (.slice a0 len0 cap0) _ u ((rowInts w0).below hu))
  have HAW := Lib.hid awake16_any
  have hi1 : (Try.prog.info? 25).map (·.size) = some 1 := by kernel_rfl
  obtain ⟨hz1, hst1⟩ := zero_array (P := Try.prog) (t := 25) (n := 1) #[.slice none 0 0] (by kernel_rfl) rfl (by kernel_rfl)
  clear w0 hst1
  go_enter Try.func7, Try.ntmps7
  go_upto_region 2 with (first
    | (go_at_call 9; refine (HTR.out _ (Below.refl _ _)).mono ?_; rintro e w1 ⟨v1, ns, rfl, hn1, hc1, hok, hl9, hb1⟩; obtain ⟨va, vc, rfl, _⟩ := hn1.shape; have HN1 := Lib.hid hn1; have HOK := Lib.hid hok; have HL9 := Lib.hid hl9; have HB1 := Lib.hid hb1; clear hn1 hc1 hok hl9 hb1)
    | ((with_reducible refine at_store (.tmp 5) ?_); refine wpList_store_blk rfl 25 (.tmp 5) _ rfl w1.heap.size #[.slice va ns.length vc] rfl rfl #[.slice none 0 0] (Blk.new rfl) rfl hi1 (by simp [Value.oneCell']) ?_; intro w2 U2 B2; have hb2 := U2.below ((Below.refl w1.heap.size w1).alloc (Nat.le_refl _) (.cells #[.slice none 0 0] 25)) (Nat.le_refl _); have S2 : Hid (AnS w w1.heap.size (.slice va ns.length vc) ns w2) := ⟨B2, HN1.out.call hb2, HB1.out.trans (hb2.mono HB1.out.size)⟩; clear U2 B2 hb2))
  obtain ⟨bt, hbt⟩ : ∃ x, w1.heap.size = x := ⟨_, rfl⟩
  rw [hbt] at S2 ⊢
  have hnl : ns.length ≤ 100000 := by have := HL9.out; omega
  have HNL := Lib.hid hnl
  have HMP : Hid (0 < ns.length) := HOK.out.pos
  obtain ⟨m, hm⟩ : ∃ m, Hid (ns.length = m) := ⟨_, Lib.hid rfl⟩
  have hm9 : m ≤ 9 := by have := HL9.out; have := hm.out; omega
  have hm1 : 0 < m := by have := HMP.out; have := hm.out; omega
  obtain ⟨K, hlK, hK⟩ := i64_and16_nat a1
  obtain ⟨p, hp⟩ : ∃ x, K % m = x := ⟨_, rfl⟩
  have hrp : Int.tmod (K : Int) (m : Int) = (p : Int) := by rw [tmod_nat, hp]
  have hmp : p < m := by rw [← hp]; exact Nat.mod_lt _ hm1
  clear hp
  have hm0 : ((m : Int) == 0) = false := by simp; omega
  have hm0' : ¬ (m : Int) = 0 := by omega
  have hpn : p < ns.length := by rw [hm.out]; assumption
  have HRA := Lib.hid (fun u (hu : AnS w bt (.slice va ns.length vc) ns u) => crai_any ns HOK.out HNL.out (p : Int) (by have := HL9.out; omega) (.slice va ns.length vc) u hu.n)
  have HCO := Lib.hid (fun u (hu : AnS w bt (.slice va ns.length vc) ns u) => ccon_any ns HOK.out HNL.out (p : Int) (.slice va ns.length vc) u hu.n)
  unfold SetE at HRA HCO
  have HAG := Lib.hid (rai_again HOK.out hpn)
  have HBG := Lib.hid (con_again HOK.out hpn)
  have HBO := Lib.hid (both_opt HOK.out hpn)
  have HST := Lib.hid (fun u (hu : AnS w bt (.slice va ns.length vc) ns u) => hu.n.elem hpn)
  obtain ⟨R, hR⟩ : ∃ x, raiN ns (p : Int) = x := ⟨_, rfl⟩
  obtain ⟨Q, hQ⟩ : ∃ x, conN ns (p : Int) = x := ⟨_, rfl⟩
  rw [hR] at HRA HAG HBO
  rw [hQ] at HCO HBG HBO
  clear hR hQ
  obtain ⟨R1, R2⟩ := R
  obtain ⟨Q1, Q2⟩ := Q
  simp only at HRA HCO HAG HBG HBO
  have HSM := Lib.hid (fun v1 v2 l u h1 h2 => stree_yes v1 v2 l u h1 h2)
  rw [hm.out] at S2 HRA HCO HST ⊢
  clear hbt HN1 HB1 hnl
  (try simp only [Act.put])
  go_upto_region 4 with (first
    | ((with_reducible refine at_load (.tmp 18) ?_); refine wpList_load_1 23 (.tmp 18) rfl bt 0 (.slice va m vc) (S2.out.t.cell 0) rfl _ Try.underlying23 rfl rfl ?_)
    | ((with_reducible refine at_load (.tmp 5) ?_); refine wpList_load_g 25 (.tmp 5) rfl bt rfl #[.slice va m vc] _ S2.out.t Try.underlying25 rfl hi1 rfl ?_)
    | (go_at_call 19; refine (HRA.out _ S2.out).mono ?_; rintro e w1 ⟨v1, rfl, hn1, hc1, hw1, hb1⟩; obtain ⟨a6, c6, rfl, _⟩ := hn1.shape; have HN1 := Lib.hid hn1; have HCP6 := Lib.hid hc1; have S1 := Lib.hid (S2.out.call hb1); clear hn1 hc1 hw1 hb1)
    | ((with_reducible refine at_store (.tmp 6) ?_); refine wpList_store_blk rfl 25 (.tmp 6) _ rfl w1.heap.size #[.slice a6 R1.length c6] rfl rfl #[.slice none 0 0] (Blk.new rfl) rfl hi1 (by simp [Value.oneCell']) ?_; intro y U B; have hb := U.below ((Below.refl w1.heap.size w1).alloc (Nat.le_refl _) (.cells #[.slice none 0 0] 25)) (Nat.le_refl _); have X6 : Hid (TwB y w1.heap.size (.slice a6 R1.length c6) R1) := ⟨B, HN1.out.call hb⟩; have T6 := Lib.hid (S1.out.call hb); clear U B hb))
  obtain ⟨b6, hb⟩ : ∃ x, w1.heap.size = x := ⟨_, rfl⟩
  rw [hb] at X6 ⊢
  clear hb HN1 S1
  (try simp only [Act.put])
  go_upto_region 5 with (first
    | ((with_reducible refine at_load (.tmp 18) ?_); refine wpList_load_1 23 (.tmp 18) rfl bt 0 (.slice va m vc) (T6.out.t.cell 0) rfl _ Try.underlying23 rfl rfl ?_)
    | ((with_reducible refine at_load (.tmp 5) ?_); refine wpList_load_g 25 (.tmp 5) rfl bt rfl #[.slice va m vc] _ T6.out.t Try.underlying25 rfl hi1 rfl ?_)
    | (go_at_call 20; refine (HCO.out _ T6.out).mono ?_; rintro e w1 ⟨v1, rfl, hn1, hc1, hw1, hb1⟩; obtain ⟨a8, c8, rfl, _⟩ := hn1.shape; have HN1 := Lib.hid hn1; have HCP8 := Lib.hid hc1; have S1 := Lib.hid (T6.out.call hb1); have X6 := Lib.hid (X6.out.call hb1); clear hn1 hc1 hw1 hb1)
    | ((with_reducible refine at_store (.tmp 8) ?_); refine wpList_store_blk rfl 25 (.tmp 8) _ rfl w1.heap.size #[.slice a8 Q1.length c8] rfl rfl #[.slice none 0 0] (Blk.new rfl) rfl hi1 (by simp [Value.oneCell']) ?_; intro y U B; have hb := U.below ((Below.refl w1.heap.size w1).alloc (Nat.le_refl _) (.cells #[.slice none 0 0] 25)) (Nat.le_refl _); have X8 : Hid (TwB y w1.heap.size (.slice a8 Q1.length c8) Q1) := ⟨B, HN1.out.call hb⟩; have X6 := Lib.hid (X6.out.call hb); have T8 := Lib.hid (S1.out.call hb); clear U B hb))
  obtain ⟨b8, hb⟩ : ∃ x, w1.heap.size = x := ⟨_, rfl⟩
  rw [hb] at X8 ⊢
  clear hb HN1 S1
  (try simp only [Act.put])
  have C0 : Hid (ClS w bt b6 b8 (.slice va m vc) (.slice a6 R1.length c6) (.slice a8 Q1.length c8) ns R1 Q1 y) := ⟨T8.out, X6.out, X8.out⟩
  clear T6 T8 X6 X8 HRA HCO S2
  go_upto_if 35 with fail
  go_cut [] from 10 to 114 (fun wx => ClS w bt b6 b8 (.slice va m vc) (.slice a6 R1.length c6) (.slice a8 Q1.length c8) ns R1 Q1 wx)
  case first =>
    by_cases h0 : R2 = 0
    · have h0b : (R2 == 0) = true := by simpa using h0
      obtain ⟨hok1, hst1, hag1, hop1, hpl1, hsp1⟩ := HAG.out h0
      have HAA : Hid (∀ v u, NodesV u v R1 → Calls Try.prog 19 #[.agg #[v], .int .i64 (p : Int)] u (SetE (R1, 0) u)) := fun v u hu => by rw [← hag1]; exact crai_any R1 hok1 (by rw [hst1, stN_len]; exact HNL.out) (p : Int) (by have := HL9.out; omega) v u hu
      unfold SetE at HAA
      have HFO : Hid (∀ v v' u, NodesV u v ns → NodesV u v' R1 → CapOK v' → Calls Try.prog 21 #[.agg #[v], .agg #[v'], .int .i64 1] u fun e w' => e = .returned (.bool true) ∧ Below u.heap.size u w') := fun v v' u hv hv' hc => fol_any ns R1 _ 1 hst1 hop1 hok1 (by have := HL9.out; omega) v v' u hv hv' hc
      obtain ⟨b, off, hae, _, hbb, hna, _⟩ := C0.out.x.n.elem hpl1
      subst hae
      have hst := hna.st
      rw [hsp1] at hst
      have HSP := Lib.hid hst
      have hpr : (p : Int) < (R1.length : Nat) := by omega
      clear hok1 hst1 hag1 hop1 hna hsp1 hst h0
      go_upto_region 7 with (first
        | ((with_reducible refine at_load (.tmp 6) ?_); refine wpList_load_g 25 (.tmp 6) rfl b6 rfl #[.slice (some ⟨b, off, none⟩) R1.length c6] _ C0.out.x.t Try.underlying25 rfl hi1 rfl ?_)
        | (go_at_call 19; refine (HAA.out _ _ C0.out.x.n).mono ?_; rintro e w1 ⟨v1, rfl, hn1, hc1, hw1, hb1⟩; obtain ⟨a9, c9, rfl, _⟩ := hn1.shape; have HN1 := Lib.hid hn1; have G1 := Lib.hid (C0.out.call hb1); have HSP := Lib.hid ((hb1.cell (p := ⟨b, off + p * 240 + 239, none⟩) hbb).trans HSP.out); have HBB : Hid (b < w1.heap.size) := Nat.lt_of_lt_of_le hbb hb1.size; clear hn1 hc1 hw1 hb1)
        | ((with_reducible refine at_store (.tmp 10) ?_); refine wpList_store_blk rfl 25 (.tmp 10) _ rfl w1.heap.size #[.slice a9 R1.length c9] rfl rfl #[.slice none 0 0] (Blk.new rfl) rfl hi1 (by simp [Value.oneCell']) ?_; intro y2 U B; have hb := U.below ((Below.refl w1.heap.size w1).alloc (Nat.le_refl _) (.cells #[.slice none 0 0] 25)) (Nat.le_refl _); have X9 : Hid (TwB y2 w1.heap.size (.slice a9 R1.length c9) R1) := ⟨B, HN1.out.call hb⟩; have G2 := Lib.hid (G1.out.call hb); have HSP := Lib.hid ((hb.cell (p := ⟨b, off + p * 240 + 239, none⟩) HBB.out).trans HSP.out); have HBC : Hid (b < y2.heap.size) := Nat.lt_of_lt_of_le HBB.out hb.size; clear U B hb))
      obtain ⟨b9, hb⟩ : ∃ x, w1.heap.size = x := ⟨_, rfl⟩
      rw [hb] at X9 ⊢
      clear hb HN1 G1 HBB
      (try simp only [Act.put])
      go_wp2_with (first
        | ((with_reducible refine at_load (.tmp 5) ?_); refine wpList_load_g 25 (.tmp 5) rfl bt rfl #[.slice va m vc] _ G2.out.a.t Try.underlying25 rfl hi1 rfl ?_)
        | ((with_reducible refine at_load (.tmp 6) ?_); refine wpList_load_rng 25 (.tmp 6) rfl b6 0 [.slice (some ⟨b, off, none⟩) R1.length c6] G2.out.x.t.rng rfl _ Try.underlying25 rfl hi1 rfl ?_)
        | (go_at_call 21; refine (HFO.out _ _ _ G2.out.a.n G2.out.x.n HCP6.out).mono ?_; rintro e w3 ⟨rfl, hb3⟩; have HSP := Lib.hid ((hb3.cell (p := ⟨b, off + p * 240 + 239, none⟩) HBC.out).trans HSP.out); have G2 := Lib.hid (G2.out.call hb3); have X9 := Lib.hid (X9.out.call hb3); clear hb3)
        | ((with_reducible refine at_load (.tmp 47) ?_); refine wpList_load_1 23 (.tmp 47) rfl b6 0 (.slice (some ⟨b, off, none⟩) R1.length c6) (G2.out.x.t.cell 0) rfl _ Try.underlying23 rfl rfl ?_)
        | ((with_reducible refine at_load (.tmp 51) ?_); refine wpList_load_1 3 (.tmp 51) rfl b (off + p * 240 + 239) (.int .i64 1) HSP.out rfl _ Try.underlying3 rfl rfl ?_)
        | ((with_reducible refine at_load (.tmp 10) ?_); refine wpList_load_rng 25 (.tmp 10) rfl b9 0 [.slice a9 R1.length c9] X9.out.t.rng rfl _ Try.underlying25 rfl hi1 rfl ?_)
        | (go_at_call 22; refine (HSM.out _ _ R1 _ X9.out.n G2.out.x.n).mono ?_; rintro e w4 ⟨rfl, hb4⟩; have G4 := Lib.hid (G2.out.call hb4); clear hb4))
      go_meet
      case rel => exact G4.out
    · have h0b : (R2 == 0) = false := by simpa using h0
      clear h0
      go_wp2_with fail
      go_meet
      case rel => exact C0.out
  case rest =>
    have C1 := Lib.hid hcut
    clear hcut
    go_upto_if 66 with fail
    go_cut [] from 10 to 114 (fun wx => ClS w bt b6 b8 (.slice va m vc) (.slice a6 R1.length c6) (.slice a8 Q1.length c8) ns R1 Q1 wx)
    case first =>
      by_cases h0 : Q2 = 0
      · have h0b : (Q2 == 0) = true := by simpa using h0
        obtain ⟨hok1, hst1, hag1, hop1, hpl1, hsp1⟩ := HBG.out h0
        have HAA : Hid (∀ v u, NodesV u v Q1 → Calls Try.prog 20 #[.agg #[v], .int .i64 (p : Int)] u (SetE (Q1, 0) u)) := fun v u hu => by rw [← hag1]; exact ccon_any Q1 hok1 (by rw [hst1, stN_len]; exact HNL.out) (p : Int) v u hu
        unfold SetE at HAA
        have HFO : Hid (∀ v v' u, NodesV u v ns → NodesV u v' Q1 → CapOK v' → Calls Try.prog 21 #[.agg #[v], .agg #[v'], .int .i64 2] u fun e w' => e = .returned (.bool true) ∧ Below u.heap.size u w') := fun v v' u hv hv' hc => fol_any ns Q1 _ 2 hst1 hop1 hok1 (by have := HL9.out; omega) v v' u hv hv' hc
        obtain ⟨b, off, hae, _, hbb, hna, _⟩ := C1.out.y.n.elem hpl1
        subst hae
        have hst := hna.st
        rw [hsp1] at hst
        have HSP := Lib.hid hst
        have hpr : (p : Int) < (Q1.length : Nat) := by omega
        clear hok1 hst1 hag1 hop1 hna hsp1 hst h0
        go_upto_region 11 with (first
          | ((with_reducible refine at_load (.tmp 8) ?_); refine wpList_load_g 25 (.tmp 8) rfl b8 rfl #[.slice (some ⟨b, off, none⟩) Q1.length c8] _ C1.out.y.t Try.underlying25 rfl hi1 rfl ?_)
          | (go_at_call 20; refine (HAA.out _ _ C1.out.y.n).mono ?_; rintro e w1 ⟨v1, rfl, hn1, hc1, hw1, hb1⟩; obtain ⟨a9, c9, rfl, _⟩ := hn1.shape; have HN1 := Lib.hid hn1; have G1 := Lib.hid (C1.out.call hb1); have HSP := Lib.hid ((hb1.cell (p := ⟨b, off + p * 240 + 239, none⟩) hbb).trans HSP.out); have HBB : Hid (b < w1.heap.size) := Nat.lt_of_lt_of_le hbb hb1.size; clear hn1 hc1 hw1 hb1)
          | ((with_reducible refine at_store (.tmp 12) ?_); refine wpList_store_blk rfl 25 (.tmp 12) _ rfl w1.heap.size #[.slice a9 Q1.length c9] rfl rfl #[.slice none 0 0] (Blk.new rfl) rfl hi1 (by simp [Value.oneCell']) ?_; intro y2 U B; have hb := U.below ((Below.refl w1.heap.size w1).alloc (Nat.le_refl _) (.cells #[.slice none 0 0] 25)) (Nat.le_refl _); have X9 : Hid (TwB y2 w1.heap.size (.slice a9 Q1.length c9) Q1) := ⟨B, HN1.out.call hb⟩; have G2 := Lib.hid (G1.out.call hb); have HSP := Lib.hid ((hb.cell (p := ⟨b, off + p * 240 + 239, none⟩) HBB.out).trans HSP.out); have HBC : Hid (b < y2.heap.size) := Nat.lt_of_lt_of_le HBB.out hb.size; clear U B hb))
        obtain ⟨b9, hb⟩ : ∃ x, w1.heap.size = x := ⟨_, rfl⟩
        rw [hb] at X9 ⊢
        clear hb HN1 G1 HBB
        (try simp only [Act.put])
        go_wp2_with (first
          | ((with_reducible refine at_load (.tmp 5) ?_); refine wpList_load_g 25 (.tmp 5) rfl bt rfl #[.slice va m vc] _ G2.out.a.t Try.underlying25 rfl hi1 rfl ?_)
          | ((with_reducible refine at_load (.tmp 8) ?_); refine wpList_load_rng 25 (.tmp 8) rfl b8 0 [.slice (some ⟨b, off, none⟩) Q1.length c8] G2.out.y.t.rng rfl _ Try.underlying25 rfl hi1 rfl ?_)
          | (go_at_call 21; refine (HFO.out _ _ _ G2.out.a.n G2.out.y.n HCP8.out).mono ?_; rintro e w3 ⟨rfl, hb3⟩; have HSP := Lib.hid ((hb3.cell (p := ⟨b, off + p * 240 + 239, none⟩) HBC.out).trans HSP.out); have G2 := Lib.hid (G2.out.call hb3); have X9 := Lib.hid (X9.out.call hb3); clear hb3)
          | ((with_reducible refine at_load (.tmp 78) ?_); refine wpList_load_1 23 (.tmp 78) rfl b8 0 (.slice (some ⟨b, off, none⟩) Q1.length c8) (G2.out.y.t.cell 0) rfl _ Try.underlying23 rfl rfl ?_)
          | ((with_reducible refine at_load (.tmp 82) ?_); refine wpList_load_1 3 (.tmp 82) rfl b (off + p * 240 + 239) (.int .i64 2) HSP.out rfl _ Try.underlying3 rfl rfl ?_)
          | ((with_reducible refine at_load (.tmp 12) ?_); refine wpList_load_rng 25 (.tmp 12) rfl b9 0 [.slice a9 Q1.length c9] X9.out.t.rng rfl _ Try.underlying25 rfl hi1 rfl ?_)
          | (go_at_call 22; refine (HSM.out _ _ Q1 _ X9.out.n G2.out.y.n).mono ?_; rintro e w4 ⟨rfl, hb4⟩; have G4 := Lib.hid (G2.out.call hb4); clear hb4))
        go_meet
        case rel => exact G4.out
      · have h0b : (Q2 == 0) = false := by simpa using h0
        clear h0
        go_wp2_with fail
        go_meet
        case rel => exact C1.out
    case rest =>
      have C2 := Lib.hid hcut
      clear hcut
      have HC9 : Hid (∀ u, ClS w bt b6 b8 (.slice va m vc) (.slice a6 R1.length c6) (.slice a8 Q1.length c8) ns R1 Q1 u → u.cell? ⟨bt, 0, none⟩ = some (.slice va m vc)) := fun u hu => hu.a.t.cell 0
      by_cases h1 : R2 = 0
      · by_cases h2 : Q2 = 0
        · have h0 := HBO.out h1 h2
          obtain ⟨b, off, hae, _, hbb, hna, _⟩ := HST.out _ C2.out.a
          subst hae
          have hst := hna.st
          rw [h0] at hst
          have HSP := Lib.hid hst
          have h1b : (R2 == 0) = true := by simpa using h1
          have h2b : (Q2 == 0) = true := by simpa using h2
          clear hst hna h0 h1 h2
          go_wp2_with (first
            | ((with_reducible refine at_load (.tmp 103) ?_); refine wpList_load_1 23 (.tmp 103) rfl bt 0 (.slice (some ⟨b, off, none⟩) m vc) (HC9.out _ C2.out) rfl _ Try.underlying23 rfl rfl ?_)
            | ((with_reducible refine at_load (.tmp 107) ?_); refine wpList_load_1 3 (.tmp 107) rfl b (off + p * 240 + 239) (.int .i64 0) HSP.out rfl _ Try.underlying3 rfl rfl ?_)
            | (go_at_call 12; refine (HAW.out _).mono ?_; rintro e w9 ⟨rfl, hb9⟩; have C3 := Lib.hid (C2.out.call hb9); clear hb9))
          go_ret
          exact ⟨rfl, C3.out.a.b⟩
        · have h1b : (R2 == 0) = true := by simpa using h1
          have h2b : (Q2 == 0) = false := by simpa using h2
          clear h1 h2
          go_wp2_with (first
            | (go_at_call 12; refine (HAW.out _).mono ?_; rintro e w9 ⟨rfl, hb9⟩; have C3 := Lib.hid (C2.out.call hb9); clear hb9))
          go_ret
          exact ⟨rfl, C3.out.a.b⟩
      · have h1b : (R2 == 0) = false := by simpa using h1
        clear h1
        go_wp2_with (first
          | (go_at_call 12; refine (HAW.out _).mono ?_; rintro e w9 ⟨rfl, hb9⟩; have C3 := Lib.hid (C2.out.call hb9); clear hb9))
        go_ret
        exact ⟨rfl, C3.out.a.b⟩
end

end Go.Proofs.Ytdmjpmigejpkmaa
