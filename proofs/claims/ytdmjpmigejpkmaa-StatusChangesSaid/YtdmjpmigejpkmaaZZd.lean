/- Several texts as one: L16c. -/
import Derived.Test.YtdmjpmigejpkmaaZ8
import Derived.Test.YtdmjpmigejpkmaaZ9
namespace Go.Proofs.Ytdmjpmigejpkmaa

/-! L16c -/
section
set_option linter.unusedVariables false
set_option linter.unusedSimpArgs false
open Go.RowKit

set_option maxRecDepth 100000

set_option maxHeartbeats 16000000 in
theorem chg_any (ns : List NdD) (hok : TrOK ns) (hlen : ns.length ≤ 100000) (i : Int) (hir : -9223372036854775808 ≤ i ∧ i ≤ 9223372036854775807) (v : Value) (w : World) (hN : NodesV w v ns) :
    Calls Try.prog 13 #[.agg #[v], .int .i64 i] w fun e w' => e = .returned (.bool true) ∧ Below w.heap.size w w' := by
  have H1 := Lib.hid (fun u (hu : Below w.heap.size w u) => crai_any ns hok hlen i hir v u (hN.call hu))
  have H2 := Lib.hid (fun u (hu : Below w.heap.size w u) => raise_any ns hok hlen i v u (hN.call hu))
  have H3 := Lib.hid (fun u (hu : Below w.heap.size w u) => ccon_any ns hok hlen i v u (hN.call hu))
  have H4 := Lib.hid (fun u (hu : Below w.heap.size w u) => condemn_any ns hok hlen i v u (hN.call hu))
  have HSM := Lib.hid (fun v1 v2 l u h1 h2 => stree_yes v1 v2 l u h1 h2)
  obtain ⟨a, cap, rfl, hmx⟩ := hN.shape
  unfold maxLen at hmx
  have hi1 : (Try.prog.info? 25).map (·.size) = some 1 := by kernel_rfl
  obtain ⟨hz1, hst1⟩ := zero_array (P := Try.prog) (t := 25) (n := 1) #[.slice none 0 0] (by kernel_rfl) rfl (by kernel_rfl)
  unfold SetE at H1 H2 H3 H4
  obtain ⟨R, hR⟩ : ∃ x, raiN ns i = x := ⟨_, rfl⟩
  obtain ⟨Q, hQ⟩ : ∃ x, conN ns i = x := ⟨_, rfl⟩
  rw [hR] at H1 H2
  rw [hQ] at H3 H4
  clear hR hQ
  obtain ⟨R1, R2⟩ := R
  obtain ⟨Q1, Q2⟩ := Q
  simp only at H1 H2 H3 H4
  obtain ⟨m, hm⟩ : ∃ m, Hid (ns.length = m) := ⟨_, Lib.hid rfl⟩
  rw [hm.out] at H1 H2 H3 H4 hmx ⊢
  have T0 := Lib.hid (pas_new w #[.slice a m cap] 25)
  have hrr : (R2 == R2) = true := by simp
  have hqq : (Q2 == Q2) = true := by simp
  clear hN hok hst1
  go_enter Try.func13, Try.ntmps13
  go_upto_region 2 with (first
    | ((with_reducible refine at_load (.tmp 2) ?_); refine wpList_load_g 25 (.tmp 2) rfl w.heap.size rfl #[.slice a m cap] _ T0.out.t Try.underlying25 rfl hi1 rfl ?_)
    | (go_at_call 19; refine (H1.out _ T0.out.b).mono ?_; rintro e w1 ⟨v1, rfl, hn1, hc1, hw1, hb1⟩; obtain ⟨a1, c1, rfl, _⟩ := hn1.shape; have HN1 := Lib.hid hn1; have S1 := Lib.hid (T0.out.call hb1); clear hn1 hc1 hw1 hb1)
    | ((with_reducible refine at_store (.tmp 5) ?_); refine wpList_store_blk rfl 25 (.tmp 5) _ rfl w1.heap.size #[.slice a1 R1.length c1] rfl rfl #[.slice none 0 0] (Blk.new rfl) rfl hi1 (by simp [Value.oneCell']) ?_; intro y U B; have hb := U.below ((Below.refl w1.heap.size w1).alloc (Nat.le_refl _) (.cells #[.slice none 0 0] 25)) (Nat.le_refl _); have X1 : Hid (TwB y w1.heap.size (.slice a1 R1.length c1) R1) := ⟨B, HN1.out.call hb⟩; have T1 := Lib.hid (S1.out.call hb); clear U B hb))
  obtain ⟨b1, hb⟩ : ∃ x, w1.heap.size = x := ⟨_, rfl⟩
  rw [hb] at X1 ⊢
  clear hb HN1 S1
  (try simp only [Act.put])
  go_upto_region 3 with (first
    | ((with_reducible refine at_load (.tmp 2) ?_); refine wpList_load_g 25 (.tmp 2) rfl w.heap.size rfl #[.slice a m cap] _ T1.out.t Try.underlying25 rfl hi1 rfl ?_)
    | (go_at_call 32; refine (H2.out _ T1.out.b).mono ?_; rintro e w1 ⟨v1, rfl, hn1, hc1, hw1, hb1⟩; obtain ⟨a2, c2, rfl, _⟩ := hn1.shape; have HN1 := Lib.hid hn1; have S1 := Lib.hid (T1.out.call hb1); have X1 := Lib.hid (X1.out.call hb1); clear hn1 hc1 hw1 hb1)
    | ((with_reducible refine at_store (.tmp 7) ?_); refine wpList_store_blk rfl 25 (.tmp 7) _ rfl w1.heap.size #[.slice a2 R1.length c2] rfl rfl #[.slice none 0 0] (Blk.new rfl) rfl hi1 (by simp [Value.oneCell']) ?_; intro y U B; have hb := U.below ((Below.refl w1.heap.size w1).alloc (Nat.le_refl _) (.cells #[.slice none 0 0] 25)) (Nat.le_refl _); have X2 : Hid (TwB y w1.heap.size (.slice a2 R1.length c2) R1) := ⟨B, HN1.out.call hb⟩; have X1 := Lib.hid (X1.out.call hb); have T2 := Lib.hid (S1.out.call hb); clear U B hb))
  obtain ⟨b2, hb⟩ : ∃ x, w1.heap.size = x := ⟨_, rfl⟩
  rw [hb] at X2 ⊢
  clear hb HN1 S1
  (try simp only [Act.put])
  go_upto_region 4 with (first
    | ((with_reducible refine at_load (.tmp 2) ?_); refine wpList_load_g 25 (.tmp 2) rfl w.heap.size rfl #[.slice a m cap] _ T2.out.t Try.underlying25 rfl hi1 rfl ?_)
    | (go_at_call 20; refine (H3.out _ T2.out.b).mono ?_; rintro e w1 ⟨v1, rfl, hn1, hc1, hw1, hb1⟩; obtain ⟨a3, c3, rfl, _⟩ := hn1.shape; have HN1 := Lib.hid hn1; have S1 := Lib.hid (T2.out.call hb1); have X1 := Lib.hid (X1.out.call hb1); have X2 := Lib.hid (X2.out.call hb1); clear hn1 hc1 hw1 hb1)
    | ((with_reducible refine at_store (.tmp 9) ?_); refine wpList_store_blk rfl 25 (.tmp 9) _ rfl w1.heap.size #[.slice a3 Q1.length c3] rfl rfl #[.slice none 0 0] (Blk.new rfl) rfl hi1 (by simp [Value.oneCell']) ?_; intro y U B; have hb := U.below ((Below.refl w1.heap.size w1).alloc (Nat.le_refl _) (.cells #[.slice none 0 0] 25)) (Nat.le_refl _); have X3 : Hid (TwB y w1.heap.size (.slice a3 Q1.length c3) Q1) := ⟨B, HN1.out.call hb⟩; have X1 := Lib.hid (X1.out.call hb); have X2 := Lib.hid (X2.out.call hb); have T3 := Lib.hid (S1.out.call hb); clear U B hb))
  obtain ⟨b3, hb⟩ : ∃ x, w1.heap.size = x := ⟨_, rfl⟩
  rw [hb] at X3 ⊢
  clear hb HN1 S1
  (try simp only [Act.put])
  go_upto_region 5 with (first
    | ((with_reducible refine at_load (.tmp 2) ?_); refine wpList_load_g 25 (.tmp 2) rfl w.heap.size rfl #[.slice a m cap] _ T3.out.t Try.underlying25 rfl hi1 rfl ?_)
    | (go_at_call 33; refine (H4.out _ T3.out.b).mono ?_; rintro e w1 ⟨v1, rfl, hn1, hc1, hw1, hb1⟩; obtain ⟨a4, c4, rfl, _⟩ := hn1.shape; have HN1 := Lib.hid hn1; have S1 := Lib.hid (T3.out.call hb1); have X1 := Lib.hid (X1.out.call hb1); have X2 := Lib.hid (X2.out.call hb1); have X3 := Lib.hid (X3.out.call hb1); clear hn1 hc1 hw1 hb1)
    | ((with_reducible refine at_store (.tmp 11) ?_); refine wpList_store_blk rfl 25 (.tmp 11) _ rfl w1.heap.size #[.slice a4 Q1.length c4] rfl rfl #[.slice none 0 0] (Blk.new rfl) rfl hi1 (by simp [Value.oneCell']) ?_; intro y U B; have hb := U.below ((Below.refl w1.heap.size w1).alloc (Nat.le_refl _) (.cells #[.slice none 0 0] 25)) (Nat.le_refl _); have X4 : Hid (TwB y w1.heap.size (.slice a4 Q1.length c4) Q1) := ⟨B, HN1.out.call hb⟩; have X1 := Lib.hid (X1.out.call hb); have X2 := Lib.hid (X2.out.call hb); have X3 := Lib.hid (X3.out.call hb); have T4 := Lib.hid (S1.out.call hb); clear U B hb))
  obtain ⟨b4, hb⟩ : ∃ x, w1.heap.size = x := ⟨_, rfl⟩
  rw [hb] at X4 ⊢
  clear hb HN1 S1
  (try simp only [Act.put])
  go_wp2_with (first
    | ((with_reducible refine at_load (.tmp 5) ?_); refine wpList_load_rng 25 (.tmp 5) rfl b1 0 [.slice a1 R1.length c1] X1.out.t.rng rfl _ Try.underlying25 rfl hi1 rfl ?_)
    | ((with_reducible refine at_load (.tmp 7) ?_); refine wpList_load_rng 25 (.tmp 7) rfl b2 0 [.slice a2 R1.length c2] X2.out.t.rng rfl _ Try.underlying25 rfl hi1 rfl ?_)
    | ((with_reducible refine at_load (.tmp 9) ?_); refine wpList_load_rng 25 (.tmp 9) rfl b3 0 [.slice a3 Q1.length c3] X3.out.t.rng rfl _ Try.underlying25 rfl hi1 rfl ?_)
    | ((with_reducible refine at_load (.tmp 11) ?_); refine wpList_load_rng 25 (.tmp 11) rfl b4 0 [.slice a4 Q1.length c4] X4.out.t.rng rfl _ Try.underlying25 rfl hi1 rfl ?_)
    | (go_at_call 22; have _d := K1; refine (HSM.out _ _ Q1 _ X3.out.n X4.out.n).mono ?_; rintro e w6 ⟨rfl, hb6⟩; have T4 := Lib.hid (T4.out.call hb6); clear hb6)
    | (go_at_call 22; refine (HSM.out _ _ R1 _ X1.out.n X2.out.n).mono ?_; rintro e w5 ⟨rfl, hb5⟩; have K1 := True.intro; have T4 := Lib.hid (T4.out.call hb5); have X3 := Lib.hid (X3.out.call hb5); have X4 := Lib.hid (X4.out.call hb5); clear hb5))
  go_ret
  exact ⟨rfl, T4.out.b⟩

set_option maxHeartbeats 32000000 in
theorem walk_StatusChanges (a0 : Option Addr) (len0 cap0 : Nat) (z0 : List Int) (a1 : Int) (w : World) (w0 : IsRow .i64 w a0 len0 cap0 z0) (w1x : (Lit.int .i64 a1).wf = true) :
    Calls Try.prog 5 #[.slice a0 len0 cap0, .int .i64 a1] w fun e w' => e = .returned (.bool true) ∧ Below w.heap.size w w' := by
  have HTR := Lib.hid (fun u (hu : Below w.heap.size w u) => tree_any (.slice a0 len0 cap0) _ u ((rowInts w0).below hu))
  have HAW := Lib.hid awake16_any
  have hi1 : (Try.prog.info? 25).map (·.size) = some 1 := by kernel_rfl
  obtain ⟨hz1, hst1⟩ := zero_array (P := Try.prog) (t := 25) (n := 1) #[.slice none 0 0] (by kernel_rfl) rfl (by kernel_rfl)
  have HR1 := Lib.hid (wf_i64 w1x)
  clear w0 hst1
  go_enter Try.func5, Try.ntmps5
  go_upto_region 2 with (first
    | (go_at_call 9; refine (HTR.out _ (Below.refl _ _)).mono ?_; rintro e w1 ⟨v1, ns, rfl, hn1, hc1, hok, hl9, hb1⟩; obtain ⟨va, vc, rfl, _⟩ := hn1.shape; have HN1 := Lib.hid hn1; have HOK := Lib.hid hok; have HL9 := Lib.hid hl9; have HB1 := Lib.hid hb1; clear hn1 hc1 hok hl9 hb1)
    | ((with_reducible refine at_store (.tmp 5) ?_); refine wpList_store_blk rfl 25 (.tmp 5) _ rfl w1.heap.size #[.slice va ns.length vc] rfl rfl #[.slice none 0 0] (Blk.new rfl) rfl hi1 (by simp [Value.oneCell']) ?_; intro w2 U2 B2; have hb2 := U2.below ((Below.refl w1.heap.size w1).alloc (Nat.le_refl _) (.cells #[.slice none 0 0] 25)) (Nat.le_refl _); have S2 : Hid (AnS w w1.heap.size (.slice va ns.length vc) ns w2) := ⟨B2, HN1.out.call hb2, HB1.out.trans (hb2.mono HB1.out.size)⟩; clear U2 B2 hb2))
  obtain ⟨bt, hbt⟩ : ∃ x, w1.heap.size = x := ⟨_, rfl⟩
  rw [hbt] at S2 ⊢
  have hnl : ns.length ≤ 100000 := by have := HL9.out; omega
  have HNL := Lib.hid hnl
  have HMP : Hid (0 < ns.length) := HOK.out.pos
  have HCG := Lib.hid (fun (k : Int) (hk : -9223372036854775808 ≤ k ∧ k ≤ 9223372036854775807) u (hu : AnS w bt (.slice va ns.length vc) ns u) => chg_any ns HOK.out HNL.out k hk (.slice va ns.length vc) u hu.n)
  obtain ⟨m, hm⟩ : ∃ m, Hid (ns.length = m) := ⟨_, Lib.hid rfl⟩
  rw [hm.out] at S2 HL9 HMP HCG ⊢
  have hm9 : m ≤ 9 := HL9.out
  clear hbt HN1 HB1 hnl
  (try simp only [Act.put])
  go_wp2_with fail
  go_loopw [6] (fun kv wr => ∃ k : Int, -1 ≤ k ∧ k ≤ m + 1 ∧ kv = .int .i64 k ∧ AnS w bt (.slice va m vc) ns wr) (fun kv _ => (m + 1 - intOf kv).toNat)
  case atStart => exact ⟨-1, by omega, by omega, rfl, S2.out⟩
  case round =>
    obtain ⟨k, hk0, hk1, rfl, hs⟩ := hrel
    have S3 := Lib.hid hs
    have HC0 := Lib.hid (hs.t.cell 0)
    clear hs
    by_cases hlt : k ≤ (m : Int)
    · go_wp2_with (first
        | ((with_reducible refine at_load (.tmp 10) ?_); refine wpList_load_1 23 (.tmp 10) rfl bt 0 (.slice va m vc) HC0.out rfl _ Try.underlying23 rfl rfl ?_)
        | ((with_reducible refine at_load (.tmp 5) ?_); refine wpList_load_g 25 (.tmp 5) rfl bt rfl #[.slice va m vc] _ S3.out.t Try.underlying25 rfl hi1 rfl ?_)
        | (go_at_call 13; refine (HCG.out k (by omega) _ S3.out).mono ?_; rintro e w4 ⟨rfl, hb4⟩; have S4 := Lib.hid (S3.out.call hb4); clear hb4))
      go_roundw
      case rel => exact ⟨k + 1, by omega, by omega, by go_num, S4.out⟩
      case measure => simp [intOf]; omega
    · have hlt' : (k ≤ (m : Int)) = False := eq_false hlt
      clear hlt
      go_wp2_with (first
        | ((with_reducible refine at_load (.tmp 10) ?_); refine wpList_load_1 23 (.tmp 10) rfl bt 0 (.slice va m vc) HC0.out rfl _ Try.underlying23 rfl rfl ?_)
        | ((with_reducible refine at_load (.tmp 5) ?_); refine wpList_load_g 25 (.tmp 5) rfl bt rfl #[.slice va m vc] _ S3.out.t Try.underlying25 rfl hi1 rfl ?_)
        | (go_at_call 13; refine (HCG.out a1 HR1.out _ S3.out).mono ?_; rintro e w4 ⟨rfl, hb4⟩; have S4 := Lib.hid (S3.out.call hb4); clear hb4)
        | (go_at_call 12; refine (HAW.out _).mono ?_; rintro e w5 ⟨rfl, hb5⟩; have S5 := Lib.hid (S4.out.call hb5); clear hb5))
      go_ret
      exact ⟨rfl, S5.out.b⟩
end

end Go.Proofs.Ytdmjpmigejpkmaa
