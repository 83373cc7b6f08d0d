/- Several texts as one: L14a. -/
import Derived.Test.YtdlbobpglgjhiaaZ5
namespace Go.Proofs.Ytdlbobpglgjhiaa

/-! L14a -/
section
set_option linter.unusedVariables false
set_option linter.unusedSimpArgs false
open Go.RowKit

set_option maxRecDepth 100000

set_option maxHeartbeats 32000000 in
theorem walk_DeltasApplies (a0 : Option Addr) (len0 cap0 : Nat) (z0 : List Int) (a1 : Option Addr) (len1 cap1 : Nat) (z1 : List Int) (a2 : Option Addr) (len2 cap2 : Nat) (z2 : List Int) (a3 : Int) (w : World) (w0 : IsRow .i64 w a0 len0 cap0 z0) (w1 : IsRow .i64 w a1 len1 cap1 z1) (w2 : IsRow .i64 w a2 len2 cap2 z2) (w3 : (Lit.int .i64 a3).wf = true) :
    Calls Try.prog 4 #[.slice a0 len0 cap0, .slice a1 len1 cap1, .slice a2 len2 cap2, .int .i64 a3] w fun e w' => e = .returned (.bool true) ∧ Below w.heap.size w w' := by
  have HTR := Lib.hid (fun u (hu : Below w.heap.size w u) => tree_any (.slice a0 len0 cap0) _ u ((rowInts w0).below hu))
  have HI1 := Lib.hid (fun u (hu : Below w.heap.size w u) => (rowInts w1).below hu)
  obtain ⟨l1, hl1⟩ : ∃ l, z1.take len1 = l := ⟨_, rfl⟩
  rw [hl1] at HI1
  have HI2 := Lib.hid (fun u (hu : Below w.heap.size w u) => (rowInts w2).below hu)
  obtain ⟨l2, hl2⟩ : ∃ l, z2.take len2 = l := ⟨_, rfl⟩
  rw [hl2] at HI2
  have HAW := Lib.hid awake14_any
  have hi1 : (Try.prog.info? 25).map (·.size) = some 1 := by kernel_rfl
  obtain ⟨hz1, hst1⟩ := zero_array (P := Try.prog) (t := 25) (n := 1) #[.slice none 0 0] (by kernel_rfl) rfl (by kernel_rfl)
  obtain ⟨E, Q, hE, hQ, hb15, hd1, hd2⟩ := quo15 a3
  clear hst1 w0 w1 w2 w3
  clear hl1
  clear hl2
  go_enter Try.func4, Try.ntmps4
  go_upto_region 2 with (first
    | (go_at_call 9; refine (HTR.out _ (Below.refl _ _)).mono ?_; rintro e w1 ⟨v1, ns, rfl, hn1, hc1, hok, hl9, hb1⟩; obtain ⟨va, vc, rfl, _⟩ := hn1.shape; have HN1 := Lib.hid hn1; have HOK := Lib.hid hok; have HL9 := Lib.hid hl9; have HB1 := Lib.hid hb1; clear hn1 hc1 hok hl9 hb1)
    | ((with_reducible refine at_store (.tmp 9) ?_); refine wpList_store_blk rfl 25 (.tmp 9) _ rfl w1.heap.size #[.slice va ns.length vc] rfl rfl #[.slice none 0 0] (Blk.new rfl) rfl hi1 (by simp [Value.oneCell']) ?_; intro w2 U2 B2; have hb2 := U2.below ((Below.refl w1.heap.size w1).alloc (Nat.le_refl _) (.cells #[.slice none 0 0] 25)) (Nat.le_refl _); have S2 : Hid (AnS w w1.heap.size (.slice va ns.length vc) ns w2) := ⟨B2, HN1.out.call hb2, HB1.out.trans (hb2.mono HB1.out.size)⟩; clear U2 B2 hb2))
  obtain ⟨bt, hbt⟩ : ∃ x, w1.heap.size = x := ⟨_, rfl⟩
  rw [hbt] at S2 ⊢
  have hnl : ns.length ≤ 100000 := by have := HL9.out; omega
  have HNL := Lib.hid hnl
  have HPOS : Hid (0 < ns.length) := HOK.out.pos
  obtain ⟨m, hm⟩ : ∃ m, Hid (ns.length = m) := ⟨_, Lib.hid rfl⟩
  rw [hm.out] at S2 ⊢
  have hm9 : m ≤ 9 := by have := HL9.out; have := hm.out; omega
  have hm1 : 0 < m := by have := HPOS.out; have := hm.out; omega
  clear hbt HN1 HB1 hnl HTR
  (try simp only [Act.put])
  have HNU := Lib.hid (fun u (hu : AnS w bt (.slice va m vc) ns u) => num_any (.slice a1 len1 cap1) l1 m u (HI1.out u hu.b) (by omega))
  have HLS : Hid (∀ u, AnS w bt (.slice va m vc) ns u → Calls Try.prog 15 #[.slice a2 len2 cap2, .int .i64 ((m : Int) + (Q : Int)), .bool true] u fun e w' => ∃ v', e = .returned v' ∧ DeltasV w' v' (lsL l2 true (m + Q)) ∧ Below u.heap.size u w') := fun u hu => by
    have h := lst14_any (.slice a2 len2 cap2) l2 (m + Q) true u (HI2.out u hu.b) (by omega)
    rw [Int.natCast_add] at h
    refine h.mono ?_
    rintro e w' ⟨v', rfl, ho, hb⟩
    exact ⟨v', rfl, ho.elV dlOK, hb⟩
  have HCA := Lib.hid (fun u (hu : AnS w bt (.slice va m vc) ns u) wv dv ws ds (hw : NumsV u wv ws) (hd : DeltasV u dv ds) => capl_any (.slice va m vc) wv dv ns HOK.out ws ds HNL.out u hu.n hw hd)
  have HRA := Lib.hid (fun u (hu : AnS w bt (.slice va m vc) ns u) wv dv ws ds (hw : NumsV u wv ws) (hd : DeltasV u dv ds) => apl_any (.slice va m vc) wv dv ns HOK.out ws ds HNL.out u hu.n hw hd)
  have HSM := Lib.hid d_same
  have hwr : IntKind.i64.wrap ((m : Int) + (Q : Int)) = (m : Int) + (Q : Int) := by rw [IntKind.wrap_i64]; omega
  obtain ⟨ws, hws⟩ : ∃ x, numK l1 m = x := ⟨_, rfl⟩
  obtain ⟨ds, hds⟩ : ∃ x, lsL l2 true (m + Q) = x := ⟨_, rfl⟩
  have HNM : Hid (∀ u B v, OwnK .u64 53 u B v ws → NumsV u v ws) := fun u B v h => by rw [← hws] at h ⊢; exact num_nums h (by omega)
  rw [hws] at HNU
  rw [hds] at HLS
  obtain ⟨R, hR⟩ : ∃ x, aplN ns ws ds = x := ⟨_, rfl⟩
  have HCA1 : Hid (∀ u, AnS w bt (.slice va m vc) ns u → ∀ wv dv, NumsV u wv ws → DeltasV u dv ds → Calls Try.prog 16 #[.agg #[.slice va m vc], wv, dv] u (AplE R u)) := fun u hu wv dv hw hd => by rw [← hR]; exact HCA.out u hu wv dv ws ds hw hd
  have HRA1 : Hid (∀ u, AnS w bt (.slice va m vc) ns u → ∀ wv dv, NumsV u wv ws → DeltasV u dv ds → Calls Try.prog 17 #[.agg #[.slice va m vc], wv, dv] u (AplE R u)) := fun u hu wv dv hw hd => by rw [← hR]; exact HRA.out u hu wv dv ws ds hw hd
  clear hws hds hR HI1 HI2 HCA HRA
  obtain ⟨R1, R2⟩ := R
  unfold AplE at HCA1 HRA1
  simp only at HCA1 HRA1
  go_wp2_with (first
    | ((with_reducible refine at_load (.tmp 19) ?_); refine wpList_load_1 23 (.tmp 19) rfl bt 0 (.slice va m vc) (S2.out.t.cell 0) rfl _ Try.underlying23 rfl rfl ?_)
    | (go_at_call 10; refine (HNU.out _ S2.out).mono ?_; rintro e w3 ⟨v3, rfl, ho3, hb3⟩; have HW3 := Lib.hid (HNM.out _ _ _ ho3); have S3 := Lib.hid (S2.out.call hb3); have HC3 := Lib.hid (S3.out.t.cell 0); clear ho3 hb3)
    | ((with_reducible refine at_load (.tmp 24) ?_); refine wpList_load_1 23 (.tmp 24) rfl bt 0 (.slice va m vc) HC3.out rfl _ Try.underlying23 rfl rfl ?_)
    | (go_at_call 15; refine (HLS.out _ S3.out).mono ?_; rintro e w4 ⟨v4, rfl, hd4, hb4⟩; have HD4 := Lib.hid hd4; have HW4 : Hid (NumsV w4 v3 ws) := ⟨HW3.out.1.below hb4, HW3.out.2⟩; have S4 := Lib.hid (S3.out.call hb4); have HT4 := Lib.hid S4.out.t; clear hd4 hb4)
    | ((with_reducible refine at_load (.tmp 9) ?_); refine wpList_load_g 25 (.tmp 9) rfl bt rfl #[.slice va m vc] _ HT4.out Try.underlying25 rfl hi1 rfl ?_)
    | (go_at_call 16; refine (HCA1.out _ S4.out _ _ HW4.out HD4.out).mono ?_; rintro e w5 ⟨v5, rfl, hn5, hb5⟩; have HN5 := Lib.hid hn5; have HW5 : Hid (NumsV w5 v3 ws) := ⟨HW4.out.1.below hb5, HW4.out.2⟩; have HD5 := Lib.hid (HD4.out.call hb5); have S5 := Lib.hid (S4.out.call hb5); have HT4 := Lib.hid S5.out.t; clear hn5 hb5)
    | (go_at_call 17; refine (HRA1.out _ S5.out _ _ HW5.out HD5.out).mono ?_; rintro e w6 ⟨v6, rfl, hn6, hb6⟩; have HN6 := Lib.hid hn6; have HN5 : Hid (NumsV w6 v5 R1) := ⟨HN5.out.1.below hb6, HN5.out.2⟩; have S6 := Lib.hid (S5.out.call hb6); clear hn6 hb6)
    | (go_at_call 18; refine (HSM.out _ _ R1 _ HN5.out HN6.out).mono ?_; rintro e w7 ⟨rfl, hb7⟩; have S7 := Lib.hid (S6.out.call hb7); clear hb7)
    | (go_at_call 14; refine (HAW.out _).mono ?_; rintro e w8 ⟨rfl, hb8⟩; have S8 := Lib.hid (S7.out.call hb8); clear hb8))
  go_ret
  exact ⟨rfl, S8.out.b⟩
end

end Go.Proofs.Ytdlbobpglgjhiaa
