/- Stage 2: the walk of WideRing. -/
import Derived.Test.YtjofmejdabdhcaaAwake2
import Derived.Test.YtjofmejdabdhcaaWide2
import Derived.Test.YtjofmejdabdhcaaSum
import Derived.Test.YtjofmejdabdhcaaOpenW
set_option linter.unusedVariables false
namespace Go.Proofs.Ytjofmejdabdhcaa
open Go.RowKit

theorem belA {w u : World} {o : Obj} (h : Below w.heap.size w u) : Below w.heap.size w (u.alloc o) := h.alloc h.size _

theorem sumN_rng {ns : List Int} (h : Nums ns) : W256 (sumN ns) := by
  have h0 : 0 ≤ ns.sum := sum_nonneg (fun x hx => (h x hx).1)
  unfold sumN
  split
  · exact ⟨h0, by assumption⟩
  · exact W256.zero

theorem wides3 {w : World} {b c : Nat} {n m p : Int} (h : Blk w b #[.int .u64 (l0 n), .int .u64 (l1 n), .int .u64 (l2 n), .int .u64 (l3 n), .int .u64 (l0 m), .int .u64 (l1 m), .int .u64 (l2 m), .int .u64 (l3 m), .int .u64 (l0 p), .int .u64 (l1 p), .int .u64 (l2 p), .int .u64 (l3 p)]) :
    Wides w (.slice (some ⟨b, 0, none⟩) 3 c) [n, m, p] := by
  refine ⟨_, _, _, rfl, rfl, by unfold maxLen; omega, .inr ⟨b, 0, rfl, h.lt, fun i hi => ?_⟩⟩
  have : i = 0 ∨ i = 1 ∨ i = 2 := by omega
  rcases this with rfl | rfl | rfl
  · exact ⟨h.cell 0, h.cell 1, h.cell 2, h.cell 3⟩
  · exact ⟨h.cell 4, h.cell 5, h.cell 6, h.cell 7⟩
  · exact ⟨h.cell 8, h.cell 9, h.cell 10, h.cell 11⟩

set_option maxHeartbeats 4000000 in
theorem ring_bad1 (n m c k : Int) (hn : W256 n) (hm : W256 m) (hc : W256 c) (hk : 0 ≤ k) (hk2 : k ≤ 18446744073709551615) (w : World) (hbig : 115792089237316195423570985008687907853269984665640564039457584007913129639936 ≤ n + m) :
    Calls Try.prog 9 #[.agg #[.int .u64 (l0 (n)), .int .u64 (l1 (n)), .int .u64 (l2 (n)), .int .u64 (l3 (n))], .agg #[.int .u64 (l0 (m)), .int .u64 (l1 (m)), .int .u64 (l2 (m)), .int .u64 (l3 (m))], .agg #[.int .u64 (l0 (c)), .int .u64 (l1 (c)), .int .u64 (l2 (c)), .int .u64 (l3 (c))], .int .u64 k] w fun e w' => e = .returned (.bool true) ∧ Below w.heap.size w w' := by
  have hN1 : Nums [n, m, c] := by intro x hx; simp at hx; rcases hx with rfl | rfl | rfl <;> assumption
  have hN2 : Nums [c, n, m] := by intro x hx; simp at hx; rcases hx with rfl | rfl | rfl <;> assumption
  obtain ⟨x, f1⟩ : ∃ x, sumN [n, m, c] = x := ⟨_, rfl⟩
  obtain ⟨ex, f2⟩ : ∃ x, sumF [n, m, c] = x := ⟨_, rfl⟩
  have hxW := sumN_rng hN1
  rw [f1] at hxW
  have hperm : [c, n, m].sum = [n, m, c].sum := by simp; omega
  have f3 : sumN [c, n, m] = x := by rw [← f1]; unfold sumN; rw [hperm]
  have f4 : sumF [c, n, m] = ex := by rw [← f2]; unfold sumF; rw [hperm]
  have q1 := eq_wide hxW hxW
  clear hperm
  have H3 := Lib.hid (wadd_any n m hn hm)
  obtain ⟨s, hs⟩ : ∃ s, addN n m = s := ⟨_, rfl⟩
  have hsW := addN_rng hn hm
  have hF : addF n m = 4 := by unfold addF; rw [if_neg (by omega)]
  rw [hF, hs] at H3
  rw [hs] at hsW
  have H4 := mul_any s k hsW hk hk2
  obtain ⟨p, hp⟩ : ∃ y, madN s k 0 = y := ⟨_, rfl⟩
  obtain ⟨ep, hep⟩ : ∃ y, madF s k 0 = y := ⟨_, rfl⟩
  rw [hp, hep] at H4
  have H4 := Lib.hid H4
  clear hbig hs hF hp hep
  have hb := Below.refl w.heap.size w
  have bA : Blk (((w.alloc (.cells #[.int .u64 (l0 n), .int .u64 (l1 n), .int .u64 (l2 n), .int .u64 (l3 n)] 24)).alloc (.cells #[.int .u64 (l0 m), .int .u64 (l1 m), .int .u64 (l2 m), .int .u64 (l3 m)] 24)).alloc (.cells #[.int .u64 (l0 c), .int .u64 (l1 c), .int .u64 (l2 c), .int .u64 (l3 c)] 24)) w.heap.size #[.int .u64 (l0 n), .int .u64 (l1 n), .int .u64 (l2 n), .int .u64 (l3 n)] := ((Blk.new rfl).alloc _).alloc _
  have bB : Blk (((w.alloc (.cells #[.int .u64 (l0 n), .int .u64 (l1 n), .int .u64 (l2 n), .int .u64 (l3 n)] 24)).alloc (.cells #[.int .u64 (l0 m), .int .u64 (l1 m), .int .u64 (l2 m), .int .u64 (l3 m)] 24)).alloc (.cells #[.int .u64 (l0 c), .int .u64 (l1 c), .int .u64 (l2 c), .int .u64 (l3 c)] 24)) (w.heap.size + 1) #[.int .u64 (l0 m), .int .u64 (l1 m), .int .u64 (l2 m), .int .u64 (l3 m)] := (Blk.new (by simp)).alloc _
  have bC : Blk (((w.alloc (.cells #[.int .u64 (l0 n), .int .u64 (l1 n), .int .u64 (l2 n), .int .u64 (l3 n)] 24)).alloc (.cells #[.int .u64 (l0 m), .int .u64 (l1 m), .int .u64 (l2 m), .int .u64 (l3 m)] 24)).alloc (.cells #[.int .u64 (l0 c), .int .u64 (l1 c), .int .u64 (l2 c), .int .u64 (l3 c)] 24)) (w.heap.size + 1 + 1) #[.int .u64 (l0 c), .int .u64 (l1 c), .int .u64 (l2 c), .int .u64 (l3 c)] := Blk.new (by simp)
  go_enter Try.func9, Try.ntmps9
  go_wp2_with (first
    | (go_at_call 22; refine (sum_any _ [n, m, c] _ (wides3 (Blk.new (by simp))) hN1).mono ?_; rintro e w1 ⟨rfl, hb1⟩; rw [f1, f2]; replace bA := Blk.call hb1 (by repeat (first | exact bA | apply Blk.alloc)); replace bB := Blk.call hb1 (by repeat (first | exact bB | apply Blk.alloc)); replace bC := Blk.call hb1 (by repeat (first | exact bC | apply Blk.alloc)); replace hb := bel0 (by repeat (first | exact hb | apply belA)) hb1; clear hb1; obtain ⟨bA0, bA1, bA2, bA3, bA4⟩ := bA.four; have bAl := bA.lt; obtain ⟨bB0, bB1, bB2, bB3, bB4⟩ := bB.four; have bBl := bB.lt; obtain ⟨bC0, bC1, bC2, bC3, bC4⟩ := bC.four; have bCl := bC.lt)
    | (go_at_call 22; refine (sum_any _ [c, n, m] _ (wides3 (Blk.new (by simp))) hN2).mono ?_; rintro e w2 ⟨rfl, hb2⟩; rw [f3, f4]; replace bA := Blk.call hb2 (by repeat (first | exact bA | apply Blk.alloc)); replace bB := Blk.call hb2 (by repeat (first | exact bB | apply Blk.alloc)); replace bC := Blk.call hb2 (by repeat (first | exact bC | apply Blk.alloc)); have bX := Blk.call hb2 (Blk.alloc (Blk.new rfl) _); replace hb := bel0 (by repeat (first | exact hb | apply belA)) hb2; clear hb2; obtain ⟨bA0, bA1, bA2, bA3, bA4⟩ := bA.four; have bAl := bA.lt; obtain ⟨bB0, bB1, bB2, bB3, bB4⟩ := bB.four; have bBl := bB.lt; obtain ⟨bC0, bC1, bC2, bC3, bC4⟩ := bC.four; have bCl := bC.lt; obtain ⟨bX0, bX1, bX2, bX3, bX4⟩ := bX.four; have bXl := bX.lt)
    | (go_at_call_of 10 (l0 n); refine (H3.out _).mono ?_; rintro e w3 ⟨rfl, hb3⟩; replace bA := Blk.call hb3 (by repeat (first | exact bA | apply Blk.alloc)); replace bB := Blk.call hb3 (by repeat (first | exact bB | apply Blk.alloc)); replace hb := bel0 (by repeat (first | exact hb | apply belA)) hb3; clear hb3; obtain ⟨bA0, bA1, bA2, bA3, bA4⟩ := bA.four; have bAl := bA.lt; obtain ⟨bB0, bB1, bB2, bB3, bB4⟩ := bB.four; have bBl := bB.lt)
    | (go_at_call_of 18 (l0 s); refine (H4.out _).mono ?_; rintro e w4 ⟨rfl, hb4⟩; replace bA := Blk.call hb4 (by repeat (first | exact bA | apply Blk.alloc)); replace bB := Blk.call hb4 (by repeat (first | exact bB | apply Blk.alloc)); have bS := Blk.call hb4 (Blk.new rfl); replace hb := bel0 (by repeat (first | exact hb | apply belA)) hb4; clear hb4; obtain ⟨bA0, bA1, bA2, bA3, bA4⟩ := bA.four; have bAl := bA.lt; obtain ⟨bB0, bB1, bB2, bB3, bB4⟩ := bB.four; have bBl := bB.lt; obtain ⟨bS0, bS1, bS2, bS3, bS4⟩ := bS.four; have bSl := bS.lt)
    | (go_at_call 17; refine (awake2 _).mono ?_; rintro e w9 ⟨rfl, hb9⟩; replace hb := bel0 (by repeat (first | exact hb | apply belA)) hb9))
  go_ret
  exact ⟨rfl, hb⟩

set_option maxHeartbeats 4000000 in
theorem ring_bad2 (n m c k : Int) (hn : W256 n) (hm : W256 m) (hc : W256 c) (hk : 0 ≤ k) (hk2 : k ≤ 18446744073709551615) (w : World) (hlt : n + m < 115792089237316195423570985008687907853269984665640564039457584007913129639936) (hbig : 115792089237316195423570985008687907853269984665640564039457584007913129639936 ≤ (n + m) * k) :
    Calls Try.prog 9 #[.agg #[.int .u64 (l0 (n)), .int .u64 (l1 (n)), .int .u64 (l2 (n)), .int .u64 (l3 (n))], .agg #[.int .u64 (l0 (m)), .int .u64 (l1 (m)), .int .u64 (l2 (m)), .int .u64 (l3 (m))], .agg #[.int .u64 (l0 (c)), .int .u64 (l1 (c)), .int .u64 (l2 (c)), .int .u64 (l3 (c))], .int .u64 k] w fun e w' => e = .returned (.bool true) ∧ Below w.heap.size w w' := by
  have hN1 : Nums [n, m, c] := by intro x hx; simp at hx; rcases hx with rfl | rfl | rfl <;> assumption
  have hN2 : Nums [c, n, m] := by intro x hx; simp at hx; rcases hx with rfl | rfl | rfl <;> assumption
  obtain ⟨x, f1⟩ : ∃ x, sumN [n, m, c] = x := ⟨_, rfl⟩
  obtain ⟨ex, f2⟩ : ∃ x, sumF [n, m, c] = x := ⟨_, rfl⟩
  have hxW := sumN_rng hN1
  rw [f1] at hxW
  have hperm : [c, n, m].sum = [n, m, c].sum := by simp; omega
  have f3 : sumN [c, n, m] = x := by rw [← f1]; unfold sumN; rw [hperm]
  have f4 : sumF [c, n, m] = ex := by rw [← f2]; unfold sumF; rw [hperm]
  have q1 := eq_wide hxW hxW
  clear hperm
  have H3 := Lib.hid (wadd_any n m hn hm)
  obtain ⟨s, hs⟩ : ∃ s, addN n m = s := ⟨_, rfl⟩
  have hsW := addN_rng hn hm
  have hs2 : s = n + m := by rw [← hs]; unfold addN; rw [if_pos hlt]
  have hF : addF n m = 0 := by unfold addF; rw [if_pos hlt]
  rw [hF, hs] at H3
  rw [hs] at hsW
  have H4 := mul_any s k hsW hk hk2
  obtain ⟨p, hp⟩ : ∃ y, madN s k 0 = y := ⟨_, rfl⟩
  have hep : madF s k 0 = 4 := by unfold madF; rw [hs2, if_neg (by omega)]
  rw [hp, hep] at H4
  have H4 := Lib.hid H4
  clear hbig hs hF hp hep hs2 hlt
  have hb := Below.refl w.heap.size w
  have bA : Blk (((w.alloc (.cells #[.int .u64 (l0 n), .int .u64 (l1 n), .int .u64 (l2 n), .int .u64 (l3 n)] 24)).alloc (.cells #[.int .u64 (l0 m), .int .u64 (l1 m), .int .u64 (l2 m), .int .u64 (l3 m)] 24)).alloc (.cells #[.int .u64 (l0 c), .int .u64 (l1 c), .int .u64 (l2 c), .int .u64 (l3 c)] 24)) w.heap.size #[.int .u64 (l0 n), .int .u64 (l1 n), .int .u64 (l2 n), .int .u64 (l3 n)] := ((Blk.new rfl).alloc _).alloc _
  have bB : Blk (((w.alloc (.cells #[.int .u64 (l0 n), .int .u64 (l1 n), .int .u64 (l2 n), .int .u64 (l3 n)] 24)).alloc (.cells #[.int .u64 (l0 m), .int .u64 (l1 m), .int .u64 (l2 m), .int .u64 (l3 m)] 24)).alloc (.cells #[.int .u64 (l0 c), .int .u64 (l1 c), .int .u64 (l2 c), .int .u64 (l3 c)] 24)) (w.heap.size + 1) #[.int .u64 (l0 m), .int .u64 (l1 m), .int .u64 (l2 m), .int .u64 (l3 m)] := (Blk.new (by simp)).alloc _
  have bC : Blk (((w.alloc (.cells #[.int .u64 (l0 n), .int .u64 (l1 n), .int .u64 (l2 n), .int .u64 (l3 n)] 24)).alloc (.cells #[.int .u64 (l0 m), .int .u64 (l1 m), .int .u64 (l2 m), .int .u64 (l3 m)] 24)).alloc (.cells #[.int .u64 (l0 c), .int .u64 (l1 c), .int .u64 (l2 c), .int .u64 (l3 c)] 24)) (w.heap.size + 1 + 1) #[.int .u64 (l0 c), .int .u64 (l1 c), .int .u64 (l2 c), .int .u64 (l3 c)] := Blk.new (by simp)
  go_enter Try.func9, Try.ntmps9
  go_wp2_with (first
    | (go_at_call 22; refine (sum_any _ [n, m, c] _ (wides3 (Blk.new (by simp))) hN1).mono ?_; rintro e w1 ⟨rfl, hb1⟩; rw [f1, f2]; replace bA := Blk.call hb1 (by repeat (first | exact bA | apply Blk.alloc)); replace bB := Blk.call hb1 (by repeat (first | exact bB | apply Blk.alloc)); replace bC := Blk.call hb1 (by repeat (first | exact bC | apply Blk.alloc)); replace hb := bel0 (by repeat (first | exact hb | apply belA)) hb1; clear hb1; obtain ⟨bA0, bA1, bA2, bA3, bA4⟩ := bA.four; have bAl := bA.lt; obtain ⟨bB0, bB1, bB2, bB3, bB4⟩ := bB.four; have bBl := bB.lt; obtain ⟨bC0, bC1, bC2, bC3, bC4⟩ := bC.four; have bCl := bC.lt)
    | (go_at_call 22; refine (sum_any _ [c, n, m] _ (wides3 (Blk.new (by simp))) hN2).mono ?_; rintro e w2 ⟨rfl, hb2⟩; rw [f3, f4]; replace bA := Blk.call hb2 (by repeat (first | exact bA | apply Blk.alloc)); replace bB := Blk.call hb2 (by repeat (first | exact bB | apply Blk.alloc)); replace bC := Blk.call hb2 (by repeat (first | exact bC | apply Blk.alloc)); have bX := Blk.call hb2 (Blk.alloc (Blk.new rfl) _); replace hb := bel0 (by repeat (first | exact hb | apply belA)) hb2; clear hb2; obtain ⟨bA0, bA1, bA2, bA3, bA4⟩ := bA.four; have bAl := bA.lt; obtain ⟨bB0, bB1, bB2, bB3, bB4⟩ := bB.four; have bBl := bB.lt; obtain ⟨bC0, bC1, bC2, bC3, bC4⟩ := bC.four; have bCl := bC.lt; obtain ⟨bX0, bX1, bX2, bX3, bX4⟩ := bX.four; have bXl := bX.lt)
    | (go_at_call_of 10 (l0 n); refine (H3.out _).mono ?_; rintro e w3 ⟨rfl, hb3⟩; replace bA := Blk.call hb3 (by repeat (first | exact bA | apply Blk.alloc)); replace bB := Blk.call hb3 (by repeat (first | exact bB | apply Blk.alloc)); replace hb := bel0 (by repeat (first | exact hb | apply belA)) hb3; clear hb3; obtain ⟨bA0, bA1, bA2, bA3, bA4⟩ := bA.four; have bAl := bA.lt; obtain ⟨bB0, bB1, bB2, bB3, bB4⟩ := bB.four; have bBl := bB.lt)
    | (go_at_call_of 18 (l0 s); refine (H4.out _).mono ?_; rintro e w4 ⟨rfl, hb4⟩; replace bA := Blk.call hb4 (by repeat (first | exact bA | apply Blk.alloc)); replace bB := Blk.call hb4 (by repeat (first | exact bB | apply Blk.alloc)); have bS := Blk.call hb4 (Blk.new rfl); replace hb := bel0 (by repeat (first | exact hb | apply belA)) hb4; clear hb4; obtain ⟨bA0, bA1, bA2, bA3, bA4⟩ := bA.four; have bAl := bA.lt; obtain ⟨bB0, bB1, bB2, bB3, bB4⟩ := bB.four; have bBl := bB.lt; obtain ⟨bS0, bS1, bS2, bS3, bS4⟩ := bS.four; have bSl := bS.lt)
    | (go_at_call 17; refine (awake2 _).mono ?_; rintro e w9 ⟨rfl, hb9⟩; replace hb := bel0 (by repeat (first | exact hb | apply belA)) hb9))
  go_ret
  exact ⟨rfl, hb⟩

set_option maxHeartbeats 8000000 in
theorem ring_good (n m c k : Int) (hn : W256 n) (hm : W256 m) (hc : W256 c) (hk : 0 ≤ k) (hk2 : k ≤ 18446744073709551615) (w : World) (hlt : n + m < 115792089237316195423570985008687907853269984665640564039457584007913129639936) (hlt2 : (n + m) * k < 115792089237316195423570985008687907853269984665640564039457584007913129639936) :
    Calls Try.prog 9 #[.agg #[.int .u64 (l0 (n)), .int .u64 (l1 (n)), .int .u64 (l2 (n)), .int .u64 (l3 (n))], .agg #[.int .u64 (l0 (m)), .int .u64 (l1 (m)), .int .u64 (l2 (m)), .int .u64 (l3 (m))], .agg #[.int .u64 (l0 (c)), .int .u64 (l1 (c)), .int .u64 (l2 (c)), .int .u64 (l3 (c))], .int .u64 k] w fun e w' => e = .returned (.bool true) ∧ Below w.heap.size w w' := by
  have hN1 : Nums [n, m, c] := by intro x hx; simp at hx; rcases hx with rfl | rfl | rfl <;> assumption
  have hN2 : Nums [c, n, m] := by intro x hx; simp at hx; rcases hx with rfl | rfl | rfl <;> assumption
  obtain ⟨x, f1⟩ : ∃ x, sumN [n, m, c] = x := ⟨_, rfl⟩
  obtain ⟨ex, f2⟩ : ∃ x, sumF [n, m, c] = x := ⟨_, rfl⟩
  have hxW := sumN_rng hN1
  rw [f1] at hxW
  have hperm : [c, n, m].sum = [n, m, c].sum := by simp; omega
  have f3 : sumN [c, n, m] = x := by rw [← f1]; unfold sumN; rw [hperm]
  have f4 : sumF [c, n, m] = ex := by rw [← f2]; unfold sumF; rw [hperm]
  have q1 := eq_wide hxW hxW
  clear hperm
  have H3 := Lib.hid (wadd_any n m hn hm)
  have hsW := addN_rng hn hm
  have hs2 : addN n m = n + m := by unfold addN; rw [if_pos hlt]
  have hF : addF n m = 0 := by unfold addF; rw [if_pos hlt]
  rw [hs2] at hsW
  rw [hF, hs2] at H3
  have hnk : 0 ≤ n * k := Int.mul_nonneg hn.1 hk
  have hmk : 0 ≤ m * k := Int.mul_nonneg hm.1 hk
  have hdist : (n + m) * k = n * k + m * k := Int.add_mul _ _ _
  have H4 := mul_any (n + m) k hsW hk hk2
  have H5 := mul_any n k hn hk hk2
  have H6 := mul_any m k hm hk hk2
  have e4 : madN (n + m) k 0 = n * k + m * k ∧ madF (n + m) k 0 = 0 := by unfold madN madF; rw [Int.add_zero, if_pos hlt2, if_pos hlt2, hdist]; exact ⟨rfl, rfl⟩
  have e5 : madN n k 0 = n * k ∧ madF n k 0 = 0 := by unfold madN madF; rw [Int.add_zero, if_pos (by omega), if_pos (by omega)]; exact ⟨rfl, rfl⟩
  have e6 : madN m k 0 = m * k ∧ madF m k 0 = 0 := by unfold madN madF; rw [Int.add_zero, if_pos (by omega), if_pos (by omega)]; exact ⟨rfl, rfl⟩
  rw [e4.1, e4.2] at H4
  rw [e5.1, e5.2] at H5
  rw [e6.1, e6.2] at H6
  obtain ⟨u, hu⟩ : ∃ u, n * k = u := ⟨_, rfl⟩
  obtain ⟨v, hv⟩ : ∃ v, m * k = v := ⟨_, rfl⟩
  rw [hu] at hnk hdist H4 H5
  rw [hv] at hmk hdist H4 H6
  have huW : W256 u := ⟨hnk, by omega⟩
  have hvW : W256 v := ⟨hmk, by omega⟩
  have H7 := wadd_any u v huW hvW
  have e7 : addN u v = u + v ∧ addF u v = 0 := by unfold addN addF; rw [if_pos (by omega), if_pos (by omega)]; exact ⟨rfl, rfl⟩
  rw [e7.1, e7.2] at H7
  have H8 := wsub_any (n + m) m hsW hm
  have e8 : subN (n + m) m = n ∧ subF (n + m) m = 0 := by unfold subN subF; rw [if_pos (by have := hn.1; omega), if_pos (by have := hn.1; omega)]; exact ⟨by omega, rfl⟩
  rw [e8.1, e8.2] at H8
  have hpW : W256 (u + v) := ⟨by omega, by omega⟩
  obtain ⟨p, hp⟩ : ∃ p, u + v = p := ⟨_, rfl⟩
  rw [hp] at hpW H4 H7
  obtain ⟨s, hs⟩ : ∃ s, n + m = s := ⟨_, rfl⟩
  rw [hs] at H3 H4 H8 hsW
  clear e4 e5 e6 e7 e8 hdist hlt hlt2 hnk hmk hu hv hp hs hs2 hF
  have q2 := eq_wide hpW hpW
  have q3 := eq_wide hn hn
  have H4 := Lib.hid H4
  have H5 := Lib.hid H5
  have H6 := Lib.hid H6
  have H7 := Lib.hid H7
  have H8 := Lib.hid H8
  have hb := Below.refl w.heap.size w
  have bA : Blk (((w.alloc (.cells #[.int .u64 (l0 n), .int .u64 (l1 n), .int .u64 (l2 n), .int .u64 (l3 n)] 24)).alloc (.cells #[.int .u64 (l0 m), .int .u64 (l1 m), .int .u64 (l2 m), .int .u64 (l3 m)] 24)).alloc (.cells #[.int .u64 (l0 c), .int .u64 (l1 c), .int .u64 (l2 c), .int .u64 (l3 c)] 24)) w.heap.size #[.int .u64 (l0 n), .int .u64 (l1 n), .int .u64 (l2 n), .int .u64 (l3 n)] := ((Blk.new rfl).alloc _).alloc _
  have bB : Blk (((w.alloc (.cells #[.int .u64 (l0 n), .int .u64 (l1 n), .int .u64 (l2 n), .int .u64 (l3 n)] 24)).alloc (.cells #[.int .u64 (l0 m), .int .u64 (l1 m), .int .u64 (l2 m), .int .u64 (l3 m)] 24)).alloc (.cells #[.int .u64 (l0 c), .int .u64 (l1 c), .int .u64 (l2 c), .int .u64 (l3 c)] 24)) (w.heap.size + 1) #[.int .u64 (l0 m), .int .u64 (l1 m), .int .u64 (l2 m), .int .u64 (l3 m)] := (Blk.new (by simp)).alloc _
  have bC : Blk (((w.alloc (.cells #[.int .u64 (l0 n), .int .u64 (l1 n), .int .u64 (l2 n), .int .u64 (l3 n)] 24)).alloc (.cells #[.int .u64 (l0 m), .int .u64 (l1 m), .int .u64 (l2 m), .int .u64 (l3 m)] 24)).alloc (.cells #[.int .u64 (l0 c), .int .u64 (l1 c), .int .u64 (l2 c), .int .u64 (l3 c)] 24)) (w.heap.size + 1 + 1) #[.int .u64 (l0 c), .int .u64 (l1 c), .int .u64 (l2 c), .int .u64 (l3 c)] := Blk.new (by simp)
  go_enter Try.func9, Try.ntmps9
  go_wp2_with (first
    | (go_at_call 22; refine (sum_any _ [n, m, c] _ (wides3 (Blk.new (by simp))) hN1).mono ?_; rintro e w1 ⟨rfl, hb1⟩; rw [f1, f2]; replace bA := Blk.call hb1 (by repeat (first | exact bA | apply Blk.alloc)); replace bB := Blk.call hb1 (by repeat (first | exact bB | apply Blk.alloc)); replace bC := Blk.call hb1 (by repeat (first | exact bC | apply Blk.alloc)); replace hb := bel0 (by repeat (first | exact hb | apply belA)) hb1; clear hb1; obtain ⟨bA0, bA1, bA2, bA3, bA4⟩ := bA.four; have bAl := bA.lt; obtain ⟨bB0, bB1, bB2, bB3, bB4⟩ := bB.four; have bBl := bB.lt; obtain ⟨bC0, bC1, bC2, bC3, bC4⟩ := bC.four; have bCl := bC.lt)
    | (go_at_call 22; refine (sum_any _ [c, n, m] _ (wides3 (Blk.new (by simp))) hN2).mono ?_; rintro e w2 ⟨rfl, hb2⟩; rw [f3, f4]; replace bA := Blk.call hb2 (by repeat (first | exact bA | apply Blk.alloc)); replace bB := Blk.call hb2 (by repeat (first | exact bB | apply Blk.alloc)); replace bC := Blk.call hb2 (by repeat (first | exact bC | apply Blk.alloc)); have bX := Blk.call hb2 (Blk.alloc (Blk.new rfl) _); replace hb := bel0 (by repeat (first | exact hb | apply belA)) hb2; clear hb2; obtain ⟨bA0, bA1, bA2, bA3, bA4⟩ := bA.four; have bAl := bA.lt; obtain ⟨bB0, bB1, bB2, bB3, bB4⟩ := bB.four; have bBl := bB.lt; obtain ⟨bC0, bC1, bC2, bC3, bC4⟩ := bC.four; have bCl := bC.lt; obtain ⟨bX0, bX1, bX2, bX3, bX4⟩ := bX.four; have bXl := bX.lt)
    | (go_at_call_of 10 (l0 n); refine (H3.out _).mono ?_; rintro e w3 ⟨rfl, hb3⟩; replace bA := Blk.call hb3 (by repeat (first | exact bA | apply Blk.alloc)); replace bB := Blk.call hb3 (by repeat (first | exact bB | apply Blk.alloc)); replace hb := bel0 (by repeat (first | exact hb | apply belA)) hb3; clear hb3; obtain ⟨bA0, bA1, bA2, bA3, bA4⟩ := bA.four; have bAl := bA.lt; obtain ⟨bB0, bB1, bB2, bB3, bB4⟩ := bB.four; have bBl := bB.lt)
    | (go_at_call_of 18 (l0 s); refine (H4.out _).mono ?_; rintro e w4 ⟨rfl, hb4⟩; replace bA := Blk.call hb4 (by repeat (first | exact bA | apply Blk.alloc)); replace bB := Blk.call hb4 (by repeat (first | exact bB | apply Blk.alloc)); have bS := Blk.call hb4 (Blk.new rfl); replace hb := bel0 (by repeat (first | exact hb | apply belA)) hb4; clear hb4; obtain ⟨bA0, bA1, bA2, bA3, bA4⟩ := bA.four; have bAl := bA.lt; obtain ⟨bB0, bB1, bB2, bB3, bB4⟩ := bB.four; have bBl := bB.lt; obtain ⟨bS0, bS1, bS2, bS3, bS4⟩ := bS.four; have bSl := bS.lt)
    | (go_at_call_of 18 (l0 n); refine (H5.out _).mono ?_; rintro e w5 ⟨rfl, hb5⟩; replace bA := Blk.call hb5 (by repeat (first | exact bA | apply Blk.alloc)); replace bB := Blk.call hb5 (by repeat (first | exact bB | apply Blk.alloc)); replace bS := Blk.call hb5 (by repeat (first | exact bS | apply Blk.alloc)); have bP := Blk.call hb5 (Blk.new rfl); replace hb := bel0 (by repeat (first | exact hb | apply belA)) hb5; clear hb5; obtain ⟨bA0, bA1, bA2, bA3, bA4⟩ := bA.four; have bAl := bA.lt; obtain ⟨bB0, bB1, bB2, bB3, bB4⟩ := bB.four; have bBl := bB.lt; obtain ⟨bS0, bS1, bS2, bS3, bS4⟩ := bS.four; have bSl := bS.lt; obtain ⟨bP0, bP1, bP2, bP3, bP4⟩ := bP.four; have bPl := bP.lt)
    | (go_at_call_of 18 (l0 m); refine (H6.out _).mono ?_; rintro e w6 ⟨rfl, hb6⟩; replace bA := Blk.call hb6 (by repeat (first | exact bA | apply Blk.alloc)); replace bB := Blk.call hb6 (by repeat (first | exact bB | apply Blk.alloc)); replace bS := Blk.call hb6 (by repeat (first | exact bS | apply Blk.alloc)); replace bP := Blk.call hb6 (by repeat (first | exact bP | apply Blk.alloc)); have bU := Blk.call hb6 (Blk.new rfl); replace hb := bel0 (by repeat (first | exact hb | apply belA)) hb6; clear hb6; obtain ⟨bA0, bA1, bA2, bA3, bA4⟩ := bA.four; have bAl := bA.lt; obtain ⟨bB0, bB1, bB2, bB3, bB4⟩ := bB.four; have bBl := bB.lt; obtain ⟨bS0, bS1, bS2, bS3, bS4⟩ := bS.four; have bSl := bS.lt; obtain ⟨bP0, bP1, bP2, bP3, bP4⟩ := bP.four; have bPl := bP.lt; obtain ⟨bU0, bU1, bU2, bU3, bU4⟩ := bU.four; have bUl := bU.lt)
    | (go_at_call_of 10 (l0 u); refine (H7.out _).mono ?_; rintro e w7 ⟨rfl, hb7⟩; replace bA := Blk.call hb7 (by repeat (first | exact bA | apply Blk.alloc)); replace bB := Blk.call hb7 (by repeat (first | exact bB | apply Blk.alloc)); replace bS := Blk.call hb7 (by repeat (first | exact bS | apply Blk.alloc)); replace bP := Blk.call hb7 (by repeat (first | exact bP | apply Blk.alloc)); have bV := Blk.call hb7 (Blk.new rfl); replace hb := bel0 (by repeat (first | exact hb | apply belA)) hb7; clear hb7; obtain ⟨bA0, bA1, bA2, bA3, bA4⟩ := bA.four; have bAl := bA.lt; obtain ⟨bB0, bB1, bB2, bB3, bB4⟩ := bB.four; have bBl := bB.lt; obtain ⟨bS0, bS1, bS2, bS3, bS4⟩ := bS.four; have bSl := bS.lt; obtain ⟨bP0, bP1, bP2, bP3, bP4⟩ := bP.four; have bPl := bP.lt; obtain ⟨bV0, bV1, bV2, bV3, bV4⟩ := bV.four; have bVl := bV.lt)
    | (go_at_call 12; refine (H8.out _).mono ?_; rintro e w8 ⟨rfl, hb8⟩; replace bA := Blk.call hb8 (by repeat (first | exact bA | apply Blk.alloc)); replace bP := Blk.call hb8 (by repeat (first | exact bP | apply Blk.alloc)); have bW := Blk.call hb8 (Blk.new rfl); replace hb := bel0 (by repeat (first | exact hb | apply belA)) hb8; clear hb8; obtain ⟨bA0, bA1, bA2, bA3, bA4⟩ := bA.four; have bAl := bA.lt; obtain ⟨bP0, bP1, bP2, bP3, bP4⟩ := bP.four; have bPl := bP.lt; obtain ⟨bW0, bW1, bW2, bW3, bW4⟩ := bW.four; have bWl := bW.lt)
    | (go_at_call 17; refine (awake2 _).mono ?_; rintro e w9 ⟨rfl, hb9⟩; replace hb := bel0 (by repeat (first | exact hb | apply belA)) hb9))
  go_ret
  exact ⟨rfl, hb⟩

theorem walk_WideRing (a0 a1 a2 : List Int) (a3 : Int) (w : World) (w0 : a0.length = 4 ∧ ∀ x ∈ a0, (Lit.int .u64 x).wf = true) (w1 : a1.length = 4 ∧ ∀ x ∈ a1, (Lit.int .u64 x).wf = true) (w2 : a2.length = 4 ∧ ∀ x ∈ a2, (Lit.int .u64 x).wf = true) (w3 : (Lit.int .u64 a3).wf = true) :
    Calls Try.prog 9 #[.agg (a0.map (Value.int .u64)).toArray, .agg (a1.map (Value.int .u64)).toArray, .agg (a2.map (Value.int .u64)).toArray, .int .u64 a3] w fun e w' => e = .returned (.bool true) ∧ Below w.heap.size w w' := by
  obtain ⟨n, hn, e⟩ := wide_of w0
  obtain ⟨m, hm, e'⟩ := wide_of w1
  obtain ⟨c, hc, e2⟩ := wide_of w2
  obtain ⟨hk, hk2⟩ := wf_u64 w3
  rw [e, e', e2]
  by_cases h1 : n + m < 115792089237316195423570985008687907853269984665640564039457584007913129639936
  · by_cases h2 : (n + m) * a3 < 115792089237316195423570985008687907853269984665640564039457584007913129639936
    · exact ring_good n m c a3 hn hm hc hk hk2 w h1 h2
    · exact ring_bad2 n m c a3 hn hm hc hk hk2 w h1 (by omega)
  · exact ring_bad1 n m c a3 hn hm hc hk hk2 w (by omega)

end Go.Proofs.Ytjofmejdabdhcaa
