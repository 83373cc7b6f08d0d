/- Contract of wide.Sum over any slice of numbers. -/
import Derived.Test.YtjofmejdabdhcaaWide1
import Derived.Test.YtjofmejdabdhcaaEq
import Derived.Test.YtjofmejdabdhcaaWides
set_option linter.unusedVariables false
namespace Go.Proofs.Ytjofmejdabdhcaa
open Go.RowKit

def sumN (ns : List Int) : Int := if ns.sum < 115792089237316195423570985008687907853269984665640564039457584007913129639936 then ns.sum else 0
def sumF (ns : List Int) : Int := if ns.sum < 115792089237316195423570985008687907853269984665640564039457584007913129639936 then 0 else 4

theorem sumN_rng {ns : List Int} (h : Nums ns) : W256 (sumN ns) := by
  have h0 : 0 ≤ ns.sum := sum_nonneg (fun x hx => (h x hx).1)
  unfold sumN
  split
  · exact ⟨h0, by assumption⟩
  · exact W256.zero

/-- What stands at the loop's head. -/
def SumI (w : World) (v : Value) (ns : List Int) (i : Value) (wr : World) : Prop :=
  ∃ (k : Nat), k ≤ ns.length ∧ i = .int .i64 k ∧ (ns.take k).sum < 115792089237316195423570985008687907853269984665640564039457584007913129639936 ∧
    Below w.heap.size w wr ∧ w.heap.size + 2 ≤ wr.heap.size ∧ Blk wr w.heap.size #[.int .u64 0, .int .u64 0, .int .u64 0, .int .u64 0] ∧
    Blk wr (w.heap.size + 1) #[.int .u64 (l0 (ns.take k).sum), .int .u64 (l1 (ns.take k).sum), .int .u64 (l2 (ns.take k).sum), .int .u64 (l3 (ns.take k).sum)]

set_option maxHeartbeats 2000000 in
theorem sum_row (b off len cap : Nat) (ns : List Int) (w : World) (h : Wides w (.slice (some ⟨b, off, none⟩) len cap) ns) (hr : Nums ns) (hpos : 0 < len) :
    Calls Try.prog 22 #[.slice (some ⟨b, off, none⟩) len cap] w fun e w' => e = .returned (.tuple #[.agg #[.int .u64 (l0 (sumN ns)), .int .u64 (l1 (sumN ns)), .int .u64 (l2 (sumN ns)), .int .u64 (l3 (sumN ns))], .int .i64 (sumF ns)]) ∧ Below w.heap.size w w' := by
  have hmx : len ≤ 9223372036854775807 := by
    obtain ⟨a', l', c', e, _, hm, _⟩ := h; cases e; unfold maxLen at hm; omega
  have hnl : ns.length = len := by
    obtain ⟨a', l', c', e, hl, _, _⟩ := h; cases e; exact hl
  have HN := Lib.hid hnl; clear hnl
  go_enter Try.func22, Try.ntmps22
  go_wp2_with fail
  go_loopw [12] (fun i wr => SumI w (.slice (some ⟨b, off, none⟩) len cap) ns i wr) (fun i _ => len - (intOf i).toNat)
  case atStart =>
    refine ⟨0, Nat.zero_le _, rfl, by simp, ?_, by simp, (Blk.new rfl).alloc _, ?_⟩
    · exact ((Below.refl _ _).alloc (Nat.le_refl _) _).alloc (by simp) _
    · have e : (ns.take 0).sum = 0 := by simp
      rw [e, limbs_zero.1, limbs_zero.2.1, limbs_zero.2.2.1, limbs_zero.2.2.2]; exact Blk.new (by simp)
  case round =>
    obtain ⟨k, hk, rfl, hs, hb, hsz, bR, bT⟩ := hrel
    rw [HN.out] at hk
    obtain ⟨s, HSk⟩ : ∃ s, Hid (s = (ns.take k).sum) := ⟨_, rfl⟩
    rw [← HSk.out] at hs bT
    have hs0 : 0 ≤ s := by rw [HSk.out]; exact sum_nonneg (fun x hx => (hr x (List.mem_of_mem_take hx)).1)
    have hsW : W256 s := ⟨hs0, hs⟩
    have hT := bT.lt
    obtain ⟨t0, t1, t2, t3, t4⟩ := bT.four
    obtain ⟨z0, z1, z2, z3, z4⟩ := bR.four
    by_cases hlt : k < len
    · have hI := h.below hb
      obtain ⟨a', l', c', e, _, _, hc⟩ := hI
      cases e
      rcases hc with h0 | ⟨b', off', e, hblt, hc⟩
      · omega
      cases e
      obtain ⟨x, HX⟩ : ∃ x, Hid (x = ns.getD k 0) := ⟨_, rfl⟩
      obtain ⟨g0, g1, g2, g3⟩ := hc k hlt
      rw [← HX.out] at g0 g1 g2 g3
      have hxW := hr.at (k := k) (by rw [HN.out]; exact hlt)
      rw [← HX.out] at hxW
      have HT : Hid ((ns.take (k + 1)).sum = s + x) := by rw [HX.out, HSk.out]; exact take_sum (xs := ns) (k := k) (by rw [HN.out]; exact hlt)
      clear hc h
      have D := wadd_any s x hsW hxW
      by_cases hov : s + x < 115792089237316195423570985008687907853269984665640564039457584007913129639936
      · have e1 : addN s x = s + x := by unfold addN; rw [if_pos hov]
        have e2 : addF s x = 0 := by unfold addF; rw [if_pos hov]
        rw [e1, e2] at D
        obtain ⟨y, hy⟩ : ∃ y, s + x = y := ⟨_, rfl⟩
        rw [hy] at D hov
        have HY := Lib.hid hy; clear hy e1 e2
        have D := Lib.hid D
        go_wp2_with (go_at_call 10; refine (D.out _).mono ?_; rintro e w1 ⟨rfl, hb1⟩; obtain ⟨t0, t1, t2, t3, t4⟩ := ((bT.alloc _).call hb1).four; have hT1 := ((bT.alloc _).call hb1).lt)
        go_roundw
        case rel =>
          have hb2 := bel1 hb hb1
          refine ⟨k + 1, by rw [HN.out]; omega, by go_num, by rw [HT.out, HY.out]; exact hov, ?_, ?_, ?_, ?_⟩
          · exact (below_store4 hb2 (by omega)).alloc (below_store4 hb2 (by omega)).size _
          · rw [World.size_alloc, size_store4]; omega
          · exact (((bR.alloc _).call hb1).store4_other (by omega)).alloc _
          · rw [HT.out, HY.out]; exact (((bT.alloc _).call hb1).store4).alloc _
        case measure => simp [intOf]; omega
      · have e1 : addN s x = 0 := by unfold addN; rw [if_neg hov]
        have e2 : addF s x = 4 := by unfold addF; rw [if_neg hov]
        rw [e1, e2] at D
        have hbig : ¬ ns.sum < 115792089237316195423570985008687907853269984665640564039457584007913129639936 := by
          have h1 := take_sum_le (xs := ns) (fun y hy => (hr y hy).1) (k + 1)
          rw [HT.out] at h1
          omega
        have E1 := Lib.hid (show sumN ns = 0 from if_neg hbig)
        have E2 := Lib.hid (show sumF ns = 4 from if_neg hbig)
        clear hbig e1 e2
        have D := Lib.hid D
        go_wp2_with (go_at_call 10; refine (D.out _).mono ?_; rintro e w1 ⟨rfl, hb1⟩; obtain ⟨z0, z1, z2, z3, z4⟩ := ((bR.alloc _).call hb1).four; have hR1 := ((bR.alloc _).call hb1).lt)
        have hb2 := bel1 hb hb1
        refine bodyPost_ret (res_cell_tmp rfl rfl rfl (((bR.alloc _).call hb1).store4.alloc _) Try.underlying24 rfl (by kernel_rfl)) rfl ⟨by rw [E1.out, E2.out, limbs_zero.1, limbs_zero.2.1, limbs_zero.2.2.1, limbs_zero.2.2.2]; rfl, ?_⟩
        exact (below_store4 hb2 (by omega)).alloc (below_store4 hb2 (by omega)).size _
    · have hs' : s = ns.sum := by rw [HSk.out, List.take_of_length_le (by rw [HN.out]; omega)]
      have E1 := Lib.hid (show sumN ns = s by unfold sumN; rw [← hs', if_pos hs])
      have E2 := Lib.hid (show sumF ns = 0 by unfold sumF; rw [← hs', if_pos hs])
      clear hs'
      go_wp2_with fail
      refine bodyPost_ret (res_cell_tmp rfl rfl rfl bR.store4 Try.underlying24 rfl (by kernel_rfl)) rfl ⟨by rw [E1.out, E2.out]; rfl, ?_⟩
      exact below_store4 hb (by omega)

set_option maxHeartbeats 1000000 in
theorem wsum_nil (a : Option Addr) (cap : Nat) (w : World) :
    Calls Try.prog 22 #[.slice a 0 cap] w fun e w' => e = .returned (.tuple #[.agg #[.int .u64 (l0 (0)), .int .u64 (l1 (0)), .int .u64 (l2 (0)), .int .u64 (l3 (0))], .int .i64 0]) ∧ Below w.heap.size w w' := by
  rw [limbs_zero.1, limbs_zero.2.1, limbs_zero.2.2.1, limbs_zero.2.2.2]
  go_enter Try.func22, Try.ntmps22
  go_wp2_with fail
  refine wp_loop_rounds 1 ?_
  rw [rounds_succ]
  go_wp2_with fail
  refine bodyPost_ret (v := .tuple #[.agg #[.int .u64 0, .int .u64 0, .int .u64 0, .int .u64 0], .int .i64 0]) (by simp [results, Try.results22, go_sem]) rfl ⟨rfl, ?_⟩
  exact ((Below.refl _ _).alloc (Nat.le_refl _) _).alloc (by simp) _

theorem sum_any (v : Value) (ns : List Int) (w : World) (h : Wides w v ns) (hr : Nums ns) :
    Calls Try.prog 22 #[v] w fun e w' => e = .returned (.tuple #[.agg #[.int .u64 (l0 (sumN ns)), .int .u64 (l1 (sumN ns)), .int .u64 (l2 (sumN ns)), .int .u64 (l3 (sumN ns))], .int .i64 (sumF ns)]) ∧ Below w.heap.size w w' := by
  have h' := h
  obtain ⟨a, len, cap, rfl, hl, hm, h0⟩ := h
  by_cases hz : len = 0
  · subst hz
    obtain rfl := List.eq_nil_of_length_eq_zero hl
    exact wsum_nil a cap w
  · rcases h0 with h0 | ⟨b, off, rfl, _, _⟩
    · exact absurd h0 hz
    · exact sum_row b off len cap ns w h' hr (by omega)

end Go.Proofs.Ytjofmejdabdhcaa
