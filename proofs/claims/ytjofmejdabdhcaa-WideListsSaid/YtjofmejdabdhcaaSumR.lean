/- Contract of the reference's SumWide over any slice of numbers. -/
import Derived.Test.YtjofmejdabdhcaaSum
import Derived.Test.YtjofmejdabdhcaaRef1
import Derived.Deep.RegionHeld3
set_option linter.unusedVariables false
namespace Go.Proofs.Ytjofmejdabdhcaa
open Go.RowKit

theorem blk_drew {w : World} {b : Nat} {cs : Array Value} (h : Blk w b cs) : Blk w.drew b cs := h

/-- What a region that draws its order keeps, step by step. -/
theorem keep_drew (w : World) : Below w.heap.size w w.drew := ⟨rfl, rfl, rfl, Nat.le_refl _, fun _ _ => rfl⟩
theorem keep_alloc {w u : World} (h : Below w.heap.size w u) (o : Obj) : Below w.heap.size w (u.alloc o) := h.alloc h.size o
theorem keep_call {w u v : World} (h : Below w.heap.size w u) (hb : Below u.heap.size u v) : Below w.heap.size w v := bel0 h hb
theorem keep_realloc {w u : World} {o o' : Obj} (h : Below w.heap.size w (u.alloc o)) (hs : w.heap.size ≤ u.heap.size) : Below w.heap.size w (u.alloc o') :=
  ⟨h.os, h.tape, h.output, by simp; omega, fun k hk => by rw [Below.heap_alloc _ _ _ (by omega), ← Below.heap_alloc u o _ (by omega)]; exact h.block k hk⟩

set_option maxHeartbeats 4000000 in
theorem rsum_row (b off len cap : Nat) (ns : List Int) (w : World) (h : Wides w (.slice (some ⟨b, off, none⟩) len cap) ns) (hr : Nums ns) (hpos : 0 < len) :
    Calls Try.prog 23 #[.slice (some ⟨b, off, none⟩) len cap] w fun e w' => e = .returned (.tuple #[.agg #[.int .u64 (l0 (sumN ns)), .int .u64 (l1 (sumN ns)), .int .u64 (l2 (sumN ns)), .int .u64 (l3 (sumN ns))], .int .i64 (sumF ns)]) ∧ Below w.heap.size w w' := by
  have hmx : len ≤ 9223372036854775807 := by
    obtain ⟨a', l', c', e, _, hm, _⟩ := h; cases e; unfold maxLen at hm; omega
  have hnl : ns.length = len := by
    obtain ⟨a', l', c', e, hl, _, _⟩ := h; cases e; exact hl
  have HN := Lib.hid hnl; clear hnl
  go_enter Try.func23, Try.ntmps23
  go_wp2_with fail
  go_loopw [5] (fun i wr => SumI w (.slice (some ⟨b, off, none⟩) len cap) ns i wr) (fun i _ => len - (intOf i).toNat)
  case atStart =>
    refine ⟨0, Nat.zero_le _, rfl, by simp, ?_, by simp, (Blk.new rfl).alloc _, ?_⟩
    · exact ((Below.refl _ _).alloc (Nat.le_refl _) _).alloc (by simp) _
    · have e : (ns.take 0).sum = 0 := by simp
      rw [e, limbs_zero.1, limbs_zero.2.1, limbs_zero.2.2.1, limbs_zero.2.2.2]; exact Blk.new (by simp)
  case round =>
    obtain ⟨k, hk, rfl, hs, hb, hsz, bR, bT⟩ := hrel
    rw [HN.out] at hk
    obtain ⟨s, HSk⟩ : ∃ s, Hid (s = (ns.take k).sum) := ⟨_, rfl⟩
    rw [← HSk.out] at hs bT
    have hs0 : 0 ≤ s := by rw [HSk.out]; exact sum_nonneg (fun x hx => (hr x (List.mem_of_mem_take hx)).1)
    have hsW : W256 s := ⟨hs0, hs⟩
    have hT := bT.lt
    obtain ⟨t0, t1, t2, t3, t4⟩ := bT.four
    obtain ⟨z0, z1, z2, z3, z4⟩ := bR.four
    by_cases hlt : k < len
    · have hI := h.below hb
      obtain ⟨a', l', c', e, _, _, hc⟩ := hI
      cases e
      rcases hc with h0 | ⟨b', off', e, hblt, hc⟩
      · omega
      cases e
      obtain ⟨x, HX⟩ : ∃ x, Hid (x = ns.getD k 0) := ⟨_, rfl⟩
      obtain ⟨g0, g1, g2, g3⟩ := hc k hlt
      rw [← HX.out] at g0 g1 g2 g3
      have hxW := hr.at (k := k) (by rw [HN.out]; exact hlt)
      rw [← HX.out] at hxW
      have HT : Hid ((ns.take (k + 1)).sum = s + x) := by rw [HX.out, HSk.out]; exact take_sum (xs := ns) (k := k) (by rw [HN.out]; exact hlt)
      clear hc h
      have D := radd_any s x hsW hxW
      obtain ⟨y, hy⟩ : ∃ y, addN s x = y := ⟨_, rfl⟩
      obtain ⟨ey, hey⟩ : ∃ y, addF s x = y := ⟨_, rfl⟩
      rw [hy, hey] at D
      have D := Lib.hid D
      have MK : Hid (∀ u, Below wr.heap.size wr u → Below wr.heap.size wr u ∧ (u.cell? ⟨w.heap.size + 1, 0, none⟩ = some (.int .u64 (l0 s)) ∧ u.cell? ⟨w.heap.size + 1, 1, none⟩ = some (.int .u64 (l1 s)) ∧ u.cell? ⟨w.heap.size + 1, 2, none⟩ = some (.int .u64 (l2 s)) ∧ u.cell? ⟨w.heap.size + 1, 3, none⟩ = some (.int .u64 (l3 s))) ∧
          (u.cell? ⟨b, off + k * 4, none⟩ = some (.int .u64 (l0 x)) ∧ u.cell? ⟨b, off + k * 4 + 1, none⟩ = some (.int .u64 (l1 x)) ∧ u.cell? ⟨b, off + k * 4 + 2, none⟩ = some (.int .u64 (l2 x)) ∧ u.cell? ⟨b, off + k * 4 + 3, none⟩ = some (.int .u64 (l3 x)))) := fun u hu => by
        refine ⟨hu, ⟨?_, ?_, ?_, ?_⟩, ?_, ?_, ?_, ?_⟩ <;> first | (rw [hu.cell (by exact hT)]; assumption) | (rw [hu.cell (by exact hblt)]; assumption)
      have HY := Lib.hid hy; clear hy
      have HEY := Lib.hid hey; clear hey
      have HB := Lib.hid hb; clear hb
      have BR := Lib.hid bR; clear bR
      have BT := Lib.hid bT; clear bT
      go_wp2_with fail
      go_region_held3 (fun u => Below wr.heap.size wr u ∧ (u.cell? ⟨w.heap.size + 1, 0, none⟩ = some (.int .u64 (l0 s)) ∧ u.cell? ⟨w.heap.size + 1, 1, none⟩ = some (.int .u64 (l1 s)) ∧ u.cell? ⟨w.heap.size + 1, 2, none⟩ = some (.int .u64 (l2 s)) ∧ u.cell? ⟨w.heap.size + 1, 3, none⟩ = some (.int .u64 (l3 s))) ∧
          (u.cell? ⟨b, off + k * 4, none⟩ = some (.int .u64 (l0 x)) ∧ u.cell? ⟨b, off + k * 4 + 1, none⟩ = some (.int .u64 (l1 x)) ∧ u.cell? ⟨b, off + k * 4 + 2, none⟩ = some (.int .u64 (l2 x)) ∧ u.cell? ⟨b, off + k * 4 + 3, none⟩ = some (.int .u64 (l3 x))))
        (first | exact MK.out _ (keep_drew _) | exact MK.out _ (keep_alloc (And.left (by assumption)) _) | exact MK.out _ (keep_call (And.left (by assumption)) (by assumption)) | exact MK.out _ (keep_realloc (And.left (by assumption)) (by omega)) | exact MK.out _ (below_store4 (And.left (by assumption)) (by omega)))
        (first
          | (go_at_call 11; refine (D.out _).mono ?_; rintro e u2 ⟨rfl, hb4⟩; have q4 : wr.heap.size ≤ u2.heap.size := (by have := hb4.size; first | omega | (simp at this; omega) | (simp [World.drew] at this; omega)); have hu2 : Below wr.heap.size wr u2 := (by first | exact keep_call (keep_drew _) hb4 | exact keep_call ((keep_alloc (Below.refl _ _) _).drew) hb4); first | (have bT2 := Blk.call hb4 (blk_drew (Blk.new (n := wr.heap.size) rfl)); obtain ⟨r0, r1, r2, r3, r4⟩ := bT2.four) | skip))
      all_goals
        rename_i hF
        obtain ⟨t0, t1, t2, t3, t4⟩ := (BT.out.call hu2).four
        obtain ⟨z0, z1, z2, z3, z4⟩ := (BR.out.call hu2).four
        clear hF
        have hT2 := (BT.out.call hu2).lt
        by_cases hov : s + x < 115792089237316195423570985008687907853269984665640564039457584007913129639936
        · have e1 : y = s + x := by rw [← HY.out]; unfold addN; rw [if_pos hov]
          have e2 : ey = 0 := by rw [← HEY.out]; unfold addF; rw [if_pos hov]
          subst e2
          have E1 := Lib.hid e1; clear e1
          have HO := Lib.hid hov; clear hov
          go_wp2_with fail
          go_roundw
          case rel =>
            have hb2 := bel0 HB.out hu2
            refine ⟨k + 1, by rw [HN.out]; omega, by go_num, by rw [HT.out]; exact HO.out, ?_, ?_, ?_, ?_⟩
            · first | with_reducible exact (below_store4 hb2 (by omega)).alloc (below_store4 hb2 (by omega)).size _ | with_reducible exact below_store4 (below_store4 hb2 (by omega)) (by omega)
            · first | (rw [World.size_alloc, size_store4]; omega) | (rw [size_store4, size_store4]; omega)
            · first | with_reducible exact ((BR.out.call hu2).store4_other (by omega)).alloc _ | with_reducible exact ((BR.out.call hu2).store4_other (by omega)).store4_other (by omega)
            · rw [HT.out, ← E1.out]; first | with_reducible exact ((BT.out.call hu2).store4).alloc _ | with_reducible exact ((BT.out.call hu2).store4_other (by omega)).store4
          case measure => simp [intOf]; omega
        · have e2 : ey = 4 := by rw [← HEY.out]; unfold addF; rw [if_neg hov]
          subst e2
          have hbig : ¬ ns.sum < 115792089237316195423570985008687907853269984665640564039457584007913129639936 := by
            have h1 := take_sum_le (xs := ns) (fun y hy => (hr y hy).1) (k + 1)
            rw [HT.out] at h1
            omega
          have E1 := Lib.hid (show sumN ns = 0 from if_neg hbig)
          have E2 := Lib.hid (show sumF ns = 4 from if_neg hbig)
          clear hbig hov
          have hR2 := (BR.out.call hu2).lt
          go_wp2_with fail
          have hb2 := bel0 HB.out hu2
          refine bodyPost_ret (res_cell_tmp rfl rfl rfl (by first | with_reducible exact (BR.out.call hu2).store4.alloc _ | with_reducible exact ((BR.out.call hu2).store4_other (by omega)).store4) Try.underlying24 rfl (by kernel_rfl)) rfl ⟨by rw [E1.out, E2.out, limbs_zero.1, limbs_zero.2.1, limbs_zero.2.2.1, limbs_zero.2.2.2]; rfl, ?_⟩
          first | with_reducible exact (below_store4 hb2 (by omega)).alloc (below_store4 hb2 (by omega)).size _ | with_reducible exact below_store4 (below_store4 hb2 (by omega)) (by omega)
    · have hs' : s = ns.sum := by rw [HSk.out, List.take_of_length_le (by rw [HN.out]; omega)]
      have E1 := Lib.hid (show sumN ns = s by unfold sumN; rw [← hs', if_pos hs])
      have E2 := Lib.hid (show sumF ns = 0 by unfold sumF; rw [← hs', if_pos hs])
      clear hs'
      go_wp2_with fail
      refine bodyPost_ret (res_cell_tmp rfl rfl rfl bR.store4 Try.underlying24 rfl (by kernel_rfl)) rfl ⟨by rw [E1.out, E2.out]; rfl, ?_⟩
      exact below_store4 hb (by omega)

set_option maxHeartbeats 1000000 in
theorem rsumW_nil (a : Option Addr) (cap : Nat) (w : World) :
    Calls Try.prog 23 #[.slice a 0 cap] w fun e w' => e = .returned (.tuple #[.agg #[.int .u64 (l0 (0)), .int .u64 (l1 (0)), .int .u64 (l2 (0)), .int .u64 (l3 (0))], .int .i64 0]) ∧ Below w.heap.size w w' := by
  rw [limbs_zero.1, limbs_zero.2.1, limbs_zero.2.2.1, limbs_zero.2.2.2]
  go_enter Try.func23, Try.ntmps23
  go_wp2_with fail
  refine wp_loop_rounds 1 ?_
  rw [rounds_succ]
  go_wp2_with fail
  refine bodyPost_ret (v := .tuple #[.agg #[.int .u64 0, .int .u64 0, .int .u64 0, .int .u64 0], .int .i64 0]) (by simp [results, Try.results23, go_sem]) rfl ⟨rfl, ?_⟩
  exact ((Below.refl _ _).alloc (Nat.le_refl _) _).alloc (by simp) _

theorem rsumW_any (v : Value) (ns : List Int) (w : World) (h : Wides w v ns) (hr : Nums ns) :
    Calls Try.prog 23 #[v] w fun e w' => e = .returned (.tuple #[.agg #[.int .u64 (l0 (sumN ns)), .int .u64 (l1 (sumN ns)), .int .u64 (l2 (sumN ns)), .int .u64 (l3 (sumN ns))], .int .i64 (sumF ns)]) ∧ Below w.heap.size w w' := by
  have h' := h
  obtain ⟨a, len, cap, rfl, hl, hm, h0⟩ := h
  by_cases hz : len = 0
  · subst hz
    obtain rfl := List.eq_nil_of_length_eq_zero hl
    exact rsumW_nil a cap w
  · rcases h0 with h0 | ⟨b, off, rfl, _, _⟩
    · exact absurd h0 hz
    · exact rsum_row b off len cap ns w h' hr (by omega)

end Go.Proofs.Ytjofmejdabdhcaa
