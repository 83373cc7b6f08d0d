/- What Parse answers, as plain functions (the walk is still to come: wip/parse_yes.draft.txt). -/
import Derived.Test.YtgleleccmpncnaaNot
import Derived.Test.YtgleleccmpncnaaWide2
import Derived.Test.YtgleleccmpncnaaEq
import Derived.Deep.RegionHeld3
set_option linter.unusedVariables false
namespace Go.Proofs.Ytgleleccmpncnaa
open Go.RowKit

/-- The number that the first k digits denote. -/
def valN (s : ByteArray) : Nat → Int
  | 0 => 0
  | k + 1 => valN s k * 10 + (sB s k - 48)

theorem valN_mono {s : ByteArray} (h : ∀ j, j < s.size → isDig (sB s j) = true) : ∀ (k : Nat), k ≤ s.size → 0 ≤ valN s k ∧ ∀ j, j ≤ k → valN s j ≤ valN s k
  | 0, _ => ⟨by simp [valN], fun j hj => by
    have e : j = 0 := Nat.le_zero.1 hj
    rw [e]; exact Int.le_refl _⟩
  | k + 1, hk => by
    obtain ⟨h0, h1⟩ := valN_mono h k (by omega)
    have hd := h k (by omega)
    unfold isDig at hd
    simp at hd
    have e : valN s (k + 1) = valN s k * 10 + (sB s k - 48) := rfl
    refine ⟨by rw [e]; omega, fun j hj => ?_⟩
    by_cases hjk : j = k + 1
    · subst hjk; exact Int.le_refl _
    · have := h1 j (by omega)
      rw [e]; omega

def parseV (s : ByteArray) : Int := if notB s = true then (if valN s s.size < 115792089237316195423570985008687907853269984665640564039457584007913129639936 then valN s s.size else 0) else 0
def parseE (s : ByteArray) : Int := if notB s = true then (if valN s s.size < 115792089237316195423570985008687907853269984665640564039457584007913129639936 then 0 else 4) else 1

theorem notB_digs {s : ByteArray} (h : notB s = true) : 1 ≤ s.size ∧ s.size ≤ 80 ∧ ∀ j, j < s.size → isDig (sB s j) = true := by
  unfold notB digs at h
  simp at h
  obtain ⟨⟨⟨h1, h2⟩, h3⟩, _⟩ := h
  exact ⟨h1, h2, h3⟩

def ParI (w : World) (bT : Nat) (s : ByteArray) (i : Value) (wr : World) : Prop :=
  ∃ (k : Nat), k ≤ s.size ∧ i = .int .i64 k ∧ valN s k < 115792089237316195423570985008687907853269984665640564039457584007913129639936 ∧ Below w.heap.size w wr ∧ w.heap.size < bT ∧ Blk wr w.heap.size #[.int .u64 0, .int .u64 0, .int .u64 0, .int .u64 0] ∧ Blk wr bT #[.int .u64 (l0 (valN s k)), .int .u64 (l1 (valN s k)), .int .u64 (l2 (valN s k)), .int .u64 (l3 (valN s k))]

theorem keep_drew' (w : World) : Below w.heap.size w w.drew := ⟨rfl, rfl, rfl, Nat.le_refl _, fun _ _ => rfl⟩
theorem keep_realloc' {w u : World} {o o' : Obj} (h : Below w.heap.size w (u.alloc o)) (hs : w.heap.size ≤ u.heap.size) : Below w.heap.size w (u.alloc o') :=
  ⟨h.os, h.tape, h.output, by simp; omega, fun k hk => by rw [Below.heap_alloc _ _ _ (by omega), ← Below.heap_alloc u o _ (by omega)]; exact h.block k hk⟩
theorem keep_alloc' {w u : World} (h : Below w.heap.size w u) (o : Obj) : Below w.heap.size w (u.alloc o) := h.alloc h.size o
theorem keep_call' {w u v : World} (h : Below w.heap.size w u) (hb : Below u.heap.size u v) : Below w.heap.size w v := bel0 h hb
theorem blk_drew2 {w : World} {b : Nat} {cs : Array Value} (h : Blk w b cs) : Blk w.drew b cs := h

set_option maxHeartbeats 4000000 in
theorem parse_yes (s : ByteArray) (w : World) (hs : s.size ≤ maxLen) (hn : notB s = true) :
    Calls Try.prog 12 #[.string s] w fun e w' => e = .returned (.tuple #[.agg #[.int .u64 (l0 (parseV s)), .int .u64 (l1 (parseV s)), .int .u64 (l2 (parseV s)), .int .u64 (l3 (parseV s))], .int .i64 (parseE s)]) ∧ Below w.heap.size w w' := by
  obtain ⟨h1, h80, hdig⟩ := notB_digs hn
  have HD := Lib.hid hdig; clear hdig
  have D0 := not_any s
  rw [hn] at D0
  have D0 := Lib.hid (fun w => D0 w hs)
  have HN := Lib.hid hn; clear hn
  have hs80 : (s.size : Int) ≤ 80 := by omega
  go_enter Try.func12, Try.ntmps12
  go_wp2_with (go_at_call 35; refine (D0.out _).mono ?_; rintro e w1 ⟨rfl, rfl⟩)
  go_loopw [15] (fun i wr => ParI w (w.heap.size + 1) s i wr) (fun i _ => s.size - (intOf i).toNat)
  case atStart =>
    refine ⟨0, by omega, rfl, by simp [valN], ((Below.refl _ _).alloc (Nat.le_refl _) _).alloc (by simp) _, by omega, (Blk.new rfl).alloc _, ?_⟩
    have e : valN s 0 = 0 := rfl
    rw [e, limbs_zero.1, limbs_zero.2.1, limbs_zero.2.2.1, limbs_zero.2.2.2]; exact Blk.new (by simp)
  case round =>
    obtain ⟨k, hk, rfl, hv, hb, hbT, bR, bT⟩ := hrel
    have hT := bT.lt
    obtain ⟨x, HX⟩ : ∃ x, Hid (x = valN s k) := ⟨_, rfl⟩
    rw [← HX.out] at hv bT
    have hx0 : 0 ≤ x := by rw [HX.out]; exact (valN_mono HD.out k hk).1
    have hxW : W256 x := ⟨hx0, hv⟩
    obtain ⟨t0, t1, t2, t3, t4⟩ := bT.four
    obtain ⟨z0, z1, z2, z3, z4⟩ := bR.four
    by_cases hlt : k < s.size
    · obtain ⟨c, HC⟩ : ∃ c, Hid (c = sB s k) := ⟨_, rfl⟩
      have hcell : ((s[k]'hlt).toNat : Int) = c := by rw [HC.out, sB_at hlt]
      have hdg := HD.out k hlt
      rw [← HC.out] at hdg
      unfold isDig at hdg
      simp at hdg
      obtain ⟨d1, d2⟩ := hdg
      obtain ⟨d, hd⟩ : ∃ d, c - 48 = d := ⟨_, rfl⟩
      have hwd : IntKind.u8.wrap d = d := by simp only [IntKind.wrap, IntKind.signed, IntKind.bits]; simp; omega
      have hd0 : 0 ≤ d := by omega
      have hd9 : d ≤ 9 := by omega
      have hwd2 : IntKind.u64.wrap d = d := u64_wrap hd0 (by omega)
      have HV : Hid (valN s (k + 1) = x * 10 + d) := by rw [HX.out, ← hd, HC.out]; rfl
      have D := mad_any x 10 d hxW (by omega) (by omega) hd0 (by omega)
      obtain ⟨y, hy⟩ : ∃ y, madN x 10 d = y := ⟨_, rfl⟩
      obtain ⟨ey, hey⟩ : ∃ y, madF x 10 d = y := ⟨_, rfl⟩
      rw [hy, hey] at D
      have D := Lib.hid D
      have HY := Lib.hid hy; clear hy
      have HEY := Lib.hid hey; clear hey
      obtain ⟨bTn, hbTn⟩ : ∃ b, w.heap.size + 1 = b := ⟨_, rfl⟩
      have MK : Hid (∀ u, Below wr.heap.size wr u → (fun u => Below wr.heap.size wr u ∧ (u.cell? ⟨(w.heap.size + 1), 0, none⟩ = some (.int .u64 (l0 x)) ∧ u.cell? ⟨(w.heap.size + 1), 1, none⟩ = some (.int .u64 (l1 x)) ∧ u.cell? ⟨(w.heap.size + 1), 2, none⟩ = some (.int .u64 (l2 x)) ∧ u.cell? ⟨(w.heap.size + 1), 3, none⟩ = some (.int .u64 (l3 x)))) u) := fun u hu => by
        refine ⟨hu, ?_, ?_, ?_, ?_⟩ <;> (rw [hu.cell (by exact hT)]; assumption)
      have HB := Lib.hid hb; clear hb
      have BR := Lib.hid bR; clear bR
      have BT := Lib.hid bT; clear bT
      have hk0 : (0 : Int) ≤ (k : Int) := by omega
      have hk2 : (k : Int) < (s.size : Int) := by omega
      clear hbTn
      go_wp2_with fail
      go_region_held3 (fun u => Below wr.heap.size wr u ∧ (u.cell? ⟨w.heap.size + 1, 0, none⟩ = some (.int .u64 (l0 x)) ∧ u.cell? ⟨w.heap.size + 1, 1, none⟩ = some (.int .u64 (l1 x)) ∧ u.cell? ⟨w.heap.size + 1, 2, none⟩ = some (.int .u64 (l2 x)) ∧ u.cell? ⟨w.heap.size + 1, 3, none⟩ = some (.int .u64 (l3 x))))
        (first | assumption | exact MK.out _ (keep_drew' _) | exact MK.out _ (keep_alloc' (And.left (by assumption)) _) | exact MK.out _ (keep_call' (And.left (by assumption)) (by assumption)) | exact MK.out _ (keep_realloc' (And.left (by assumption)) (by omega)) | exact MK.out _ (below_store4 (And.left (by assumption)) (by omega)))
        (first
          | (go_at_call 36; refine (D.out _).mono ?_; rintro e u2 ⟨rfl, hb4⟩; have q4 : wr.heap.size ≤ u2.heap.size := (by have := hb4.size; first | omega | (simp at this; omega) | (simp [World.drew] at this; omega)); have hu2 : Below wr.heap.size wr u2 := (by first | exact bel0 (keep_drew' _) hb4 | exact bel0 (((Below.refl _ _).alloc (Nat.le_refl _) _).drew) hb4); first | (have bT2 := Blk.call hb4 (blk_drew2 (Blk.new (n := wr.heap.size) rfl)); obtain ⟨r0, r1, r2, r3, r4⟩ := bT2.four) | skip))
      all_goals
        rename_i hF
        clear hF
        obtain ⟨t0, t1, t2, t3, t4⟩ := (BT.out.call hu2).four
        obtain ⟨z0, z1, z2, z3, z4⟩ := (BR.out.call hu2).four
        have hT2 := (BT.out.call hu2).lt
        by_cases hov : x * 10 + d < 115792089237316195423570985008687907853269984665640564039457584007913129639936
        · have e1 : y = x * 10 + d := by rw [← HY.out]; unfold madN; rw [if_pos hov]
          have e2 : ey = 0 := by rw [← HEY.out]; unfold madF; rw [if_pos hov]
          subst e2
          have E1 := Lib.hid e1; clear e1
          have HO := Lib.hid hov; clear hov
          go_wp2_with fail
          go_roundw
          case rel =>
            have hb2 := bel0 HB.out hu2
            refine ⟨k + 1, by omega, by go_num, by rw [HV.out]; exact HO.out, ?_, hbT, ?_, ?_⟩
            · first | with_reducible exact (below_store4 hb2 (by omega)).alloc (below_store4 hb2 (by omega)).size _ | with_reducible exact below_store4 (below_store4 hb2 (by omega)) (by omega)
            · first | with_reducible exact ((BR.out.call hu2).store4_other (by omega)).alloc _ | with_reducible exact ((BR.out.call hu2).store4_other (by omega)).store4_other (by omega)
            · rw [HV.out, ← E1.out]; first | with_reducible exact ((BT.out.call hu2).store4).alloc _ | with_reducible exact ((BT.out.call hu2).store4_other (by omega)).store4
          case measure => simp [intOf]; omega
        · have e2 : ey = 4 := by rw [← HEY.out]; unfold madF; rw [if_neg hov]
          subst e2
          have hbig : ¬ valN s s.size < 115792089237316195423570985008687907853269984665640564039457584007913129639936 := by
            have h1 := (valN_mono HD.out s.size (Nat.le_refl _)).2 (k + 1) (by omega)
            rw [HV.out] at h1
            omega
          have E1 := Lib.hid (show parseV s = 0 by unfold parseV; rw [if_pos HN.out, if_neg hbig])
          have E2 := Lib.hid (show parseE s = 4 by unfold parseE; rw [if_pos HN.out, if_neg hbig])
          clear hbig hov
          have hR2 := (BR.out.call hu2).lt
          go_wp2_with fail
          have hb2 := bel0 HB.out hu2
          refine bodyPost_ret (res_cell_tmp rfl rfl rfl (by first | with_reducible exact (BR.out.call hu2).store4.alloc _ | with_reducible exact ((BR.out.call hu2).store4_other (by omega)).store4) Try.underlying24 rfl (by kernel_rfl)) rfl ⟨by rw [E1.out, E2.out, limbs_zero.1, limbs_zero.2.1, limbs_zero.2.2.1, limbs_zero.2.2.2]; rfl, ?_⟩
          first | with_reducible exact (below_store4 hb2 (by omega)).alloc (below_store4 hb2 (by omega)).size _ | with_reducible exact below_store4 (below_store4 hb2 (by omega)) (by omega)
    · have hke : k = s.size := by omega
      have E1 := Lib.hid (show parseV s = x by unfold parseV; rw [if_pos HN.out, ← hke, ← HX.out, if_pos hv])
      have E2 := Lib.hid (show parseE s = 0 by unfold parseE; rw [if_pos HN.out, ← hke, ← HX.out, if_pos hv])
      clear hke
      go_wp2_with fail
      refine bodyPost_ret (res_cell_tmp rfl rfl rfl bR.store4 Try.underlying24 rfl (by kernel_rfl)) rfl ⟨by rw [E1.out, E2.out]; rfl, ?_⟩
      exact below_store4 hb (by omega)

end Go.Proofs.Ytgleleccmpncnaa
