/- Contracts of wide.Parse and of the reference's ParseWide and FormatWide. -/
import Derived.Test.YtgleleccmpncnaaDec
import Derived.Test.YtgleleccmpncnaaRef3
import Derived.Test.YtgleleccmpncnaaRef7
import Derived.Deep.LoopGhost
set_option linter.unusedVariables false
namespace Go.Proofs.Ytgleleccmpncnaa
open Go.RowKit

theorem parseV_no {s : ByteArray} (h : notB s = false) : parseV s = 0 ∧ parseE s = 1 := by
  unfold parseV parseE
  rw [h]
  exact ⟨rfl, rfl⟩

set_option maxHeartbeats 1000000 in
theorem parse_no (s : ByteArray) (w : World) (hs : s.size ≤ maxLen) (hn : notB s = false) :
    Calls Try.prog 12 #[.string s] w fun e w' => e = .returned (.tuple #[.agg #[.int .u64 (l0 (parseV s)), .int .u64 (l1 (parseV s)), .int .u64 (l2 (parseV s)), .int .u64 (l3 (parseV s))], .int .i64 (parseE s)]) ∧ Below w.heap.size w w' := by
  obtain ⟨e1, e2⟩ := parseV_no hn
  rw [e1, e2, limbs_zero.1, limbs_zero.2.1, limbs_zero.2.2.1, limbs_zero.2.2.2]
  have D0 := not_any s
  rw [hn] at D0
  have D0 := Lib.hid (fun w => D0 w hs)
  clear e1 e2 hn
  go_enter Try.func12, Try.ntmps12
  go_wp2_with (go_at_call 35; refine (D0.out _).mono ?_; rintro e w1 ⟨rfl, rfl⟩)
  refine bodyPost_ret (v := .tuple #[.agg #[.int .u64 0, .int .u64 0, .int .u64 0, .int .u64 0], .int .i64 1]) (by simp [results, Try.results12, go_sem]) rfl ⟨rfl, ?_⟩
  exact (Below.refl _ _).alloc (Nat.le_refl _) _

theorem parse_any (s : ByteArray) (w : World) (hs : s.size ≤ maxLen) :
    Calls Try.prog 12 #[.string s] w fun e w' => e = .returned (.tuple #[.agg #[.int .u64 (l0 (parseV s)), .int .u64 (l1 (parseV s)), .int .u64 (l2 (parseV s)), .int .u64 (l3 (parseV s))], .int .i64 (parseE s)]) ∧ Below w.heap.size w w' := by
  by_cases h : notB s = true
  · exact parse_yes s w hs h
  · exact parse_no s w hs (by simpa using h)

set_option maxHeartbeats 1000000 in
theorem rparse_bad0 (w : World) :
    Calls Try.prog 13 #[.string ByteArray.empty] w fun e w' => e = .returned (.tuple #[.agg #[.int .u64 0, .int .u64 0, .int .u64 0, .int .u64 0], .int .i64 1]) ∧ Below w.heap.size w w' := by
  go_enter Try.func13, Try.ntmps13
  go_wp2_with fail
  refine bodyPost_ret (v := .tuple #[.agg #[.int .u64 0, .int .u64 0, .int .u64 0, .int .u64 0], .int .i64 1]) (by simp [results, Try.results13, go_sem]) rfl ⟨rfl, ?_⟩
  exact (Below.refl _ _).alloc (Nat.le_refl _) _

set_option maxHeartbeats 1000000 in
theorem rparse_bad1 (s : ByteArray) (w : World) (hs : s.size ≤ maxLen) (h : 80 < s.size) :
    Calls Try.prog 13 #[.string s] w fun e w' => e = .returned (.tuple #[.agg #[.int .u64 0, .int .u64 0, .int .u64 0, .int .u64 0], .int .i64 1]) ∧ Below w.heap.size w w' := by
  have hsm : (s.size : Int) ≤ 9223372036854775807 := by unfold maxLen at hs; omega
  have h1 : ¬ (s.size : Int) < 1 := by omega
  have h2 : (80 : Int) < (s.size : Int) := by omega
  go_enter Try.func13, Try.ntmps13
  go_wp2_with fail
  refine bodyPost_ret (v := .tuple #[.agg #[.int .u64 0, .int .u64 0, .int .u64 0, .int .u64 0], .int .i64 1]) (by simp [results, Try.results13, go_sem]) rfl ⟨rfl, ?_⟩
  exact (Below.refl _ _).alloc (Nat.le_refl _) _

set_option maxHeartbeats 1000000 in
theorem rparse_bad2 (s : ByteArray) (w : World) (hs : s.size ≤ maxLen) (h80 : s.size ≤ 80) (h : 1 < s.size) (h0 : sB s 0 = 48) :
    Calls Try.prog 13 #[.string s] w fun e w' => e = .returned (.tuple #[.agg #[.int .u64 0, .int .u64 0, .int .u64 0, .int .u64 0], .int .i64 1]) ∧ Below w.heap.size w w' := by
  have hsm : (s.size : Int) ≤ 80 := by omega
  have h1 : ¬ (s.size : Int) < 1 := by omega
  have h2 : ¬ (80 : Int) < (s.size : Int) := by omega
  have h3 : (1 : Int) < (s.size : Int) := by omega
  have hcell : ((s[0]'(by omega)).toNat : Int) = 48 := by rw [sB_at (by omega), h0]
  go_enter Try.func13, Try.ntmps13
  go_wp2_with fail
  refine bodyPost_ret (v := .tuple #[.agg #[.int .u64 0, .int .u64 0, .int .u64 0, .int .u64 0], .int .i64 1]) (by simp [results, Try.results13, go_sem]) rfl ⟨rfl, ?_⟩
  exact (Below.refl _ _).alloc (Nat.le_refl _) _

/-- What the two ways into the digits' loop share: no leading zero, or one byte. -/
def NoLead (s : ByteArray) : Prop := s.size = 1 ∨ sB s 0 ≠ 48

set_option maxHeartbeats 8000000 in
theorem rparse_main (s : ByteArray) (w : World) (hs : s.size ≤ maxLen) (h1 : 1 ≤ s.size) (h80 : s.size ≤ 80) (hn : NoLead s) (c0 : Int) (hc0 : ((s[0]'(by omega)).toNat : Int) = c0) (hor : s.size = 1 ∨ (1 < s.size ∧ c0 ≠ 48)) :
    Calls Try.prog 13 #[.string s] w fun e w' => e = .returned (.tuple #[.agg #[.int .u64 (l0 (parseV s)), .int .u64 (l1 (parseV s)), .int .u64 (l2 (parseV s)), .int .u64 (l3 (parseV s))], .int .i64 (parseE s)]) ∧ Below w.heap.size w w' := by
  have hsm : (s.size : Int) ≤ 80 := by omega
  have g1 : ¬ (s.size : Int) < 1 := by omega
  have g2 : ¬ (80 : Int) < (s.size : Int) := by omega
  have hs80 : (s.size : Int) ≤ 80 := by omega
  have e0 : notB s = digs s := by
    unfold notB
    have : (sB s 0 != 48 || s.size == 1) = true := by
      rcases hn with h | h
      · simp [h]
      · simp [h]
    rw [this]; simp [h1, h80]
  have E0 := Lib.hid e0; clear e0
  clear hn
  rcases hor with hor | ⟨hor, hc48⟩
  case' inl => have g3 : ¬ (1 : Int) < (s.size : Int) := by omega
               have H1 := Lib.hid hor; clear hor hc0
  case' inr => have g3 : (1 : Int) < (s.size : Int) := by omega
  all_goals
    go_enter Try.func13, Try.ntmps13
    go_wp2_with fail
    go_loop [4] (fun i => ∃ k : Nat, k ≤ s.size ∧ i = .int .i64 k ∧ ∀ j, j < k → isDig (sB s j) = true) (fun i => s.size - (intOf i).toNat)
    case atStart => exact ⟨0, by omega, rfl, fun j hj => absurd hj (Nat.not_lt_zero _)⟩
    case round =>
      obtain ⟨k, hk, rfl, hall⟩ := hrel
      have HALL := Lib.hid hall; clear hall
      by_cases hlt : k < s.size
      · obtain ⟨c, HC⟩ : ∃ c, Hid (c = sB s k) := ⟨_, rfl⟩
        have hcell : ((s[k]'hlt).toNat : Int) = c := by rw [HC.out, sB_at hlt]
        by_cases hd : isDig c = true
        · have hd' := hd
          unfold isDig at hd'
          simp at hd'
          obtain ⟨d1, d2⟩ := hd'
          have HD := Lib.hid hd; clear hd
          go_wp2_with fail
          refine ⟨⟨k + 1, by omega, by go_num, fun j hj => ?_⟩, by simp [intOf]; omega⟩
          by_cases hjk : j = k
          · subst hjk; rw [← HC.out]; exact HD.out
          · exact HALL.out j (by omega)
        · have hd0 : isDig c = false := by simpa using hd
          have hN : notB s = false := by rw [E0.out, digs_not hlt (by rw [← HC.out]; exact hd0)]
          have P := Lib.hid (parseV_no hN)
          have hd' := hd0
          unfold isDig at hd'
          have hor : c < 48 ∨ 57 < c := by simp at hd'; omega
          clear hd hd0 hd' hN
          rcases hor with h | h
          case' inr => have h' : ¬ c < 48 := by omega
          all_goals
            go_wp2_with fail
            refine bodyPost_ret (v := .tuple #[.agg #[.int .u64 0, .int .u64 0, .int .u64 0, .int .u64 0], .int .i64 1]) (by simp [results, Try.results13, go_sem]) rfl ⟨by rw [P.out.1, P.out.2, limbs_zero.1, limbs_zero.2.1, limbs_zero.2.2.1, limbs_zero.2.2.2], ?_⟩
            exact (Below.refl _ _).alloc (Nat.le_refl _) _
      · have hks : k = s.size := by omega
        have HD := Lib.hid (fun j (hj : j < s.size) => HALL.out j (by omega))
        have HN := Lib.hid (show notB s = true by rw [E0.out]; exact digs_all HD.out)
        clear hks
        go_wp2_with fail
        go_loopw [6] (fun i wr => ParI w (w.heap.size + 1) s i wr) (fun i _ => s.size - (intOf i).toNat)
        case atStart =>
          refine ⟨0, by omega, rfl, by simp [valN], ((Below.refl _ _).alloc (Nat.le_refl _) _).alloc (by simp) _, by omega, (Blk.new rfl).alloc _, ?_⟩
          have e : valN s 0 = 0 := rfl
          rw [e, limbs_zero.1, limbs_zero.2.1, limbs_zero.2.2.1, limbs_zero.2.2.2]; exact Blk.new (by simp)
        case round =>
          obtain ⟨m, hm, rfl, hv, hb, hbT, bR, bT⟩ := hrel
          have hT := bT.lt
          obtain ⟨x, HX⟩ : ∃ x, Hid (x = valN s m) := ⟨_, rfl⟩
          rw [← HX.out] at hv bT
          have hx0 : 0 ≤ x := by rw [HX.out]; exact (valN_mono HD.out m hm).1
          have hxW : W256 x := ⟨hx0, hv⟩
          obtain ⟨t0, t1, t2, t3, t4⟩ := bT.four
          obtain ⟨z0, z1, z2, z3, z4⟩ := bR.four
          by_cases hmlt : m < s.size
          · obtain ⟨c, HC⟩ : ∃ c, Hid (c = sB s m) := ⟨_, rfl⟩
            have hcell : ((s[m]'hmlt).toNat : Int) = c := by rw [HC.out, sB_at hmlt]
            have hdg := HD.out m hmlt
            rw [← HC.out] at hdg
            unfold isDig at hdg
            simp at hdg
            obtain ⟨d1, d2⟩ := hdg
            obtain ⟨d, hd⟩ : ∃ d, c - 48 = d := ⟨_, rfl⟩
            have hwd : IntKind.u8.wrap d = d := by simp only [IntKind.wrap, IntKind.signed, IntKind.bits]; simp; omega
            have hd0 : 0 ≤ d := by omega
            have hd9 : d ≤ 9 := by omega
            have hwd2 : IntKind.u64.wrap d = d := u64_wrap hd0 (by omega)
            have HV : Hid (valN s (m + 1) = x * 10 + d) := by rw [HX.out, ← hd, HC.out]; rfl
            have D := rmad_any x 10 d hxW (by omega) (by omega) hd0 (by omega)
            obtain ⟨y, hy⟩ : ∃ y, lowN x 10 d = y := ⟨_, rfl⟩
            obtain ⟨ey, hey⟩ : ∃ y, fitsB x 10 d = y := ⟨_, rfl⟩
            rw [hy, hey] at D
            have D := Lib.hid D
            have HY := Lib.hid hy; clear hy
            have HEY := Lib.hid hey; clear hey
            have MK : Hid (∀ u, Below wr.heap.size wr u → (fun u => Below wr.heap.size wr u ∧ (u.cell? ⟨(w.heap.size + 1), 0, none⟩ = some (.int .u64 (l0 x)) ∧ u.cell? ⟨(w.heap.size + 1), 1, none⟩ = some (.int .u64 (l1 x)) ∧ u.cell? ⟨(w.heap.size + 1), 2, none⟩ = some (.int .u64 (l2 x)) ∧ u.cell? ⟨(w.heap.size + 1), 3, none⟩ = some (.int .u64 (l3 x)))) u) := fun u hu => by
              refine ⟨hu, ?_, ?_, ?_, ?_⟩ <;> (rw [hu.cell (by exact hT)]; assumption)
            have HB := Lib.hid hb; clear hb
            have BR := Lib.hid bR; clear bR
            have BT := Lib.hid bT; clear bT
            have hk0 : (0 : Int) ≤ (m : Int) := by omega
            have hk2 : (m : Int) < (s.size : Int) := by omega
            go_wp2_with fail
            go_region_held3 (fun u => Below wr.heap.size wr u ∧ (u.cell? ⟨w.heap.size + 1, 0, none⟩ = some (.int .u64 (l0 x)) ∧ u.cell? ⟨w.heap.size + 1, 1, none⟩ = some (.int .u64 (l1 x)) ∧ u.cell? ⟨w.heap.size + 1, 2, none⟩ = some (.int .u64 (l2 x)) ∧ u.cell? ⟨w.heap.size + 1, 3, none⟩ = some (.int .u64 (l3 x))))
              (first | assumption | exact MK.out _ (keep_drew' _) | exact MK.out _ (keep_alloc' (And.left (by assumption)) _) | exact MK.out _ (keep_call' (And.left (by assumption)) (by assumption)) | exact MK.out _ (keep_realloc' (And.left (by assumption)) (by omega)) | exact MK.out _ (below_store4 (And.left (by assumption)) (by omega)))
              (first
                | (go_at_call 37; refine (D.out _).mono ?_; rintro e u2 ⟨rfl, hb4⟩; have q4 : wr.heap.size ≤ u2.heap.size := (by have := hb4.size; first | omega | (simp at this; omega) | (simp [World.drew] at this; omega)); have hu2 : Below wr.heap.size wr u2 := (by first | exact bel0 (keep_drew' _) hb4 | exact bel0 (((Below.refl _ _).alloc (Nat.le_refl _) _).drew) hb4); first | (have bT2 := Blk.call hb4 (blk_drew2 (Blk.new (n := wr.heap.size) rfl)); obtain ⟨r0, r1, r2, r3, r4⟩ := bT2.four) | skip))
            all_goals
              rename_i hF
              clear hF
              obtain ⟨t0, t1, t2, t3, t4⟩ := (BT.out.call hu2).four
              obtain ⟨z0, z1, z2, z3, z4⟩ := (BR.out.call hu2).four
              have hT2 := (BT.out.call hu2).lt
              by_cases hov : x * 10 + d < 115792089237316195423570985008687907853269984665640564039457584007913129639936
              · have e1 : y = x * 10 + d := by rw [← HY.out]; unfold lowN; rw [Int.emod_eq_of_lt (by omega) hov]
                have e2 : ey = true := by rw [← HEY.out]; unfold fitsB; simpa using hov
                subst e2
                have E1 := Lib.hid e1; clear e1
                have HO := Lib.hid hov; clear hov
                go_wp2_with fail
                go_roundw
                case rel =>
                  have hb2 := bel0 HB.out hu2
                  refine ⟨m + 1, by omega, by go_num, by rw [HV.out]; exact HO.out, ?_, hbT, ?_, ?_⟩
                  · first | with_reducible exact (below_store4 hb2 (by omega)).alloc (below_store4 hb2 (by omega)).size _ | with_reducible exact below_store4 (below_store4 hb2 (by omega)) (by omega)
                  · first | with_reducible exact ((BR.out.call hu2).store4_other (by omega)).alloc _ | with_reducible exact ((BR.out.call hu2).store4_other (by omega)).store4_other (by omega)
                  · rw [HV.out, ← E1.out]; first | with_reducible exact ((BT.out.call hu2).store4).alloc _ | with_reducible exact ((BT.out.call hu2).store4_other (by omega)).store4
                case measure => simp [intOf]; omega
              · have e2 : ey = false := by rw [← HEY.out]; unfold fitsB; simpa using hov
                subst e2
                have hbig : ¬ valN s s.size < 115792089237316195423570985008687907853269984665640564039457584007913129639936 := by
                  have h1 := (valN_mono HD.out s.size (Nat.le_refl _)).2 (m + 1) (by omega)
                  rw [HV.out] at h1
                  omega
                have E1 := Lib.hid (show parseV s = 0 by unfold parseV; rw [if_pos HN.out, if_neg hbig])
                have E2 := Lib.hid (show parseE s = 4 by unfold parseE; rw [if_pos HN.out, if_neg hbig])
                clear hbig hov
                have hR2 := (BR.out.call hu2).lt
                go_wp2_with fail
                have hb2 := bel0 HB.out hu2
                refine bodyPost_ret (res_cell_tmp rfl rfl rfl (by first | with_reducible exact (BR.out.call hu2).store4.alloc _ | with_reducible exact ((BR.out.call hu2).store4_other (by omega)).store4) Try.underlying24 rfl (by kernel_rfl)) rfl ⟨by rw [E1.out, E2.out, limbs_zero.1, limbs_zero.2.1, limbs_zero.2.2.1, limbs_zero.2.2.2]; rfl, ?_⟩
                first | with_reducible exact (below_store4 hb2 (by omega)).alloc (below_store4 hb2 (by omega)).size _ | with_reducible exact below_store4 (below_store4 hb2 (by omega)) (by omega)
          · have hke : m = s.size := by omega
            have E1 := Lib.hid (show parseV s = x by unfold parseV; rw [if_pos HN.out, ← hke, ← HX.out, if_pos hv])
            have E2 := Lib.hid (show parseE s = 0 by unfold parseE; rw [if_pos HN.out, ← hke, ← HX.out, if_pos hv])
            clear hke
            go_wp2_with fail
            refine bodyPost_ret (res_cell_tmp rfl rfl rfl bR.store4 Try.underlying24 rfl (by kernel_rfl)) rfl ⟨by rw [E1.out, E2.out]; rfl, ?_⟩
            exact below_store4 hb (by omega)

theorem rparse_any (s : ByteArray) (w : World) (hs : s.size ≤ maxLen) :
    Calls Try.prog 13 #[.string s] w fun e w' => e = .returned (.tuple #[.agg #[.int .u64 (l0 (parseV s)), .int .u64 (l1 (parseV s)), .int .u64 (l2 (parseV s)), .int .u64 (l3 (parseV s))], .int .i64 (parseE s)]) ∧ Below w.heap.size w w' := by
  by_cases h1 : 1 ≤ s.size
  · by_cases h80 : s.size ≤ 80
    · have hc0 := sB_at (s := s) (k := 0) (by omega)
      by_cases h : s.size = 1
      · exact rparse_main s w hs h1 h80 (.inl h) _ hc0 (.inl h)
      · by_cases h0 : sB s 0 = 48
        · have hN : notB s = false := by
            unfold notB
            have e1 : (sB s 0 != 48 || s.size == 1) = false := by simp [h0, h]
            rw [e1]; simp
          obtain ⟨e1, e2⟩ := parseV_no hN
          rw [e1, e2, limbs_zero.1, limbs_zero.2.1, limbs_zero.2.2.1, limbs_zero.2.2.2]
          exact rparse_bad2 s w hs h80 (by omega) h0
        · exact rparse_main s w hs h1 h80 (.inr h0) _ hc0 (.inr ⟨by omega, h0⟩)
    · have hN : notB s = false := by unfold notB; simp [h80]
      obtain ⟨e1, e2⟩ := parseV_no hN
      rw [e1, e2, limbs_zero.1, limbs_zero.2.1, limbs_zero.2.2.1, limbs_zero.2.2.2]
      exact rparse_bad1 s w hs (by omega)
  · obtain rfl : s = ByteArray.empty := by
      apply ByteArray.ext
      apply Array.eq_empty_of_size_eq_zero
      show s.size = 0
      omega
    obtain ⟨e1, e2⟩ := parseV_no (show notB ByteArray.empty = false by decide)
    rw [e1, e2, limbs_zero.1, limbs_zero.2.1, limbs_zero.2.2.1, limbs_zero.2.2.2]
    exact rparse_bad0 w

end Go.Proofs.Ytgleleccmpncnaa
