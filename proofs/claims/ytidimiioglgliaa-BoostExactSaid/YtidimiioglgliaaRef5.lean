/- Contract of the reference's MulSmall: the way without overflow. -/
import Derived.Test.YtidimiioglgliaaRef4
import Derived.Test.YtidimiioglgliaaRef1
import Derived.Deep.RegionHeld3
set_option linter.unusedVariables false
namespace Go.Proofs.Ytidimiioglgliaa
open Go.RowKit

/-- What a region that draws its order keeps here: the first world below its heap, and the cells of one array. -/
def SV (w0 : World) (b : Nat) (x0 x1 x2 x3 : Value) (u : World) : Prop :=
  Below w0.heap.size w0 u ∧ u.cell? ⟨b, 0, none⟩ = some x0 ∧ u.cell? ⟨b, 1, none⟩ = some x1 ∧ u.cell? ⟨b, 2, none⟩ = some x2 ∧ u.cell? ⟨b, 3, none⟩ = some x3
section
variable {w0 : World} {b : Nat} {x0 x1 x2 x3 : Value} {u v : World}

theorem SV.alloc (h : SV w0 b x0 x1 x2 x3 u) (o : Obj) : SV w0 b x0 x1 x2 x3 (u.alloc o) := by
  obtain ⟨h0, h1, h2, h3, h4⟩ := h
  have e (j : Nat) (v : Value) (hv : u.cell? ⟨b, j, none⟩ = some v) : (u.alloc o).cell? ⟨b, j, none⟩ = some v := by
    rw [World.cell?_alloc_some _ _ _ (by rw [hv]; rfl)]; exact hv
  exact ⟨h0.alloc h0.size _, e _ _ h1, e _ _ h2, e _ _ h3, e _ _ h4⟩

theorem SV.call (h : SV w0 b x0 x1 x2 x3 u) (hb : Below u.heap.size u v) : SV w0 b x0 x1 x2 x3 v := by
  obtain ⟨h0, h1, h2, h3, h4⟩ := h
  have e (j : Nat) (y : Value) (hv : u.cell? ⟨b, j, none⟩ = some y) : v.cell? ⟨b, j, none⟩ = some y := by
    rw [hb.cell (cell_lt hv)]; exact hv
  exact ⟨bel0 h0 hb, e _ _ h1, e _ _ h2, e _ _ h3, e _ _ h4⟩

theorem SV.drew (h : SV w0 b x0 x1 x2 x3 u) : SV w0 b x0 x1 x2 x3 u.drew := ⟨h.1.drew, h.2⟩

theorem SV.store (h : SV w0 b x0 x1 x2 x3 u) {c : Nat} (h2 : b < c) (h3 : w0.heap.size ≤ c) (v0 v1 v2 v3 : Value) :
    SV w0 b x0 x1 x2 x3 ((((u.setCell ⟨c, 0, none⟩ v0).setCell ⟨c, 1, none⟩ v1).setCell ⟨c, 2, none⟩ v2).setCell ⟨c, 3, none⟩ v3) := by
  obtain ⟨h0, g1, g2, g3, g4⟩ := h
  have e (j : Nat) (y : Value) (hv : u.cell? ⟨b, j, none⟩ = some y) : ((((u.setCell ⟨c, 0, none⟩ v0).setCell ⟨c, 1, none⟩ v1).setCell ⟨c, 2, none⟩ v2).setCell ⟨c, 3, none⟩ v3).cell? ⟨b, j, none⟩ = some y := by
    have hne : ∀ i : Nat, (⟨c, i, none⟩ : Addr) ≠ ⟨b, j, none⟩ := fun i he => by injection he with h1; omega
    rw [World.cell?_setCell_other _ _ _ _ (hne 3), World.cell?_setCell_other _ _ _ _ (hne 2), World.cell?_setCell_other _ _ _ _ (hne 1), World.cell?_setCell_other _ _ _ _ (hne 0)]; exact hv
  exact ⟨below_store4 h0 h3, e _ _ g1, e _ _ g2, e _ _ g3, e _ _ g4⟩
end

set_option maxHeartbeats 4000000 in
theorem rmul_good (n k kl kh : Int) (hn : W256 n) (ekl : bits .and .u64 k 4294967295 = kl) (ekh : k / 4294967296 = kh) (hkl0 : 0 ≤ kl) (hkl1 : kl < 4294967296) (hkh0 : 0 ≤ kh) (hkh1 : kh < 4294967296) (w : World) (e1 : fitsB n kl 0 = true) (e2 : fitsB n kh 0 = true) (h7 : hf (lowN n kh 0) 7 = 0) (hlt : lowN n kh 0 < (4294967296 : Int) ^ 7) (hsum : addN (lowN n kl 0) (lowN n kh 0 * 4294967296) = madN n k 0 ∧ addF (lowN n kl 0) (lowN n kh 0 * 4294967296) = madF n k 0) :
    Calls Try.prog 10 #[.agg #[.int .u64 (l0 (n)), .int .u64 (l1 (n)), .int .u64 (l2 (n)), .int .u64 (l3 (n))], .int .u64 k] w fun e w' => e = .returned (.tuple #[.agg #[.int .u64 (l0 (madN n k 0)), .int .u64 (l1 (madN n k 0)), .int .u64 (l2 (madN n k 0)), .int .u64 (l3 (madN n k 0))], .int .i64 (madF n k 0)]) ∧ Below w.heap.size w w' := by
  have H1 := Lib.hid (rmad_any n kl 0 hn hkl0 hkl1 (by omega) (by omega))
  have H2 := Lib.hid (rmad_any n kh 0 hn hkh0 hkh1 (by omega) (by omega))
  have H3 := half_7 (lowN n kh 0) (lowN_rng _ _ _)
  rw [h7] at H3
  have H3 := Lib.hid H3
  have hloW := lowN_rng n kl 0
  have hhiW := lowN_rng n kh 0
  obtain ⟨lo, elo⟩ : ∃ x, lowN n kl 0 = x := ⟨_, rfl⟩
  obtain ⟨hi, ehi⟩ : ∃ x, lowN n kh 0 = x := ⟨_, rfl⟩
  rw [elo] at H1 hloW hsum
  rw [ehi] at H2 H3 hhiW hsum hlt
  have HSUM := Lib.hid hsum
  clear elo ehi h7 hsum
  have HLT := Lib.hid hlt; clear hlt
  have hb := Below.refl w.heap.size w
  have bA : Blk ((w.alloc (.cells #[.int .u64 (l0 n), .int .u64 (l1 n), .int .u64 (l2 n), .int .u64 (l3 n)] 26)).alloc (.cells #[.int .u64 0, .int .u64 0, .int .u64 0, .int .u64 0] 26)) w.heap.size #[.int .u64 (l0 n), .int .u64 (l1 n), .int .u64 (l2 n), .int .u64 (l3 n)] := (Blk.new rfl).alloc _
  have bR : Blk ((w.alloc (.cells #[.int .u64 (l0 n), .int .u64 (l1 n), .int .u64 (l2 n), .int .u64 (l3 n)] 26)).alloc (.cells #[.int .u64 0, .int .u64 0, .int .u64 0, .int .u64 0] 26)) (w.heap.size + 1) #[.int .u64 0, .int .u64 0, .int .u64 0, .int .u64 0] := Blk.new (by simp)
  go_enter Try.func10, Try.ntmps10
  go_wp2_with (first
      | (go_at_call_of 20 kl; refine (H1.out _).mono ?_; rintro e w1 ⟨rfl, hb1⟩; rw [e1]; replace bA := bA.call hb1; replace bR := bR.call hb1; replace hb := bel2 hb hb1; clear hb1; obtain ⟨a0, a1, a2, a3, a4⟩ := bA.four; have lA := bA.lt; have lR := bR.lt; have lR1 := bR.lt)
      | (go_at_call_of 20 kh; refine (H2.out _).mono ?_; rintro e w2 ⟨rfl, hb2⟩; rw [e2]; replace bA := (bA.alloc _).call hb2; replace bR := (bR.alloc _).call hb2; have bL := Blk.call hb2 (Blk.new rfl); replace hb := bel1 hb hb2; clear hb2; obtain ⟨a0, a1, a2, a3, a4⟩ := bA.four; obtain ⟨z0, z1, z2, z3, z4⟩ := bR.four; have lA := bA.lt; have lR := bR.lt; have lL := bL.lt; have lL2 := bL.lt)
      | (go_at_call 21; refine (H3.out _).mono ?_; rintro e w3 ⟨rfl, hb3⟩; replace bR := (bR.alloc _).call hb3; replace bL := (bL.alloc _).call hb3; have bH := Blk.call hb3 (Blk.new rfl); replace hb := bel1 hb hb3; clear hb3; obtain ⟨z0, z1, z2, z3, z4⟩ := bR.four; have lR := bR.lt; have lL := bL.lt; have lH := bH.lt))
  have hS : MovI w w1.heap.size w2.heap.size w3.heap.size lo hi (.int .i64 0) (w3.alloc (.cells #[.int .u64 0, .int .u64 0, .int .u64 0, .int .u64 0] 26)) := by
    refine ⟨0, 0, by omega, rfl, ?_, lR1, lL2, lH, hb.alloc hb.size _, bL.alloc _, bH.alloc _, bR.alloc _, ?_⟩
    · simp [Int.emod_one]
    · rw [limbs_zero.1, limbs_zero.2.1, limbs_zero.2.2.1, limbs_zero.2.2.2]; exact Blk.new rfl
  clear bL bH bR hb a0 a1 a2 a3 a4 z0 z1 z2 z3 z4 bA
  go_loopw [11] (fun i wr => MovI w w1.heap.size w2.heap.size w3.heap.size lo hi i wr) (fun i _ => (7 - intOf i).toNat)
  case atStart => exact hS
  case round =>
    clear hS
    obtain ⟨j, s, hj, rfl, hs, q1, q2, q3, hb, bL, bH, bR, bM⟩ := hrel
    have HS := Lib.hid hs; clear hs
    obtain ⟨h0, h1, h2, h3, h4⟩ := bH.four
    obtain ⟨m0, m1, m2, m3, m4⟩ := bM.four
    by_cases hlt : j < 7
    · have D1 := Lib.hid (half_any hi j (by omega) hhiW)
      have D2 := put_any (hi % (4294967296 : Int) ^ j * 4294967296) (hf hi j) (j + 1) (by omega) (mov_rng hi j).1 (mov_rng hi j).2 (hf_rng hi j).1 (hf_rng hi j).2
      rw [mov_next, ← HS.out] at D2
      have ecast : ((j + 1 : Nat) : Int) = (j : Int) + 1 := rfl
      rw [ecast] at D2
      have D2 := Lib.hid D2
      obtain ⟨x, ex⟩ : ∃ x, hf hi j = x := ⟨_, rfl⟩
      rw [ex] at D1 D2
      obtain ⟨s', es'⟩ : ∃ x, hi % (4294967296 : Int) ^ (j + 1) * 4294967296 = x := ⟨_, rfl⟩
      rw [es'] at D2
      have HE := Lib.hid es'; clear es' ex ecast
      have hw : IntKind.i64.wrap ((j : Int) + 1) = (j : Int) + 1 := by
        simp only [IntKind.wrap, IntKind.signed, IntKind.bits]; simp; omega
      have hSS : Below w.heap.size w wr ∧ wr.cell? ⟨w2.heap.size, 0, none⟩ = some (.int .u64 (l0 hi)) ∧ wr.cell? ⟨w2.heap.size, 1, none⟩ = some (.int .u64 (l1 hi)) ∧ wr.cell? ⟨w2.heap.size, 2, none⟩ = some (.int .u64 (l2 hi)) ∧ wr.cell? ⟨w2.heap.size, 3, none⟩ = some (.int .u64 (l3 hi)) := ⟨hb, h0, h1, h2, h3⟩
      have HSS := Lib.hid hSS; clear hSS
      go_wp2_with fail
      go_region_with (first
        | (go_at_call 21; refine (D1.out _).mono ?_; rintro e u1 ⟨rfl, hb1⟩; have bM1 := Blk.call hb1 (show Blk wr.drew _ _ from bM); have bH1 := Blk.call hb1 (show Blk wr.drew _ _ from bH); obtain ⟨m0, m1, m2, m3, m4⟩ := bM1.four)
        | (go_at_call 22; refine (D2.out _).mono ?_; rintro e u2 ⟨rfl, hb2⟩; have bM2 := bM1.call hb2; obtain ⟨p0, p1, p2, p3, p4⟩ := bM2.four))
      all_goals
        go_wp2_with fail
        go_roundw
        case rel =>
          have hu1 := hb1.size
          refine ⟨j + 1, s', by omega, by go_num, by rw [HE.out], q1, q2, q3, ?_, ?_, ?_, ?_, ?_⟩
          · exact below_store4 (bel0 (bel0 hb.drew hb1) hb2) (by omega)
          · exact ((Blk.call hb1 (show Blk wr.drew _ _ from bL)).call hb2).store4_other (by omega)
          · exact (bH1.call hb2).store4_other (by omega)
          · exact ((Blk.call hb1 (show Blk wr.drew _ _ from bR)).call hb2).store4_other (by omega)
          · exact bM2.store4
        case measure => simp [intOf]; omega
    · obtain rfl : j = 7 := by omega
      have hs' : s = hi * 4294967296 := by rw [HS.out, Int.emod_eq_of_lt hhiW.1 HLT.out]
      have hsW : W256 s := by
        have h1 := HLT.out
        rw [pow7] at h1
        unfold W256
        have := hhiW.1
        omega
      have D4 := radd_any lo s hloW hsW
      have hsum := HSUM.out
      rw [← hs'] at hsum
      rw [hsum.1, hsum.2] at D4
      have D4 := Lib.hid D4
      clear hs' hsum
      obtain ⟨o0, o1, o2, o3, o4⟩ := bL.four
      go_wp2_with (go_at_call 23; refine (D4.out _).mono ?_; rintro e u1 ⟨rfl, hb1⟩; obtain ⟨z0, z1, z2, z3, z4⟩ := (bR.call hb1).four)
      refine bodyPost_ret (res_cell_tmp rfl rfl rfl (bR.call hb1).store4 Try.underlying26 rfl (by kernel_rfl)) rfl ⟨rfl, ?_⟩
      exact below_store4 (bel0 hb hb1) (by omega)

theorem hf7_zero {x : Int} (h : W256 x) : hf x 7 = 0 ↔ x < (4294967296 : Int) ^ 7 := by
  unfold hf W256 at *
  rw [pow7]
  omega

/-- The reference's MulSmall. -/
theorem rmulS_any (n k : Int) (hn : W256 n) (hk : 0 ≤ k) (hk2 : k ≤ 18446744073709551615) (w : World) :
    Calls Try.prog 10 #[.agg #[.int .u64 (l0 (n)), .int .u64 (l1 (n)), .int .u64 (l2 (n)), .int .u64 (l3 (n))], .int .u64 k] w fun e w' => e = .returned (.tuple #[.agg #[.int .u64 (l0 (madN n k 0)), .int .u64 (l1 (madN n k 0)), .int .u64 (l2 (madN n k 0)), .int .u64 (l3 (madN n k 0))], .int .i64 (madF n k 0)]) ∧ Below w.heap.size w w' := by
  have e1 := and32 k hk (by omega)
  obtain ⟨kl, ekl⟩ : ∃ x, k % 4294967296 = x := ⟨_, rfl⟩
  obtain ⟨kh, ekh⟩ : ∃ x, k / 4294967296 = x := ⟨_, rfl⟩
  rw [ekl] at e1
  have hs := mul_split (n := n) ekl.symm ekh.symm
  have a0 : 0 ≤ kl := by omega
  have a1 : kl < 4294967296 := by omega
  have b0 : 0 ≤ kh := by omega
  have b1 : kh < 4294967296 := by omega
  have p0 : 0 ≤ n * kl := Int.mul_nonneg hn.1 a0
  have p1 : 0 ≤ n * kh := Int.mul_nonneg hn.1 b0
  by_cases c1 : n * kl < 115792089237316195423570985008687907853269984665640564039457584007913129639936
  · by_cases c2 : n * kh < 115792089237316195423570985008687907853269984665640564039457584007913129639936
    · have f1 := fits_yes c1
      have f2 := fits_yes c2
      have g1 := low_is p0 c1
      have g2 := low_is p1 c2
      have z := hf7_zero (lowN_rng n kh 0)
      by_cases c3 : lowN n kh 0 < (4294967296 : Int) ^ 7
      · refine rmul_good n k kl kh hn e1 ekh a0 a1 b0 b1 w f1 f2 (z.2 c3) c3 ?_
        rw [g1, g2]
        unfold addN addF madN madF
        rw [Int.add_zero, hs]
        exact ⟨rfl, rfl⟩
      · have h7 : 0 < hf (lowN n kh 0) 7 := by
          have := (hf_rng (lowN n kh 0) 7).1
          have : hf (lowN n kh 0) 7 ≠ 0 := fun h => c3 (z.1 h)
          omega
        refine rmul_bad3 n k kl kh hn e1 ekh a0 a1 b0 b1 w f1 f2 h7 ?_
        rw [g2, pow7] at c3
        omega
    · exact rmul_bad2 n k kl kh hn e1 ekh a0 a1 b0 b1 w (fits_yes c1) (fits_no (by omega)) (by omega)
  · exact rmul_bad1 n k kl kh hn e1 ekh a0 a1 b0 b1 w (fits_no (by omega)) (by omega)
end Go.Proofs.Ytidimiioglgliaa
