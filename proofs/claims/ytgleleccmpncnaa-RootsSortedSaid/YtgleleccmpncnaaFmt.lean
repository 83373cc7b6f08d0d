/- Contract of wide.Format: the decimal digits. -/
import Derived.Test.YtgleleccmpncnaaWide3
import Derived.Test.YtgleleccmpncnaaEq
import Derived.Laws.BytesArg
set_option linter.unusedVariables false
namespace Go.Proofs.Ytgleleccmpncnaa
open Go.RowKit

/-- The bytes of the decimal notation. -/
def decL (n : Nat) : List Int := if h : n < 10 then [48 + (n : Int)] else decL (n / 10) ++ [48 + ((n % 10 : Nat) : Int)]
termination_by n
decreasing_by omega

theorem decL_one {n : Nat} (h : n / 10 = 0) : decL n = [48 + ((n % 10 : Nat) : Int)] := by
  rw [decL, dif_pos (by omega), Nat.mod_eq_of_lt (by omega)]

theorem decL_more {n : Nat} (h : n / 10 ≠ 0) : decL n = decL (n / 10) ++ [48 + ((n % 10 : Nat) : Int)] := by
  rw [decL, dif_neg (by omega)]

/-- How the digits that are done stand to the number. -/
def FmtP (n m : Int) (ds : List Int) : Prop := (ds = [] ∧ m = n) ∨ (ds ≠ [] ∧ decL n.toNat = (if m = 0 then [] else decL m.toNat) ++ ds)

theorem FmtP.step {n m : Int} {ds : List Int} (h : FmtP n m ds) (h0 : 0 ≤ m) (hne : ds = [] ∨ m ≠ 0) : FmtP n (m / 10) ((48 + m % 10) :: ds) := by
  have key : decL m.toNat = (if m / 10 = 0 then [] else decL (m / 10).toNat) ++ [48 + m % 10] := by
    obtain ⟨a, rfl⟩ := Int.eq_ofNat_of_zero_le h0
    have e1 : ((a : Int) / 10).toNat = a / 10 := by omega
    have e2 : (a : Int) % 10 = ((a % 10 : Nat) : Int) := by omega
    rw [e1, e2, Int.toNat_natCast]
    by_cases hz : a / 10 = 0
    · rw [if_pos (by omega), decL_one hz, List.nil_append]
    · rw [if_neg (by omega), decL_more hz]
  refine .inr ⟨by simp, ?_⟩
  rcases h with ⟨rfl, rfl⟩ | ⟨h1, h2⟩
  · exact key
  · have hm : m ≠ 0 := by
      rcases hne with h | h
      · exact absurd h h1
      · exact h
    rw [h2, if_neg hm, key, List.append_assoc]; rfl

/-- What stands at the loop's head. -/
def FmtI (w : World) (n : Int) (f : Value) (wr : World) : Prop :=
  ∃ (k : Nat) (m : Int) (ds : List Int) (cs : Array Value), k ≤ 80 ∧ f = .int .i64 k ∧ ds.length = 80 - k ∧ cs.size = 80 ∧ (∀ j, j < 80 - k → cs[k + j]? = some (.int .u8 (ds.getD j 0))) ∧
    W256 m ∧ m.toNat < 10 ^ k ∧ FmtP n m ds ∧ Below w.heap.size w wr ∧ w.heap.size + 2 ≤ wr.heap.size ∧
    Blk wr w.heap.size #[.int .u64 (l0 m), .int .u64 (l1 m), .int .u64 (l2 m), .int .u64 (l3 m)] ∧ Blk wr (w.heap.size + 1) cs

theorem fmt_start (n : Int) (hn : W256 n) (w : World) (Z : Array Value) (hZ : Z.size = 80) (t u : TypeId) :
    FmtI w n (.int .i64 80) ((w.alloc (.cells #[.int .u64 (l0 n), .int .u64 (l1 n), .int .u64 (l2 n), .int .u64 (l3 n)] t)).alloc (.cells Z u)) := by
  refine ⟨80, n, [], Z, by omega, rfl, rfl, hZ, by omega, hn, ?_, .inl ⟨rfl, rfl⟩, ?_, by simp, ?_, ?_⟩
  · have := hn.2
    have e : (10 : Nat) ^ 80 = 100000000000000000000000000000000000000000000000000000000000000000000000000000000 := by decide
    omega
  · exact ((Below.refl _ _).alloc (Nat.le_refl _) _).alloc (by simp) _
  · exact (Blk.new rfl).alloc _
  · exact Blk.new (by simp)

theorem fmt_next {w wr w1 : World} {n m : Int} {ds : List Int} {cs : Array Value} {k : Nat} {t : TypeId} (hm : W256 m) (hP : FmtP n m ds) (hlen : ds.length = 80 - (k + 1)) (hcs : cs.size = 80)
    (hcell : ∀ j, j < 80 - (k + 1) → cs[k + 1 + j]? = some (.int .u8 (ds.getD j 0))) (hpow : m.toNat < 10 ^ (k + 1)) (hk : k + 1 ≤ 80) (hb : Below w.heap.size w wr) (hsz2 : w.heap.size + 2 ≤ wr.heap.size)
    (hb1 : Below wr.heap.size wr w1) (bA : Blk wr w.heap.size #[.int .u64 (l0 m), .int .u64 (l1 m), .int .u64 (l2 m), .int .u64 (l3 m)]) (bD : Blk wr (w.heap.size + 1) cs) (hne : k + 1 = 80 ∨ m ≠ 0) :
    FmtI w n (.int .i64 k)
      ((((((w1.setCell { block := w.heap.size + 1, off := k } (.int .u8 (48 + m % 10))).setCell { block := w.heap.size, off := 0 } (.int .u64 (l0 (m / 10)))).setCell
        { block := w.heap.size, off := 1 } (.int .u64 (l1 (m / 10)))).setCell { block := w.heap.size, off := 2 } (.int .u64 (l2 (m / 10)))).setCell { block := w.heap.size, off := 3 } (.int .u64 (l3 (m / 10)))).alloc
        (.cells #[.int .u64 (l0 (m / 10)), .int .u64 (l1 (m / 10)), .int .u64 (l2 (m / 10)), .int .u64 (l3 (m / 10))] t)) := by
  have hs1 := hb1.size
  refine ⟨k, m / 10, (48 + m % 10) :: ds, cs.setIfInBounds k (.int .u8 (48 + m % 10)), by omega, rfl, by simp [hlen]; omega, by simp [hcs], ?_, ?_, ?_, ?_, ?_, ?_, ?_, ?_⟩
  · intro j hj
    rcases j with _ | j
    · simp [hcs, show k < 80 by omega]
    · rw [Array.getElem?_setIfInBounds_ne (by omega), show k + (j + 1) = k + 1 + j by omega, hcell j (by omega)]
      rfl
  · have := hm.1; have := hm.2; unfold W256; omega
  · have h1 : (m / 10).toNat = m.toNat / 10 := by have := hm.1; omega
    rw [h1, Nat.div_lt_iff_lt_mul (by omega), ← Nat.pow_succ]
    exact hpow
  · refine hP.step hm.1 ?_
    rcases hne with h | h
    · left; exact List.eq_nil_of_length_eq_zero (by omega)
    · exact .inr h
  · exact (below_store4 ((hb.trans (hb1.mono (by omega))).setCell (by simp) _) (Nat.le_refl _)).alloc (by rw [size_store4]; simp [World.setCell]; omega) _
  · rw [World.size_alloc, size_store4]; simp [World.setCell]; omega
  · exact (((bA.call hb1).setCell_other (by omega)).store4).alloc _
  · exact (((bD.call hb1).setCell).store4_other (by omega)).alloc _

set_option maxRecDepth 100000 in
set_option maxHeartbeats 2000000 in
theorem fmt_any (n : Int) (hn : W256 n) (w : World) :
    Calls Try.prog 11 #[.agg #[.int .u64 (l0 (n)), .int .u64 (l1 (n)), .int .u64 (l2 (n)), .int .u64 (l3 (n))]] w fun e w' => e = .returned (.string (strOfNums (decL n.toNat))) ∧ Below w.heap.size w w' := by
  obtain ⟨Z, hZ⟩ : ∃ Z, Z = Array.replicate 80 (Value.int .u8 0) := ⟨_, rfl⟩
  have hsz : Z.size = 80 := by rw [hZ]; simp
  obtain ⟨hz80, hst⟩ := zero_array (P := Try.prog) (t := 55) (n := 80) Z (by rw [hZ]; kernel_rfl) hsz (by rw [hZ]; kernel_rfl)
  clear hZ
  go_enter Try.func11, Try.ntmps11
  go_wp2_with fail
  clear hst hz80
  go_loopw [4] (fun f wr => FmtI w n f wr) (fun f _ => (intOf f).toNat)
  case atStart => exact fmt_start n hn w Z hsz _ _
  case round =>
    obtain ⟨k, m, ds, cs, hk, rfl, hlen, hcs, hcell, hm, hpow, hP, hb, hsz2, bA, bD⟩ := hrel
    have HC := Lib.hid hcell; clear hcell
    have HP := Lib.hid hP; clear hP
    have HL := Lib.hid hlen; clear hlen
    have HPow := Lib.hid hpow; clear hpow
    obtain ⟨a0, a1, a2, a3, a4⟩ := bA.four
    have hq1 : divQ m 10 = m / 10 := rfl
    have hq2 : divR m 10 = m % 10 := rfl
    have hq3 : divE 10 = 0 := rfl
    by_cases hstop : k ≠ 80 ∧ m = 0
    · obtain ⟨hk80, rfl⟩ := hstop
      have heq := eq_wide_zero hm
      have hkk : k < 80 := by omega
      have hconv : ∀ cap, (convert 44 9 (.slice (some ⟨w.heap.size + 1, k, none⟩) (80 - k) cap)).run Try.prog wr = .ok (.string (strOfNums ds)) wr := fun cap =>
        run_convert_bytes_arg wr 44 5 (by kernel_rfl) (by kernel_rfl) (w.heap.size + 1) k (80 - k) cap ds HL.out (fun i hi => by rw [bD.cell, HC.out i hi]) 9 (by kernel_rfl)
      have hslice : Sem.run Try.prog (Instr.sliceAt 55 (.pointer (some ⟨w.heap.size + 1, 0, none⟩)) (some (.int .i64 k)) none none) wr = .ok (.slice (some ⟨w.heap.size + 1, k, none⟩) (80 - k) (80 - k)) wr := by
        have ha : Try.prog.arrayLen 55 = 80 := by kernel_rfl
        rw [run_sliceAt_array_l (P := Try.prog) wr 55 _ (by kernel_rfl) .i64 k (by omega) (by rw [ha]; omega)]
        have hso : Sem.run Try.prog (sizeOf (Try.prog.elem 55)) wr = .ok 1 wr := by kernel_rfl
        rw [hso, ha]
        simp [slicedAt, Addr.add]
        rw [if_neg (by omega)]
        split
        · subst_vars; rfl
        · rfl
      go_wp2_with fail
      go_ret
      have hds : decL n.toNat = ds := by
        rcases HP.out with ⟨h, _⟩ | ⟨_, h⟩
        · exfalso; have := HL.out; rw [h] at this; simp at this; omega
        · rw [if_pos rfl] at h; exact h
      exact ⟨by rw [hds]; rfl, hb⟩
    · have hne : k = 80 ∨ m ≠ 0 := by omega
      have hk1 : 1 ≤ k := by
        rcases Nat.eq_zero_or_pos k with rfl | h
        · exfalso
          have := HPow.out
          have := hm.1
          omega
        · exact h
      obtain ⟨k, rfl⟩ : ∃ j, k = j + 1 := ⟨k - 1, by omega⟩
      have HCV : Hid (∀ u : World, Blk u (w.heap.size + 1) cs → ∃ v, u.cell? ⟨w.heap.size + 1, k, none⟩ = some v) := fun u hu => by
        rw [hu.cell]; exact ⟨cs[k]'(by omega), Array.getElem?_eq_getElem (by omega)⟩
      have heq := eq_wide_zero hm
      have HNE := Lib.hid hne
      have hmod0 : 0 ≤ m % 10 := Int.emod_nonneg _ (by omega)
      have hmod1 : m % 10 < 10 := Int.emod_lt_of_pos _ (by omega)
      by_cases hk80 : k = 79
      · subst hk80
        go_wp2_with (go_at_call 34; refine (div_any m 10 hm (by omega) (by omega) _).mono ?_; rintro e w1 ⟨rfl, hb1⟩; rw [hq1, hq2, hq3]; obtain ⟨a0, a1, a2, a3, a4⟩ := (bA.call hb1).four; obtain ⟨cv, c1⟩ := HCV.out _ (bD.call hb1); have c2 := (bD.call hb1).free; have hs1 := hb1.size; have hs2 : w.heap.size < w1.heap.size := (by omega); have hs3 : w.heap.size + 1 < w1.heap.size := (by omega))
        go_roundw
        case rel => exact fmt_next hm HP.out HL.out hcs HC.out HPow.out hk hb hsz2 hb1 bA bD (.inl rfl)
        case measure => simp [intOf]
      · have hm0 : decide (m = 0) = false := decide_eq_false (by omega)
        have hk81 : k < 79 := by omega
        go_wp2_with (go_at_call 34; refine (div_any m 10 hm (by omega) (by omega) _).mono ?_; rintro e w1 ⟨rfl, hb1⟩; rw [hq1, hq2, hq3]; obtain ⟨a0, a1, a2, a3, a4⟩ := (bA.call hb1).four; obtain ⟨cv, c1⟩ := HCV.out _ (bD.call hb1); have c2 := (bD.call hb1).free; have hs1 := hb1.size; have hs2 : w.heap.size < w1.heap.size := (by omega); have hs3 : w.heap.size + 1 < w1.heap.size := (by omega))
        go_roundw
        case rel => exact fmt_next hm HP.out HL.out hcs HC.out HPow.out hk hb hsz2 hb1 bA bD HNE.out
        case measure => simp [intOf]

end Go.Proofs.Ytgleleccmpncnaa
