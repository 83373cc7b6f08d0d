/- Contract of wide.Format: the decimal digits. -/
import Derived.Test.YtjlfacdmfcbjfaaWide3
import Derived.Test.YtjlfacdmfcbjfaaEq
import Derived.Laws.BytesArg
set_option linter.unusedVariables false
namespace Go.Proofs.Ytjlfacdmfcbjfaa
open Go.RowKit

/-- The bytes of the decimal notation. -/
def decL (n : Nat) : List Int := if h : n < 10 then [48 + (n : Int)] else decL (n / 10) ++ [48 + ((n % 10 : Nat) : Int)]
termination_by n
decreasing_by omega

theorem decL_one {n : Nat} (h : n / 10 = 0) : decL n = [48 + ((n % 10 : Nat) : Int)] := by
  rw [decL, dif_pos (by omega), Nat.mod_eq_of_lt (by omega)]

theorem decL_more {n : Nat} (h : n / 10 ≠ 0) : decL n = decL (n / 10) ++ [48 + ((n % 10 : Nat) : Int)] := by
  rw [decL, dif_neg (by omega)]

/-- How the digits that are done stand to the number. -/
def FmtP (n m : Int) (ds : List Int) : Prop := (ds = [] ∧ m = n) ∨ (ds ≠ [] ∧ decL n.toNat = (if m = 0 then [] else decL m.toNat) ++ ds)

theorem FmtP.step {n m : Int} {ds : List Int} (h : FmtP n m ds) (h0 : 0 ≤ m) (hne : ds = [] ∨ m ≠ 0) : FmtP n (m / 10) ((48 + m % 10) :: ds) := by
  have key : decL m.toNat = (if m / 10 = 0 then [] else decL (m / 10).toNat) ++ [48 + m % 10] := by
    obtain ⟨a, rfl⟩ := Int.eq_ofNat_of_zero_le h0
    have e1 : ((a : Int) / 10).toNat = a / 10 := by omega
    have e2 : (a : Int) % 10 = ((a % 10 : Nat) : Int) := by omega
    rw [e1, e2, Int.toNat_natCast]
    by_cases hz : a / 10 = 0
    · rw [if_pos (by omega), decL_one hz, List.nil_append]
    · rw [if_neg (by omega), decL_more hz]
  refine .inr ⟨by simp, ?_⟩
  rcases h with ⟨rfl, rfl⟩ | ⟨h1, h2⟩
  · exact key
  · have hm : m ≠ 0 := by
      rcases hne with h | h
      · exact absurd h h1
      · exact h
    rw [h2, if_neg hm, key, List.append_assoc]; rfl

/-- What stands at the loop's head. -/
def FmtI (w : World) (n : Int) (f : Value) (wr : World) : Prop :=
  ∃ (k : Nat) (m : Int) (ds : List Int) (cs : Array Value), k ≤ 80 ∧ f = .int .i64 k ∧ ds.length = 80 - k ∧ cs.size = 80 ∧ (∀ j, j < 80 - k → cs[k + j]? = some (.int .u8 (ds.getD j 0))) ∧
    W256 m ∧ m.toNat < 10 ^ k ∧ FmtP n m ds ∧ Below w.heap.size w wr ∧ w.heap.size + 2 ≤ wr.heap.size ∧
    Blk wr w.heap.size #[.int .u64 (l0 m), .int .u64 (l1 m), .int .u64 (l2 m), .int .u64 (l3 m)] ∧ Blk wr (w.heap.size + 1) cs

theorem fmt_start (n : Int) (hn : W256 n) (w : World) (Z : Array Value) (hZ : Z.size = 80) (t u : TypeId) :
    FmtI w n (.int .i64 80) ((w.alloc (.cells #[.int .u64 (l0 n), .int .u64 (l1 n), .int .u64 (l2 n), .int .u64 (l3 n)] t)).alloc (.cells Z u)) := by
  refine ⟨80, n, [], Z, by omega, rfl, rfl, hZ, by omega, hn, ?_, .inl ⟨rfl, rfl⟩, ?_, by simp, ?_, ?_⟩
  · have := hn.2
    have e : (10 : Nat) ^ 80 = 100000000000000000000000000000000000000000000000000000000000000000000000000000000 := by decide
    omega
  · exact ((Below.refl _ _).alloc (Nat.le_refl _) _).alloc (by simp) _
  · exact (Blk.new rfl).alloc _
  · exact Blk.new (by simp)

theorem fmt_next {w wr w1 : World} {n m : Int} {ds : List Int} {cs : Array Value} {k : Nat} {t : TypeId} (hm : W256 m) (hP : FmtP n m ds) (hlen : ds.length = 80 - (k + 1)) (hcs : cs.size = 80)
    (hcell : ∀ j, j < 80 - (k + 1) → cs[k + 1 + j]? = some (.int .u8 (ds.getD j 0))) (hpow : m.toNat < 10 ^ (k + 1)) (hk : k + 1 ≤ 80) (hb : Below w.heap.size w wr) (hsz2 : w.heap.size + 2 ≤ wr.heap.size)
    (hb1 : Below wr.heap.size wr w1) (bA : Blk wr w.heap.size #[.int .u64 (l0 m), .int .u64 (l1 m), .int .u64 (l2 m), .int .u64 (l3 m)]) (bD : Blk wr (w.heap.size + 1) cs) (hne : k + 1 = 80 ∨ m ≠ 0) :
    FmtI w n (.int .i64 k)
      ((((((w1.setCell { block := w.heap.size + 1, off := k } (.int .u8 (48 + m % 10))).setCell { block := w.heap.size, off := 0 } (.int .u64 (l0 (m / 10)))).setCell
        { block := w.heap.size, off := 1 } (.int .u64 (l1 (m / 10)))).setCell { block := w.heap.size, off := 2 } (.int .u64 (l2 (m / 10)))).setCell { block := w.heap.size, off := 3 } (.int .u64 (l3 (m / 10)))).alloc
        (.cells #[.int .u64 (l0 (m / 10)), .int .u64 (l1 (m / 10)), .int .u64 (l2 (m / 10)), .int .u64 (l3 (m / 10))] t)) := by
  have hs1 := hb1.size
  refine ⟨k, m / 10, (48 + m % 10) :: ds, cs.setIfInBounds k (.int .u8 (48 + m % 10)), by omega, rfl, by simp [hlen]; omega, by simp [hcs], ?_, ?_, ?_, ?_, ?_, ?_, ?_, ?_⟩
  · intro j hj
    rcases j with _ | j
    · simp [hcs, show k < 80 by omega]
    · rw [Array.getElem?_setIfInBounds_ne (by omega), show k + (j + 1) = k + 1 + j by omega, hcell j (by omega)]
      rfl
  · have := hm.1; have := hm.2; unfold W256; omega
  · have h1 : (m / 10).toNat = m.toNat / 10 := by have := hm.1; omega
    rw [h1, Nat.div_lt_iff_lt_mul (by omega), ← Nat.pow_succ]
    exact hpow
  · refine hP.step hm.1 ?_
    rcases hne with h | h
    · left; exact List.eq_nil_of_length_eq_zero (by omega)
    · exact .inr h
  · exact (below_store4 ((hb.trans (hb1.mono (by omega))).setCell (by simp) _) (Nat.le_refl _)).alloc (by rw [size_store4]; simp [World.setCell]; omega) _
  · rw [World.size_alloc, size_store4]; simp [World.setCell]; omega
  · exact (((bA.call hb1).setCell_other (by omega)).store4).alloc _
  · exact (((bD.call hb1).setCell).store4_other (by omega)).alloc _

end Go.Proofs.Ytjlfacdmfcbjfaa
