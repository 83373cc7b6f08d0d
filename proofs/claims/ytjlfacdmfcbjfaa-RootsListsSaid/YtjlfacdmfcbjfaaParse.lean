/- What Parse answers, as plain functions (the walk is still to come: wip/parse_yes.draft.txt). -/
import Derived.Test.YtjlfacdmfcbjfaaNot
import Derived.Test.YtjlfacdmfcbjfaaWide2
import Derived.Test.YtjlfacdmfcbjfaaEq
import Derived.Deep.RegionHeld3
set_option linter.unusedVariables false
namespace Go.Proofs.Ytjlfacdmfcbjfaa
open Go.RowKit

/-- The number that the first k digits denote. -/
def valN (s : ByteArray) : Nat → Int
  | 0 => 0
  | k + 1 => valN s k * 10 + (sB s k - 48)

theorem valN_mono {s : ByteArray} (h : ∀ j, j < s.size → isDig (sB s j) = true) : ∀ (k : Nat), k ≤ s.size → 0 ≤ valN s k ∧ ∀ j, j ≤ k → valN s j ≤ valN s k
  | 0, _ => ⟨by simp [valN], fun j hj => by
    have e : j = 0 := Nat.le_zero.1 hj
    rw [e]; exact Int.le_refl _⟩
  | k + 1, hk => by
    obtain ⟨h0, h1⟩ := valN_mono h k (by omega)
    have hd := h k (by omega)
    unfold isDig at hd
    simp at hd
    have e : valN s (k + 1) = valN s k * 10 + (sB s k - 48) := rfl
    refine ⟨by rw [e]; omega, fun j hj => ?_⟩
    by_cases hjk : j = k + 1
    · subst hjk; exact Int.le_refl _
    · have := h1 j (by omega)
      rw [e]; omega

def parseV (s : ByteArray) : Int := if notB s = true then (if valN s s.size < 115792089237316195423570985008687907853269984665640564039457584007913129639936 then valN s s.size else 0) else 0
def parseE (s : ByteArray) : Int := if notB s = true then (if valN s s.size < 115792089237316195423570985008687907853269984665640564039457584007913129639936 then 0 else 4) else 1

theorem notB_digs {s : ByteArray} (h : notB s = true) : 1 ≤ s.size ∧ s.size ≤ 80 ∧ ∀ j, j < s.size → isDig (sB s j) = true := by
  unfold notB digs at h
  simp at h
  obtain ⟨⟨⟨h1, h2⟩, h3⟩, _⟩ := h
  exact ⟨h1, h2, h3⟩

def ParI (w : World) (bT : Nat) (s : ByteArray) (i : Value) (wr : World) : Prop :=
  ∃ (k : Nat), k ≤ s.size ∧ i = .int .i64 k ∧ valN s k < 115792089237316195423570985008687907853269984665640564039457584007913129639936 ∧ Below w.heap.size w wr ∧ w.heap.size < bT ∧ Blk wr w.heap.size #[.int .u64 0, .int .u64 0, .int .u64 0, .int .u64 0] ∧ Blk wr bT #[.int .u64 (l0 (valN s k)), .int .u64 (l1 (valN s k)), .int .u64 (l2 (valN s k)), .int .u64 (l3 (valN s k))]

theorem keep_drew' (w : World) : Below w.heap.size w w.drew := ⟨rfl, rfl, rfl, Nat.le_refl _, fun _ _ => rfl⟩
theorem keep_realloc' {w u : World} {o o' : Obj} (h : Below w.heap.size w (u.alloc o)) (hs : w.heap.size ≤ u.heap.size) : Below w.heap.size w (u.alloc o') :=
  ⟨h.os, h.tape, h.output, by simp; omega, fun k hk => by rw [Below.heap_alloc _ _ _ (by omega), ← Below.heap_alloc u o _ (by omega)]; exact h.block k hk⟩
theorem keep_alloc' {w u : World} (h : Below w.heap.size w u) (o : Obj) : Below w.heap.size w (u.alloc o) := h.alloc h.size o
theorem keep_call' {w u v : World} (h : Below w.heap.size w u) (hb : Below u.heap.size u v) : Below w.heap.size w v := bel0 h hb
theorem blk_drew2 {w : World} {b : Nat} {cs : Array Value} (h : Blk w b cs) : Blk w.drew b cs := h

end Go.Proofs.Ytjlfacdmfcbjfaa
