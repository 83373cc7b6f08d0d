/- Contracts of the reference's digit, of roots.Parse and of the reference's ParseRoot. -/
import Derived.Test.YtjlfacdmfcbjfaaHex
import Derived.Test.YtjlfacdmfcbjfaaRow
import Derived.Test.YtjlfacdmfcbjfaaToB
set_option linter.unusedVariables false
namespace Go.Proofs.Ytjlfacdmfcbjfaa
open Go.RowKit

theorem hex_at : ∀ k : Fin 16, (((⟨#[48, 49, 50, 51, 52, 53, 54, 55, 56, 57, 97, 98, 99, 100, 101, 102]⟩ : ByteArray)[k.val]'(by have := k.isLt; simp [ByteArray.size])).toNat : Int) = hexd (k.val : Int) := by decide

theorem hex_at' {k : Nat} (h : k < 16) : (((⟨#[48, 49, 50, 51, 52, 53, 54, 55, 56, 57, 97, 98, 99, 100, 101, 102]⟩ : ByteArray)[k]'(by simp [ByteArray.size]; omega)).toNat : Int) = hexd (k : Int) := hex_at ⟨k, h⟩

theorem zero32_val : bytesV zero32 = Array.replicate 32 (Value.int .u8 0) := by
  rfl

def RPI (w : World) (s : ByteArray) (i : Value) (wr : World) : Prop :=
  ∃ (k : Nat) (cs : Array Value), k ≤ 32 ∧ i = .int .i64 k ∧ pairsB s k = true ∧ cs.size = 32 ∧ (∀ j, j < k → cs[j]? = some (.int .u8 (pairV s j))) ∧ (∀ v ∈ cs, v.oneCell' = true) ∧ Below w.heap.size w wr ∧
    Blk wr w.heap.size (Array.replicate 32 (Value.int .u8 0)) ∧ Blk wr (w.heap.size + 1) cs

theorem RPI.start {w wr : World} {s : ByteArray} (hb : Below w.heap.size w wr) (bR : Blk wr w.heap.size (Array.replicate 32 (Value.int .u8 0))) (bD : Blk wr (w.heap.size + 1) (Array.replicate 32 (Value.int .u8 0))) : RPI w s (.int .i64 0) wr :=
  ⟨0, _, by omega, rfl, rfl, by simp, fun j hj => absurd hj (Nat.not_lt_zero _), by simp [Value.oneCell'], hb, bR, bD⟩

theorem pairsB_next {s : ByteArray} {k : Nat} (h : pairsB s k = true) (h1 : dig16 (sB s (2 * k + 2)) < 16) (h2 : dig16 (sB s (2 * k + 3)) < 16) : pairsB s (k + 1) = true := by
  unfold pairsB at *
  rw [List.range_succ, List.all_append, h]
  simp [h1, h2]

theorem pairsB_not {s : ByteArray} {k : Nat} (hk : k < 32) (h : ¬ (dig16 (sB s (2 * k + 2)) < 16 ∧ dig16 (sB s (2 * k + 3)) < 16)) : pairsB s 32 = false := by
  unfold pairsB
  rw [List.all_eq_false]
  refine ⟨k, List.mem_range.2 hk, fun hc => h ?_⟩
  simpa using hc

theorem RPI.next {w wr : World} {s : ByteArray} {cs : Array Value} {k : Nat} {b : Int} (hk : k < 32) (hp : pairsB s k = true) (h1 : dig16 (sB s (2 * k + 2)) < 16) (h2 : dig16 (sB s (2 * k + 3)) < 16) (hcs : cs.size = 32) (hc : ∀ j, j < k → cs[j]? = some (.int .u8 (pairV s j)))
    (ho : ∀ v ∈ cs, v.oneCell' = true) (hb : Below w.heap.size w wr) (bR : Blk wr w.heap.size (Array.replicate 32 (Value.int .u8 0))) (bD : Blk wr (w.heap.size + 1) cs) (hbv : b = pairV s k) :
    RPI w s (.int .i64 ((k : Int) + 1)) (wr.setCell ⟨w.heap.size + 1, k, none⟩ (.int .u8 b)) := by
  subst hbv
  refine ⟨k + 1, cs.setIfInBounds k (.int .u8 (pairV s k)), by omega, rfl, pairsB_next hp h1 h2, by simp [hcs], fun j hj => ?_, fun v hv => ?_, hb.setCell (by simp) _, bR.setCell_other (by omega), bD.setCell⟩
  · by_cases hjk : j = k
    · subst hjk; rw [Array.getElem?_setIfInBounds_self_of_lt (by omega)]
    · rw [Array.getElem?_setIfInBounds_ne (by omega)]; exact hc j (by omega)
  · rcases Array.mem_or_eq_of_mem_setIfInBounds hv with h | h
    · exact ho v h
    · subst h; rfl

theorem RPI.all {s : ByteArray} {cs : Array Value} (hcs : cs.size = 32) (hc : ∀ j, j < 32 → cs[j]? = some (.int .u8 (pairV s j))) : cs = bytesV (rootX s) := by
  apply Array.ext_getElem?
  intro i
  by_cases hi : i < 32
  · rw [hc i hi]; simp [bytesV, rootX, hi]
  · rw [Array.getElem?_eq_none (by omega), Array.getElem?_eq_none (by simp [bytesV, rootX]; omega)]

/-- The results of a function whose first result is an array variable. -/
theorem res_blk {P : Program} {fn : Func} {p t : Tmp} {ty : TypeId} {d : TypeDesc} {tmps : Array Value} {w : World} {b : Nat} {cs : Array Value} {v : Value} (h : fn.results = #[.cell p ty, .tmp t])
    (hp : tmps.getD p undef = .pointer (some ⟨b, 0, none⟩)) (ht : tmps.getD t undef = v) (hB : Blk w b cs) (hu : P.underlying ty = some d) (hd : (match d with | .struct _ | .array _ _ => true | _ => false) = true) (hi : (P.info? ty).map (·.size) = some cs.size) :
    (results fn tmps).run P w = .ok (.tuple #[.agg cs, v]) w := res_cell_tmp h hp ht hB hu hd hi

theorem or_nib (h l : Int) (h0 : 0 ≤ h) (h1 : h < 16) (l0 : 0 ≤ l) (l1 : l < 16) : bits .or .i64 (h * 16) l = h * 16 + l ∧ bits .or .u8 (h * 16) l = h * 16 + l := by
  obtain ⟨a, rfl⟩ := Int.eq_ofNat_of_zero_le h0
  obtain ⟨b, rfl⟩ := Int.eq_ofNat_of_zero_le l0
  have ha : a < 16 := by omega
  have hb : b < 16 := by omega
  have key : ∀ x y : Fin 16, bits .or .i64 ((x.val : Int) * 16) (y.val : Int) = (x.val : Int) * 16 + (y.val : Int) ∧ bits .or .u8 ((x.val : Int) * 16) (y.val : Int) = (x.val : Int) * 16 + (y.val : Int) := by decide +kernel
  exact key ⟨a, ha⟩ ⟨b, hb⟩

end Go.Proofs.Ytjlfacdmfcbjfaa
