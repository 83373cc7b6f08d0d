/- Slices of numbers of type api.Wide. -/
import Derived.Test.YtjlfacdmfcbjfaaWorld
import Derived.Test.YtjlfacdmfcbjfaaMath
set_option linter.unusedVariables false
namespace Go.Proofs.Ytjlfacdmfcbjfaa
open Go.RowKit

/-- A value that is a slice whose elements are the numbers 'ns'. -/
def Wides (w : World) (v : Value) (ns : List Int) : Prop :=
  ∃ a len cap, v = .slice a len cap ∧ ns.length = len ∧ len ≤ maxLen ∧
    (len = 0 ∨ ∃ b off, a = some ⟨b, off, none⟩ ∧ b < w.heap.size ∧ ∀ i, i < len →
      w.cell? ⟨b, off + i * 4, none⟩ = some (.int .u64 (l0 (ns.getD i 0))) ∧ w.cell? ⟨b, off + i * 4 + 1, none⟩ = some (.int .u64 (l1 (ns.getD i 0))) ∧
      w.cell? ⟨b, off + i * 4 + 2, none⟩ = some (.int .u64 (l2 (ns.getD i 0))) ∧ w.cell? ⟨b, off + i * 4 + 3, none⟩ = some (.int .u64 (l3 (ns.getD i 0))))

def Nums (ns : List Int) : Prop := ∀ n ∈ ns, W256 n

theorem Wides.below {w w' : World} {v : Value} {ns : List Int} (h : Wides w v ns) (hb : Below w.heap.size w w') : Wides w' v ns := by
  obtain ⟨a, len, cap, rfl, hl, hm, hr⟩ := h
  refine ⟨a, len, cap, rfl, hl, hm, ?_⟩
  rcases hr with h0 | ⟨b, off, rfl, hlt, hc⟩
  · exact .inl h0
  · refine .inr ⟨b, off, rfl, Nat.lt_of_lt_of_le hlt hb.size, fun i hi => ?_⟩
    rw [hb.cell (p := ⟨b, off + i * 4, none⟩) hlt, hb.cell (p := ⟨b, off + i * 4 + 1, none⟩) hlt, hb.cell (p := ⟨b, off + i * 4 + 2, none⟩) hlt, hb.cell (p := ⟨b, off + i * 4 + 3, none⟩) hlt]
    exact hc i hi

theorem Nums.at {ns : List Int} (h : Nums ns) {k : Nat} (hk : k < ns.length) : W256 (ns.getD k 0) := by
  apply h
  simp [List.getD, List.getElem?_eq_getElem hk]

/-- A list by its elements. -/
theorem list_of {P : Nat → Int → Prop} : ∀ (len : Nat), (∀ i, i < len → ∃ n, P i n) → ∃ ns : List Int, ns.length = len ∧ ∀ i, i < len → P i (ns.getD i 0)
  | 0, _ => ⟨[], rfl, fun i hi => absurd hi (Nat.not_lt_zero _)⟩
  | len + 1, h => by
    obtain ⟨ns, hl, hP⟩ := list_of len (fun i hi => h i (by omega))
    obtain ⟨n, hn⟩ := h len (by omega)
    refine ⟨ns ++ [n], by simp [hl], fun i hi => ?_⟩
    by_cases hi' : i < len
    · have := hP i hi'
      simpa [List.getD, List.getElem?_append_left (show i < ns.length by omega)] using this
    · obtain rfl : i = len := by omega
      simpa [List.getD, ← hl] using hn

end Go.Proofs.Ytjlfacdmfcbjfaa
