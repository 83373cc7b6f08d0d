/- Parameters of types api.Claim, api.Slashing. -/
import Derived.Test.YtlbhkgmlfapjgaaOpen
import Derived.Test.YtlbhkgmlfapjgaaOpenT
import Derived.Test.YtlbhkgmlfapjgaaCl
import Derived.ChangeSlices
import Derived.ChangeArms
set_option linter.unusedVariables false

set_option maxRecDepth 100000
namespace Go.Proofs.Ytlbhkgmlfapjgaa
open Go.RowKit Go.ChangeShapes Go.WideShapes
section
variable {H : Type} {enc : TypeId × Value → H} {w : World} {base : Nat} {sp : Nat → Bool} {held : Bool}

theorem trod_claim {fuel : Nat} {cs : List Value} {x : DataW H × List MemPlace} (hf : DataW.trod enc Try.prog w base sp held fuel 27 cs = some x) : ∃ (x : ClD) (l : List Int), x.ok ∧ IntsV w x.v l ∧ cs = x.cells := by
  have hl : cs.length = 35 := trod_len Try.underlying27 hf (by kernel_rfl)
  obtain ⟨_, _, h0⟩ := trod_field Try.underlying27 hf 0 _ 0 1 rfl rfl rfl (by kernel_rfl)
  obtain ⟨_, _, h1⟩ := trod_field Try.underlying27 hf 1 _ 1 1 rfl rfl rfl (by kernel_rfl)
  obtain ⟨_, _, h2⟩ := trod_field Try.underlying27 hf 2 _ 2 32 rfl rfl rfl (by kernel_rfl)
  obtain ⟨_, _, h3⟩ := trod_field Try.underlying27 hf 3 _ 34 1 rfl rfl rfl (by kernel_rfl)
  obtain ⟨s1, k1, e1⟩ := trod_u64 h0
  obtain ⟨s2, k2, e2⟩ := trod_u64 h1
  obtain ⟨r1, kr1, er1⟩ := trod_bytes32 Try.underlying24 (by kernel_rfl) h2
  obtain ⟨v, l, hi, ev, hw⟩ := trod_ints Try.underlying25 Try.underlying3 (by kernel_rfl) h3
  refine ⟨⟨s1, s2, r1, v⟩, l, ⟨k1, k2, kr1⟩, ⟨hi, fun x hx => wf_i64 (hw x hx)⟩, ?_⟩
  have e : cs = cs.drop 0 := rfl
  rw [e, cut_at cs 0 1 1 rfl, cut_at cs 1 1 2 rfl, cut_at cs 2 32 34 rfl, cut_at cs 34 1 35 rfl, List.drop_eq_nil_of_le (i := 35) (by omega), e1, e2, er1, ev]
  simp [ClD.cells, ClD.parts]

theorem open_slashing {r : Reach} {base' : Nat} {v : Value} {d : DataW H} {p : List MemPlace} (hv : Value.okWide Try.prog w r base' 31 v) (h : DataW.Trod enc Try.prog w base sp held 31 v d p) :
    ∃ (x y : ClD) (l m : List Int), x.ok ∧ y.ok ∧ IntsV w x.v l ∧ IntsV w y.v m ∧ v = .agg (flatP [x.cells, y.cells]) := by
  obtain ⟨cs, fuel, rfl, hf⟩ := open_struct Try.underlying31 hv h
  obtain ⟨cs⟩ := cs
  simp only at hf
  have hl : cs.length = 70 := trod_len Try.underlying31 hf (by kernel_rfl)
  obtain ⟨_, _, h0⟩ := trod_field Try.underlying31 hf 0 _ 0 35 rfl rfl rfl (by kernel_rfl)
  obtain ⟨_, _, h1⟩ := trod_field Try.underlying31 hf 1 _ 35 35 rfl rfl rfl (by kernel_rfl)
  obtain ⟨x, l, hx, hl1, ex⟩ := trod_claim h0
  obtain ⟨y, m, hy, hm1, ey⟩ := trod_claim h1
  refine ⟨x, y, l, m, hx, hy, hl1, hm1, ?_⟩
  have e : cs = cs.drop 0 := rfl
  rw [e, cut_at cs 0 35 35 rfl, cut_at cs 35 35 70 rfl, List.drop_eq_nil_of_le (i := 70) (by omega), ex, ey]
  simp [flatP]

theorem open_claim {r : Reach} {base' : Nat} {v : Value} {d : DataW H} {p : List MemPlace} (hv : Value.okWide Try.prog w r base' 27 v) (h : DataW.Trod enc Try.prog w base sp held 27 v d p) :
    ∃ (x : ClD) (l : List Int), x.ok ∧ IntsV w x.v l ∧ v = .agg x.cells.toArray := by
  obtain ⟨cs, fuel, rfl, hf⟩ := open_struct Try.underlying27 hv h
  obtain ⟨cs⟩ := cs
  obtain ⟨x, l, hx, hi, rfl⟩ := trod_claim hf
  exact ⟨x, l, hx, hi, rfl⟩
end
end Go.Proofs.Ytlbhkgmlfapjgaa
