/- A parameter of type api.Wide denotes a number. -/
import Derived.Test.YtjofmejdabdhcaaOpen
import Derived.Test.YtjofmejdabdhcaaMath
set_option linter.unusedVariables false
namespace Go.Proofs.Ytjofmejdabdhcaa
open Go.RowKit

theorem wide_of {xs : List Int} (h : xs.length = 4 ∧ ∀ x ∈ xs, (Lit.int .u64 x).wf = true) : ∃ n, W256 n ∧ Value.agg (xs.map (Value.int .u64)).toArray = .agg #[.int .u64 (l0 (n)), .int .u64 (l1 (n)), .int .u64 (l2 (n)), .int .u64 (l3 (n))] := by
  obtain ⟨hl, hw⟩ := h
  match xs, hl with
  | [a, b, c, d], _ =>
    have ha := wf_u64 (hw a (by simp))
    have hb := wf_u64 (hw b (by simp))
    have hc := wf_u64 (hw c (by simp))
    have hd := wf_u64 (hw d (by simp))
    obtain ⟨h, h0, h1, h2, h3⟩ := limbs_of ha hb hc hd rfl
    exact ⟨_, h, by rw [h0, h1, h2, h3]; rfl⟩

end Go.Proofs.Ytjofmejdabdhcaa
