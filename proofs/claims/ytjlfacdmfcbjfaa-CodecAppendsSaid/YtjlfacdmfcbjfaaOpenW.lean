/- A parameter of type api.Wide denotes a number. -/
import Derived.Test.YtjlfacdmfcbjfaaOpen
import Derived.Test.YtjlfacdmfcbjfaaMath
import Derived.Test.YtjlfacdmfcbjfaaWides
import Derived.ChangeSlices
set_option linter.unusedVariables false
namespace Go.Proofs.Ytjlfacdmfcbjfaa
open Go.RowKit

theorem wide_of {xs : List Int} (h : xs.length = 4 ∧ ∀ x ∈ xs, (Lit.int .u64 x).wf = true) : ∃ n, W256 n ∧ Value.agg (xs.map (Value.int .u64)).toArray = .agg #[.int .u64 (l0 (n)), .int .u64 (l1 (n)), .int .u64 (l2 (n)), .int .u64 (l3 (n))] := by
  obtain ⟨hl, hw⟩ := h
  match xs, hl with
  | [a, b, c, d], _ =>
    have ha := wf_u64 (hw a (by simp))
    have hb := wf_u64 (hw b (by simp))
    have hc := wf_u64 (hw c (by simp))
    have hd := wf_u64 (hw d (by simp))
    obtain ⟨h, h0, h1, h2, h3⟩ := limbs_of ha hb hc hd rfl
    exact ⟨_, h, by rw [h0, h1, h2, h3]; rfl⟩

/-- A parameter of type []api.Wide that came in: a slice of numbers. -/
theorem open_wides {H : Type} {enc : TypeId × Value → H} {P : Program} {w : World} {r : Reach} {base base' : Nat} {sp : Nat → Bool} {held : Bool} {t e u : TypeId} {v : Value} {d : DataW H} {p : List MemPlace}
    (ht : P.underlying t = some (.slice e)) (he : P.underlying e = some (.array 4 u)) (hu : P.underlying u = some (.int .u64)) (hc : P.cellsOf u = 1) (hct : P.cellsOf e = 4)
    (hv : Value.okWide P w r base' t v) (h : DataW.Trod enc P w base sp held t v d p) : ∃ ns, Wides w v ns ∧ Nums ns := by
  obtain ⟨a, len, cap, rfl⟩ := Go.WideShapes.okWide_slice ht hv
  obtain ⟨fuel, hf⟩ := h
  rcases DataW.trod_slice ht hf with ⟨h0, _⟩ | ⟨a', len', cap', elems, rest, m, _, h0, _, hb, hl, hm, hlen, hel, _, _⟩
  · simp [Value.cells] at h0
    obtain ⟨rfl, rfl, rfl⟩ := h0
    exact ⟨[], ⟨_, _, _, rfl, rfl, Nat.zero_le _, .inl rfl⟩, fun n hn => by cases hn⟩
  · simp [Value.cells] at h0
    obtain ⟨rfl, rfl, rfl⟩ := h0
    have each (i : Nat) (hi : i < len) : ∃ n, W256 n ∧ w.cell? (a'.add (i * 4)) = some (.int .u64 (l0 n)) ∧ w.cell? ((a'.add (i * 4)).add 1) = some (.int .u64 (l1 n)) ∧ w.cell? ((a'.add (i * 4)).add 2) = some (.int .u64 (l2 n)) ∧ w.cell? ((a'.add (i * 4)).add 3) = some (.int .u64 (l3 n)) := by
      have h1 := hel i hi
      rw [hct, List.getElem?_eq_getElem (by omega), Option.bind_eq_some_iff] at h1
      obtain ⟨cs', hcs, hy⟩ := h1
      obtain ⟨xs, rfl, hxl, hxw⟩ := ints_of_trod he hu hc hct hy
      obtain ⟨_, _, hcell⟩ := World.cells?_some hcs
      match xs, hxl with
      | [x0, x1, x2, x3], _ =>
        obtain ⟨hW, e0, e1, e2, e3⟩ := limbs_of (wf_u64 (hxw x0 (by simp))) (wf_u64 (hxw x1 (by simp))) (wf_u64 (hxw x2 (by simp))) (wf_u64 (hxw x3 (by simp))) rfl
        refine ⟨_, hW, ?_, ?_, ?_, ?_⟩
        · have := hcell 0 (by omega); rw [e0]; simpa [Addr.add] using this
        · have := hcell 1 (by omega); rw [e1]; simpa using this
        · have := hcell 2 (by omega); rw [e2]; simpa using this
        · have := hcell 3 (by omega); rw [e3]; simpa using this
    obtain ⟨ns, hnl, hns⟩ := list_of len each
    have hmx : len ≤ maxLen := by omega
    refine ⟨ns, ⟨_, _, _, rfl, hnl, hmx, ?_⟩, fun n hn => ?_⟩
    · by_cases hz : len = 0
      · exact .inl hz
      · right
        obtain ⟨b, off, spot⟩ := a'
        have h0 := (hns 0 (by omega)).2.1
        have hspot : spot = none := by simpa [Addr.add] using World.cell?_spot h0
        subst hspot
        refine ⟨b, off, rfl, ?_, fun i hi => ?_⟩
        · have := cell_lt h0
          simpa [Addr.add] using this
        · obtain ⟨_, p0, p1, p2, p3⟩ := hns i hi
          rw [Go.WideShapes.add_plain] at p0 p1 p2 p3
          rw [Go.WideShapes.add_plain] at p1 p2 p3
          exact ⟨p0, p1, p2, p3⟩
    · obtain ⟨i, hi⟩ := List.getElem?_of_mem hn
      have hil : i < len := by have := (List.getElem?_eq_some_iff.1 hi).1; omega
      have := (hns i hil).1
      simpa [List.getD, hi] using this

end Go.Proofs.Ytjlfacdmfcbjfaa
