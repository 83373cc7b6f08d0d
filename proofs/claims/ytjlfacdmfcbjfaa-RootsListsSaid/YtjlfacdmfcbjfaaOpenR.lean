/- A parameter of type []api.Root: a slice of roots. -/
import Derived.Test.YtjlfacdmfcbjfaaOpen
import Derived.Test.YtjlfacdmfcbjfaaOpenW
import Derived.Test.YtjlfacdmfcbjfaaRts
import Derived.ChangeSlices
set_option linter.unusedVariables false
namespace Go.Proofs.Ytjlfacdmfcbjfaa
open Go.RowKit

theorem list_ofR {P : Nat → Rt → Prop} : ∀ (len : Nat), (∀ i, i < len → ∃ n, P i n) → ∃ ns : List Rt, ns.length = len ∧ ∀ i, i < len → P i ns[i]!
  | 0, _ => ⟨[], rfl, fun i hi => absurd hi (Nat.not_lt_zero _)⟩
  | len + 1, h => by
    obtain ⟨ns, hl, hP⟩ := list_ofR len (fun i hi => h i (by omega))
    obtain ⟨n, hn⟩ := h len (by omega)
    refine ⟨ns ++ [n], by simp [hl], fun i hi => ?_⟩
    by_cases hi' : i < len
    · have := hP i hi'
      rw [getElem!_pos _ i (by omega)] at this
      rw [getElem!_pos _ i (by simp; omega), List.getElem_append_left (by omega)]
      exact this
    · obtain rfl : i = len := by omega
      rw [getElem!_pos _ i (by simp; omega), List.getElem_append_right (by omega)]
      simpa [hl] using hn

theorem open_roots {H : Type} {enc : TypeId × Value → H} {P : Program} {w : World} {r : Reach} {base base' : Nat} {sp : Nat → Bool} {held : Bool} {t e u : TypeId} {v : Value} {d : DataW H} {p : List MemPlace}
    (ht : P.underlying t = some (.slice e)) (he : P.underlying e = some (.array 32 u)) (hu : P.underlying u = some (.int .u8)) (hc : P.cellsOf u = 1) (hct : P.cellsOf e = 32)
    (hv : Value.okWide P w r base' t v) (h : DataW.Trod enc P w base sp held t v d p) : ∃ rs, Rts w v rs := by
  obtain ⟨a, len, cap, rfl⟩ := Go.WideShapes.okWide_slice ht hv
  obtain ⟨fuel, hf⟩ := h
  rcases DataW.trod_slice ht hf with ⟨h0, _⟩ | ⟨a', len', cap', elems, rest, m, _, h0, _, hb, hl, hm, hlen, hel, _, _⟩
  · simp [Value.cells] at h0
    obtain ⟨rfl, rfl, rfl⟩ := h0
    exact ⟨[], _, _, _, rfl, rfl, Nat.zero_le _, .inl rfl⟩
  · simp [Value.cells] at h0
    obtain ⟨rfl, rfl, rfl⟩ := h0
    have each (i : Nat) (hi : i < len) : ∃ n : Rt, ∀ j, j < 32 → w.cell? ((a'.add (i * 32)).add j) = (encR n)[j]? := by
      have h1 := hel i hi
      rw [hct, List.getElem?_eq_getElem (by omega), Option.bind_eq_some_iff] at h1
      obtain ⟨cs', hcs, hy⟩ := h1
      obtain ⟨xs, rfl, hxl, hxw⟩ := ints_of_trod he hu hc hct hy
      obtain ⟨_, _, hcell⟩ := World.cells?_some hcs
      refine ⟨⟨xs, hxl, hxw⟩, fun j hj => ?_⟩
      have := hcell j (by simpa using hj)
      rw [this]
      simp [encR]
    obtain ⟨ns, hnl, hns⟩ := list_ofR len each
    have hmx : len ≤ maxLen := by omega
    refine ⟨ns, _, _, _, rfl, hnl, hmx, ?_⟩
    by_cases hz : len = 0
    · exact .inl hz
    · right
      obtain ⟨b, off, spot⟩ := a'
      have h0 := hns 0 (by omega) 0 (by decide)
      rw [encR_get _ (by decide)] at h0
      have hspot : spot = none := by simpa [Addr.add] using World.cell?_spot h0
      subst hspot
      refine ⟨b, off, rfl, ?_, fun i hi j x hx => ?_⟩
      · have := cell_lt h0
        simpa [Addr.add] using this
      · have hj : j < 32 := by
          have := (List.getElem?_eq_some_iff.1 hx).1
          rwa [encR_len] at this
        have := hns i (by omega) j hj
        rw [Go.WideShapes.add_plain, Go.WideShapes.add_plain, hx] at this
        exact this

end Go.Proofs.Ytjlfacdmfcbjfaa
