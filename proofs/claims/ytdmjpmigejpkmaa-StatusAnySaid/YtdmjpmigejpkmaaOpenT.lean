/- A parameter that is a table. -/
import Derived.Test.YtdmjpmigejpkmaaOpen
import Derived.Test.YtdmjpmigejpkmaaLt
import Derived.ChangeSlices
import Derived.ChangeArms
set_option linter.unusedVariables false

set_option maxRecDepth 100000
namespace Go.Proofs.Ytdmjpmigejpkmaa
open Go.RowKit Go.ChangeShapes Go.WideShapes
section
variable {H : Type} {enc : TypeId × Value → H} {w : World} {base : Nat} {sp : Nat → Bool} {held : Bool}

theorem trod_field {P : Program} {t ty : TypeId} {fs : Array Field} {fuel : Nat} {cs : List Value} {x : DataW H × List MemPlace} (ht : P.underlying t = some (.struct fs)) (h : DataW.trod enc P w base sp held fuel t cs = some x) (i : Nat) (f : Field) (o n : Nat) (hf : fs[i]? = some f)
    (h1 : f.type = ty) (h2 : f.offset = o) (h3 : P.cellsOf ty = n) : ∃ m y, DataW.trod enc P w base sp held m ty ((cs.drop o).take n) = some y := by
  obtain ⟨xs, m, _, _, _, hlen, hall⟩ := DataW.trod_struct ht h
  have := hall i f hf
  have hi : i < xs.length := by rw [hlen]; exact (Array.getElem?_eq_some_iff.1 hf).1
  rw [h1, h2, h3, List.getElem?_eq_getElem hi] at this
  exact ⟨m, _, this⟩

theorem trod_len {P : Program} {t : TypeId} {fs : Array Field} {fuel : Nat} {cs : List Value} {x : DataW H × List MemPlace} (ht : P.underlying t = some (.struct fs)) (h : DataW.trod enc P w base sp held fuel t cs = some x) {n : Nat} (hn : P.cellsOf t = n) : cs.length = n := by
  obtain ⟨xs, m, _, _, hl, _⟩ := DataW.trod_struct ht h
  rw [hl, hn]

theorem cut_at {α : Type} (cs : List α) (o n m : Nat) (h : o + n = m) : cs.drop o = (cs.drop o).take n ++ cs.drop m := by
  rw [← h, ← List.drop_drop, List.take_append_drop]

theorem trod_bytes32 {t : TypeId} {fuel : Nat} {cs : List Value} {x : DataW H × List MemPlace} (ht : Try.prog.underlying t = some (.array 32 5)) (hct : Try.prog.cellsOf t = 32) (h : DataW.trod enc Try.prog w base sp held fuel t cs = some x) : ∃ xs, IsBytes 32 xs ∧ cs = bytesL xs := by
  obtain ⟨xs, h1, h2, h3⟩ := ints_of_trod ht Try.underlying5 (by kernel_rfl) hct h
  exact ⟨xs, ⟨h2, h3⟩, h1⟩

theorem trod_u64 {fuel : Nat} {cs : List Value} {x : DataW H × List MemPlace} (h : DataW.trod enc Try.prog w base sp held fuel 29 cs = some x) : ∃ n : Int, (0 ≤ n ∧ n ≤ 18446744073709551615) ∧ cs = [.int .u64 n] := by
  obtain ⟨n, h1, _, h2⟩ := DataW.trod_int Try.underlying29 h
  exact ⟨n, wf_u64 h2, h1⟩

theorem trod_cp {fuel : Nat} {cs : List Value} {x : DataW H × List MemPlace} (h : DataW.trod enc Try.prog w base sp held fuel 33 cs = some x) : ∃ c : CpD, c.ok ∧ cs = c.cells := by
  have hl : cs.length = 33 := trod_len Try.underlying33 h (by kernel_rfl)
  obtain ⟨_, _, h0⟩ := trod_field Try.underlying33 h 0 _ 0 1 rfl rfl rfl (by kernel_rfl)
  obtain ⟨_, _, h1⟩ := trod_field Try.underlying33 h 1 _ 1 32 rfl rfl rfl (by kernel_rfl)
  obtain ⟨n, hn, e0⟩ := trod_u64 h0
  obtain ⟨r, hr, e1⟩ := trod_bytes32 Try.underlying31 (by kernel_rfl) h1
  refine ⟨⟨n, r⟩, ⟨hn.1, hn.2, hr⟩, ?_⟩
  have e : cs = cs.drop 0 := rfl
  rw [e, cut_at cs 0 1 1 rfl, cut_at cs 1 32 33 rfl, List.drop_eq_nil_of_le (i := 33) (by omega), e0, e1]
  simp [CpD.cells]

theorem open_struct {t : TypeId} {r : Reach} {base' : Nat} {fs : Array Field} {v : Value} {d : DataW H} {p : List MemPlace} (ht : Try.prog.underlying t = some (.struct fs)) (hv : Value.okWide Try.prog w r base' t v) (h : DataW.Trod enc Try.prog w base sp held t v d p) :
    ∃ cs fuel, v = .agg cs ∧ DataW.trod enc Try.prog w base sp held fuel t cs.toList = some (d, p) := by
  obtain ⟨cs, rfl, _⟩ := okWide_struct ht hv
  obtain ⟨fuel, hf⟩ := h
  exact ⟨cs, fuel, rfl, hf⟩

theorem trod_ints {t e : TypeId} {k : IntKind} {fuel : Nat} {cs : List Value} {x : DataW H × List MemPlace} (ht : Try.prog.underlying t = some (.slice e)) (he : Try.prog.underlying e = some (.int k)) (hc : Try.prog.cellsOf e = 1)
    (h : DataW.trod enc Try.prog w base sp held fuel t cs = some x) : ∃ v l, Ints k w v l ∧ cs = [v] ∧ ∀ n ∈ l, (Lit.int k n).wf = true := by
  rcases open_ints ht he hc h with ⟨hcs, _⟩ | ⟨x, l, c, zs, hcs, _, hl, hm, hz, _, hcell, hwz⟩
  · exact ⟨_, [], ⟨none, 0, 0, rfl, rfl, Nat.zero_le _, .inl rfl⟩, hcs, by simp⟩
  · have hll : l ≤ zs.length := by rw [hz]; split <;> omega
    refine ⟨_, zs.take l, ⟨_, _, _, rfl, by simp; omega, by omega, ?_⟩, hcs, fun n hn => hwz n (List.mem_of_mem_take hn)⟩
    by_cases h0 : l = 0
    · exact .inl h0
    · obtain ⟨b, off, rfl, hc'⟩ := Go.ints_at hcell (by omega)
      refine .inr ⟨b, off, rfl, cell_lt (hc' 0 (by omega)), fun i hi => ?_⟩
      rw [hc' i (by omega)]
      simp [List.getD, hi]
end
end Go.Proofs.Ytdmjpmigejpkmaa
