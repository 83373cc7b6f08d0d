/- Several texts as one: OpenT, OpenG. -/
import Derived.Test.YtcbjjafjomdklaaOpen
import Derived.Test.YtcbjjafjomdklaaLt
import Derived.ChangeSlices
import Derived.ChangeArms
import Derived.Test.YtcbjjafjomdklaaZ3
namespace Go.Proofs.Ytcbjjafjomdklaa

/-! OpenT -/
section
set_option linter.unusedVariables false
set_option maxRecDepth 100000
open Go.RowKit Go.ChangeShapes Go.WideShapes
section
variable {H : Type} {enc : TypeId × Value → H} {w : World} {base : Nat} {sp : Nat → Bool} {held : Bool}

theorem trod_field {P : Program} {t ty : TypeId} {fs : Array Field} {fuel : Nat} {cs : List Value} {x : DataW H × List MemPlace} (ht : P.underlying t = some (.struct fs)) (h : DataW.trod enc P w base sp held fuel t cs = some x) (i : Nat) (f : Field) (o n : Nat) (hf : fs[i]? = some f)
    (h1 : f.type = ty) (h2 : f.offset = o) (h3 : P.cellsOf ty = n) : ∃ m y, DataW.trod enc P w base sp held m ty ((cs.drop o).take n) = some y := by
  obtain ⟨xs, m, _, _, _, hlen, hall⟩ := DataW.trod_struct ht h
  have := hall i f hf
  have hi : i < xs.length := by rw [hlen]; exact (Array.getElem?_eq_some_iff.1 hf).1
  rw [h1, h2, h3, List.getElem?_eq_getElem hi] at this
  exact ⟨m, _, this⟩

theorem trod_len {P : Program} {t : TypeId} {fs : Array Field} {fuel : Nat} {cs : List Value} {x : DataW H × List MemPlace} (ht : P.underlying t = some (.struct fs)) (h : DataW.trod enc P w base sp held fuel t cs = some x) {n : Nat} (hn : P.cellsOf t = n) : cs.length = n := by
  obtain ⟨xs, m, _, _, hl, _⟩ := DataW.trod_struct ht h
  rw [hl, hn]

theorem cut_at {α : Type} (cs : List α) (o n m : Nat) (h : o + n = m) : cs.drop o = (cs.drop o).take n ++ cs.drop m := by
  rw [← h, ← List.drop_drop, List.take_append_drop]

theorem trod_bytes32 {t : TypeId} {fuel : Nat} {cs : List Value} {x : DataW H × List MemPlace} (ht : Try.prog.underlying t = some (.array 32 5)) (hct : Try.prog.cellsOf t = 32) (h : DataW.trod enc Try.prog w base sp held fuel t cs = some x) : ∃ xs, IsBytes 32 xs ∧ cs = bytesL xs := by
  obtain ⟨xs, h1, h2, h3⟩ := ints_of_trod ht Try.underlying5 (by kernel_rfl) hct h
  exact ⟨xs, ⟨h2, h3⟩, h1⟩

theorem trod_u64 {fuel : Nat} {cs : List Value} {x : DataW H × List MemPlace} (h : DataW.trod enc Try.prog w base sp held fuel 22 cs = some x) : ∃ n : Int, (0 ≤ n ∧ n ≤ 18446744073709551615) ∧ cs = [.int .u64 n] := by
  obtain ⟨n, h1, _, h2⟩ := DataW.trod_int Try.underlying22 h
  exact ⟨n, wf_u64 h2, h1⟩

theorem trod_cp {fuel : Nat} {cs : List Value} {x : DataW H × List MemPlace} (h : DataW.trod enc Try.prog w base sp held fuel 34 cs = some x) : ∃ c : CpD, c.ok ∧ cs = c.cells := by
  have hl : cs.length = 33 := trod_len Try.underlying34 h (by kernel_rfl)
  obtain ⟨_, _, h0⟩ := trod_field Try.underlying34 h 0 _ 0 1 rfl rfl rfl (by kernel_rfl)
  obtain ⟨_, _, h1⟩ := trod_field Try.underlying34 h 1 _ 1 32 rfl rfl rfl (by kernel_rfl)
  obtain ⟨n, hn, e0⟩ := trod_u64 h0
  obtain ⟨r, hr, e1⟩ := trod_bytes32 Try.underlying28 (by kernel_rfl) h1
  refine ⟨⟨n, r⟩, ⟨hn.1, hn.2, hr⟩, ?_⟩
  have e : cs = cs.drop 0 := rfl
  rw [e, cut_at cs 0 1 1 rfl, cut_at cs 1 32 33 rfl, List.drop_eq_nil_of_le (i := 33) (by omega), e0, e1]
  simp [CpD.cells]

theorem open_struct {t : TypeId} {r : Reach} {base' : Nat} {fs : Array Field} {v : Value} {d : DataW H} {p : List MemPlace} (ht : Try.prog.underlying t = some (.struct fs)) (hv : Value.okWide Try.prog w r base' t v) (h : DataW.Trod enc Try.prog w base sp held t v d p) :
    ∃ cs fuel, v = .agg cs ∧ DataW.trod enc Try.prog w base sp held fuel t cs.toList = some (d, p) := by
  obtain ⟨cs, rfl, _⟩ := okWide_struct ht hv
  obtain ⟨fuel, hf⟩ := h
  exact ⟨cs, fuel, rfl, hf⟩

theorem trod_ints {t e : TypeId} {k : IntKind} {fuel : Nat} {cs : List Value} {x : DataW H × List MemPlace} (ht : Try.prog.underlying t = some (.slice e)) (he : Try.prog.underlying e = some (.int k)) (hc : Try.prog.cellsOf e = 1)
    (h : DataW.trod enc Try.prog w base sp held fuel t cs = some x) : ∃ v l, Ints k w v l ∧ cs = [v] ∧ ∀ n ∈ l, (Lit.int k n).wf = true := by
  rcases open_ints ht he hc h with ⟨hcs, _⟩ | ⟨x, l, c, zs, hcs, _, hl, hm, hz, _, hcell, hwz⟩
  · exact ⟨_, [], ⟨none, 0, 0, rfl, rfl, Nat.zero_le _, .inl rfl⟩, hcs, by simp⟩
  · have hll : l ≤ zs.length := by rw [hz]; split <;> omega
    refine ⟨_, zs.take l, ⟨_, _, _, rfl, by simp; omega, by omega, ?_⟩, hcs, fun n hn => hwz n (List.mem_of_mem_take hn)⟩
    by_cases h0 : l = 0
    · exact .inl h0
    · obtain ⟨b, off, rfl, hc'⟩ := Go.ints_at hcell (by omega)
      refine .inr ⟨b, off, rfl, cell_lt (hc' 0 (by omega)), fun i hi => ?_⟩
      rw [hc' i (by omega)]
      simp [List.getD, hi]

theorem open_table {r : Reach} {base' : Nat} {v : Value} {d : DataW H} {p : List MemPlace} (hv : Value.okWide Try.prog w r base' 36 v) (h : DataW.Trod enc Try.prog w base sp held 36 v d p) :
    ∃ (x : TbD) (l : List Int), x.cp.ok ∧ NumsV w x.v l ∧ v = .agg (flatP x.parts) := by
  obtain ⟨cs, fuel, rfl, hf⟩ := open_struct Try.underlying36 hv h
  obtain ⟨cs⟩ := cs
  simp only at hf
  have hl : cs.length = 34 := trod_len Try.underlying36 hf (by kernel_rfl)
  obtain ⟨_, _, h0⟩ := trod_field Try.underlying36 hf 0 _ 0 33 rfl rfl rfl (by kernel_rfl)
  obtain ⟨_, _, h1⟩ := trod_field Try.underlying36 hf 1 _ 33 1 rfl rfl rfl (by kernel_rfl)
  obtain ⟨c, kc, ec⟩ := trod_cp h0
  obtain ⟨v, l, hi, ev, hw⟩ := trod_ints Try.underlying29 Try.underlying22 (by kernel_rfl) h1
  refine ⟨⟨c, v⟩, l, kc, ⟨hi, fun x hx => wf_u64 (hw x hx)⟩, ?_⟩
  have e : cs = cs.drop 0 := rfl
  rw [e, cut_at cs 0 33 33 rfl, cut_at cs 33 1 34 rfl, List.drop_eq_nil_of_le (i := 34) (by omega), ec, ev]
  simp [flatP, TbD.parts]
end
end

/-! OpenG -/
section
set_option linter.unusedVariables false
set_option maxRecDepth 100000
open Go.RowKit Go.ChangeShapes Go.WideShapes
section
variable {H : Type} {enc : TypeId × Value → H} {w : World} {base : Nat} {sp : Nat → Bool} {held : Bool}

theorem trod_i64G {fuel : Nat} {cs : List Value} {x : DataW H × List MemPlace} (h : DataW.trod enc Try.prog w base sp held fuel 3 cs = some x) : ∃ n : Int, cs = [.int .i64 n] := by
  obtain ⟨n, h1, _, h2⟩ := DataW.trod_int Try.underlying3 h
  exact ⟨n, h1⟩

theorem trod_limits {fuel : Nat} {cs : List Value} {x : DataW H × List MemPlace} (h : DataW.trod enc Try.prog w base sp held fuel 24 cs = some x) :
    ∃ a b c d e f : Int, cs = [.int .i64 a, .int .i64 b, .int .i64 c, .int .i64 d, .int .i64 e, .int .u64 f] := by
  have hl : cs.length = 6 := trod_len Try.underlying24 h (by kernel_rfl)
  obtain ⟨_, _, h0⟩ := trod_field Try.underlying24 h 0 _ 0 1 rfl rfl rfl (by kernel_rfl)
  obtain ⟨_, _, h1⟩ := trod_field Try.underlying24 h 1 _ 1 1 rfl rfl rfl (by kernel_rfl)
  obtain ⟨_, _, h2⟩ := trod_field Try.underlying24 h 2 _ 2 1 rfl rfl rfl (by kernel_rfl)
  obtain ⟨_, _, h3⟩ := trod_field Try.underlying24 h 3 _ 3 1 rfl rfl rfl (by kernel_rfl)
  obtain ⟨_, _, h4⟩ := trod_field Try.underlying24 h 4 _ 4 1 rfl rfl rfl (by kernel_rfl)
  obtain ⟨_, _, h5⟩ := trod_field Try.underlying24 h 5 _ 5 1 rfl rfl rfl (by kernel_rfl)
  obtain ⟨a, e0⟩ := trod_i64G h0
  obtain ⟨b, e1⟩ := trod_i64G h1
  obtain ⟨c, e2⟩ := trod_i64G h2
  obtain ⟨d, e3⟩ := trod_i64G h3
  obtain ⟨e, e4⟩ := trod_i64G h4
  obtain ⟨f, _, e5⟩ := trod_u64 h5
  refine ⟨a, b, c, d, e, f, ?_⟩
  have e' : cs = cs.drop 0 := rfl
  rw [e', cut_at cs 0 1 1 rfl, cut_at cs 1 1 2 rfl, cut_at cs 2 1 3 rfl, cut_at cs 3 1 4 rfl, cut_at cs 4 1 5 rfl, cut_at cs 5 1 6 rfl, List.drop_eq_nil_of_le (i := 6) (by omega), e0, e1, e2, e3, e4, e5]
  rfl

theorem open_config {r : Reach} {base' : Nat} {v : Value} {d : DataW H} {p : List MemPlace} (hv : Value.okWide Try.prog w r base' 31 v) (h : DataW.Trod enc Try.prog w base sp held 31 v d p) :
    ∃ (X : Array Value) (lim : Int) (gen : List Int) (y : Value) (l : List Int), CfI X lim gen y ∧ NumsV w y l ∧ v = .agg X := by
  obtain ⟨cs, fuel, rfl, hf⟩ := open_struct Try.underlying31 hv h
  obtain ⟨cs⟩ := cs
  simp only at hf
  have hl : cs.length = 45 := trod_len Try.underlying31 hf (by kernel_rfl)
  obtain ⟨_, _, h0⟩ := trod_field Try.underlying31 hf 0 _ 0 6 rfl rfl rfl (by kernel_rfl)
  obtain ⟨_, _, h1⟩ := trod_field Try.underlying31 hf 1 _ 6 1 rfl rfl rfl (by kernel_rfl)
  obtain ⟨_, _, h2⟩ := trod_field Try.underlying31 hf 2 _ 7 1 rfl rfl rfl (by kernel_rfl)
  obtain ⟨_, _, h3⟩ := trod_field Try.underlying31 hf 3 _ 8 4 rfl rfl rfl (by kernel_rfl)
  obtain ⟨_, _, h4⟩ := trod_field Try.underlying31 hf 4 _ 12 32 rfl rfl rfl (by kernel_rfl)
  obtain ⟨_, _, h5⟩ := trod_field Try.underlying31 hf 5 _ 44 1 rfl rfl rfl (by kernel_rfl)
  obtain ⟨a0, a1, a2, a3, a4, a5, e0⟩ := trod_limits h0
  obtain ⟨b1, _, e1⟩ := trod_u64 h1
  obtain ⟨b2, _, e2⟩ := trod_u64 h2
  obtain ⟨ws, e3, hw4, _⟩ := ints_of_trod Try.underlying26 Try.underlying22 (by kernel_rfl) (by kernel_rfl) h3
  obtain ⟨gen, hg, e4⟩ := trod_bytes32 Try.underlying28 (by kernel_rfl) h4
  obtain ⟨y, l, hi, e5, hw⟩ := trod_ints Try.underlying29 Try.underlying22 (by kernel_rfl) h5
  have ec : cs = [.int .i64 a0, .int .i64 a1, .int .i64 a2, .int .i64 a3, .int .i64 a4, .int .u64 a5, .int .u64 b1, .int .u64 b2] ++ (ws.map (Value.int .u64)) ++ bytesL gen ++ [y] := by
    have e : cs = cs.drop 0 := rfl
    rw [e, cut_at cs 0 6 6 rfl, cut_at cs 6 1 7 rfl, cut_at cs 7 1 8 rfl, cut_at cs 8 4 12 rfl, cut_at cs 12 32 44 rfl, cut_at cs 44 1 45 rfl, List.drop_eq_nil_of_le (i := 45) (by omega), e0, e1, e2, e3, e4, e5]
    simp
  have hlg := bytesL_len hg
  have hy1 : y.oneCell' = true := by obtain ⟨a, n, k, rfl, _⟩ := hi; rfl
  refine ⟨cs.toArray, a3, gen, y, l, ⟨by simpa using hl, ?_, ?_, ?_, ?_, hg⟩, ⟨hi, fun x hx => wf_u64 (hw x hx)⟩, rfl⟩
  · intro z hz
    have hz' : z ∈ cs := by simpa using hz
    rw [ec] at hz'
    simp only [List.mem_append, List.mem_cons, List.not_mem_nil, or_false, List.mem_map] at hz'
    rcases hz' with ((((rfl | rfl | rfl | rfl | rfl | rfl | rfl | rfl) | ⟨x, _, rfl⟩) | hz') | rfl)
    all_goals first | rfl | exact hy1 | exact bytesL_one _ z hz'
  · rw [List.getElem?_toArray, ec]; rfl
  · intro j v hj
    have hjl : j < 32 := by rw [← hlg]; exact (List.getElem?_eq_some_iff.1 hj).1
    rw [List.getElem?_toArray, ec, List.getElem?_append_left (by simp [hw4, hlg]; omega), List.getElem?_append_right (by simp [hw4])]
    simp only [List.length_append, List.length_cons, List.length_nil, List.length_map, hw4]
    rw [show 12 + j - (0 + 1 + 1 + 1 + 1 + 1 + 1 + 1 + 1 + 4) = j from by omega]
    exact hj
  · rw [List.getElem?_toArray, ec, List.getElem?_append_right (by simp [hw4, hlg])]
    simp [hw4, hlg]
end
end

end Go.Proofs.Ytcbjjafjomdklaa
