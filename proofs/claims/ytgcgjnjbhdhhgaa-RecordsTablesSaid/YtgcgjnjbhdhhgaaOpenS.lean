/- Parameters that are records of api. -/
import Derived.Test.YtgcgjnjbhdhhgaaOpen
import Derived.Test.YtgcgjnjbhdhhgaaRcD
import Derived.ChangeSlices
import Derived.ChangeArms
set_option linter.unusedVariables false
set_option maxRecDepth 100000
namespace Go.Proofs.Ytgcgjnjbhdhhgaa
open Go.RowKit Go.ChangeShapes Go.WideShapes

section
variable {H : Type} {enc : TypeId × Value → H} {w : World} {base : Nat} {sp : Nat → Bool} {held : Bool}

theorem trod_field {P : Program} {t ty : TypeId} {fs : Array Field} {fuel : Nat} {cs : List Value} {x : DataW H × List MemPlace} (ht : P.underlying t = some (.struct fs)) (h : DataW.trod enc P w base sp held fuel t cs = some x) (i : Nat) (f : Field) (o n : Nat) (hf : fs[i]? = some f)
    (h1 : f.type = ty) (h2 : f.offset = o) (h3 : P.cellsOf ty = n) : ∃ m y, DataW.trod enc P w base sp held m ty ((cs.drop o).take n) = some y := by
  obtain ⟨xs, m, _, _, _, hlen, hall⟩ := DataW.trod_struct ht h
  have := hall i f hf
  have hi : i < xs.length := by rw [hlen]; exact (Array.getElem?_eq_some_iff.1 hf).1
  rw [h1, h2, h3, List.getElem?_eq_getElem hi] at this
  exact ⟨m, _, this⟩

theorem trod_len {P : Program} {t : TypeId} {fs : Array Field} {fuel : Nat} {cs : List Value} {x : DataW H × List MemPlace} (ht : P.underlying t = some (.struct fs)) (h : DataW.trod enc P w base sp held fuel t cs = some x) {n : Nat} (hn : P.cellsOf t = n) : cs.length = n := by
  obtain ⟨xs, m, _, _, hl, _⟩ := DataW.trod_struct ht h
  rw [hl, hn]

theorem cut_at {α : Type} (cs : List α) (o n m : Nat) (h : o + n = m) : cs.drop o = (cs.drop o).take n ++ cs.drop m := by
  rw [← h, ← List.drop_drop, List.take_append_drop]

theorem trod_bytes32 {t : TypeId} {fuel : Nat} {cs : List Value} {x : DataW H × List MemPlace} (ht : Try.prog.underlying t = some (.array 32 5)) (hct : Try.prog.cellsOf t = 32) (h : DataW.trod enc Try.prog w base sp held fuel t cs = some x) : ∃ xs, IsBytes 32 xs ∧ cs = bytesL xs := by
  obtain ⟨xs, h1, h2, h3⟩ := ints_of_trod ht Try.underlying5 (by kernel_rfl) hct h
  exact ⟨xs, ⟨h2, h3⟩, h1⟩

theorem trod_wide {fuel : Nat} {cs : List Value} {x : DataW H × List MemPlace} (h : DataW.trod enc Try.prog w base sp held fuel 35 cs = some x) : ∃ n, W256 n ∧ cs = wideL n := by
  obtain ⟨xs, h1, h2, h3⟩ := ints_of_trod Try.underlying35 Try.underlying27 (by kernel_rfl) (by kernel_rfl) h
  match xs, h2 with
  | [x0, x1, x2, x3], _ =>
    have r0 := wf_u64 (h3 x0 (by simp))
    have r1 := wf_u64 (h3 x1 (by simp))
    have r2 := wf_u64 (h3 x2 (by simp))
    have r3 := wf_u64 (h3 x3 (by simp))
    refine ⟨x0 + x1 * 18446744073709551616 + x2 * 340282366920938463463374607431768211456 + x3 * 6277101735386680763835789423207666416102355444464034512896, ?_, ?_⟩
    · unfold W256; omega
    · rw [h1]
      simp only [wideL, l0, l1, l2, l3, List.map_cons, List.map_nil, List.cons.injEq, Value.int.injEq, true_and, and_true]
      refine ⟨?_, ?_, ?_, ?_⟩ <;> omega

theorem trod_u64 {fuel : Nat} {cs : List Value} {x : DataW H × List MemPlace} (h : DataW.trod enc Try.prog w base sp held fuel 27 cs = some x) : ∃ n : Int, (0 ≤ n ∧ n ≤ 18446744073709551615) ∧ cs = [.int .u64 n] := by
  obtain ⟨n, h1, _, h2⟩ := DataW.trod_int Try.underlying27 h
  exact ⟨n, wf_u64 h2, h1⟩

theorem trod_cp {fuel : Nat} {cs : List Value} {x : DataW H × List MemPlace} (h : DataW.trod enc Try.prog w base sp held fuel 31 cs = some x) : ∃ c : CpD, c.ok ∧ cs = c.cells := by
  have hl : cs.length = 33 := trod_len Try.underlying31 h (by kernel_rfl)
  obtain ⟨_, _, h0⟩ := trod_field Try.underlying31 h 0 _ 0 1 rfl rfl rfl (by kernel_rfl)
  obtain ⟨_, _, h1⟩ := trod_field Try.underlying31 h 1 _ 1 32 rfl rfl rfl (by kernel_rfl)
  obtain ⟨n, hn, e0⟩ := trod_u64 h0
  obtain ⟨r, hr, e1⟩ := trod_bytes32 Try.underlying29 (by kernel_rfl) h1
  refine ⟨⟨n, r⟩, ⟨hn.1, hn.2, hr⟩, ?_⟩
  have e : cs = cs.drop 0 := rfl
  rw [e, cut_at cs 0 1 1 rfl, cut_at cs 1 32 33 rfl, List.drop_eq_nil_of_le (i := 33) (by omega), e0, e1]
  simp [CpD.cells]

theorem open_struct {t : TypeId} {r : Reach} {base' : Nat} {fs : Array Field} {v : Value} {d : DataW H} {p : List MemPlace} (ht : Try.prog.underlying t = some (.struct fs)) (hv : Value.okWide Try.prog w r base' t v) (h : DataW.Trod enc Try.prog w base sp held t v d p) :
    ∃ cs fuel, v = .agg cs ∧ DataW.trod enc Try.prog w base sp held fuel t cs.toList = some (d, p) := by
  obtain ⟨cs, rfl, _⟩ := okWide_struct ht hv
  obtain ⟨fuel, hf⟩ := h
  exact ⟨cs, fuel, rfl, hf⟩

theorem trod_ints {t e : TypeId} {k : IntKind} {fuel : Nat} {cs : List Value} {x : DataW H × List MemPlace} (ht : Try.prog.underlying t = some (.slice e)) (he : Try.prog.underlying e = some (.int k)) (hc : Try.prog.cellsOf e = 1)
    (h : DataW.trod enc Try.prog w base sp held fuel t cs = some x) : ∃ v l, Ints k w v l ∧ cs = [v] ∧ ∀ n ∈ l, (Lit.int k n).wf = true := by
  rcases open_ints ht he hc h with ⟨hcs, _⟩ | ⟨x, l, c, zs, hcs, _, hl, hm, hz, _, hcell, hwz⟩
  · exact ⟨_, [], ⟨none, 0, 0, rfl, rfl, Nat.zero_le _, .inl rfl⟩, hcs, by simp⟩
  · have hll : l ≤ zs.length := by rw [hz]; split <;> omega
    refine ⟨_, zs.take l, ⟨_, _, _, rfl, by simp; omega, by omega, ?_⟩, hcs, fun n hn => hwz n (List.mem_of_mem_take hn)⟩
    by_cases h0 : l = 0
    · exact .inl h0
    · obtain ⟨b, off, rfl, hc'⟩ := Go.ints_at hcell (by omega)
      refine .inr ⟨b, off, rfl, cell_lt (hc' 0 (by omega)), fun i hi => ?_⟩
      rw [hc' i (by omega)]
      simp [List.getD, hi]

theorem open_block {r : Reach} {base' : Nat} {v : Value} {d : DataW H} {p : List MemPlace} (hv : Value.okWide Try.prog w r base' 37 v) (h : DataW.Trod enc Try.prog w base sp held 37 v d p) : ∃ x : BkD, x.ok ∧ v = .agg (flatP x.parts) := by
  obtain ⟨cs, fuel, rfl, hf⟩ := open_struct Try.underlying37 hv h
  obtain ⟨cs⟩ := cs
  simp only at hf
  have hl : cs.length = 238 := trod_len Try.underlying37 hf (by kernel_rfl)
  obtain ⟨_, _, h0⟩ := trod_field Try.underlying37 hf 0 _ 0 66 rfl rfl rfl (by kernel_rfl)
  obtain ⟨_, _, h1⟩ := trod_field Try.underlying37 hf 1 _ 66 1 rfl rfl rfl (by kernel_rfl)
  obtain ⟨_, _, h2⟩ := trod_field Try.underlying37 hf 2 _ 67 32 rfl rfl rfl (by kernel_rfl)
  obtain ⟨_, _, h3⟩ := trod_field Try.underlying37 hf 3 _ 99 32 rfl rfl rfl (by kernel_rfl)
  obtain ⟨_, _, h4⟩ := trod_field Try.underlying37 hf 4 _ 131 32 rfl rfl rfl (by kernel_rfl)
  obtain ⟨_, _, h5⟩ := trod_field Try.underlying37 hf 5 _ 163 4 rfl rfl rfl (by kernel_rfl)
  obtain ⟨_, _, h6⟩ := trod_field Try.underlying37 hf 6 _ 167 4 rfl rfl rfl (by kernel_rfl)
  obtain ⟨_, _, h7⟩ := trod_field Try.underlying37 hf 7 _ 171 33 rfl rfl rfl (by kernel_rfl)
  obtain ⟨_, _, h8⟩ := trod_field Try.underlying37 hf 8 _ 204 33 rfl rfl rfl (by kernel_rfl)
  obtain ⟨_, _, h9⟩ := trod_field Try.underlying37 hf 9 _ 237 1 rfl rfl rfl (by kernel_rfl)
  have hl0 : ((cs.drop 0).take 66).length = 66 := by simp; omega
  obtain ⟨_, _, ha⟩ := trod_field Try.underlying33 h0 0 _ 0 33 rfl rfl rfl (by kernel_rfl)
  obtain ⟨_, _, hb⟩ := trod_field Try.underlying33 h0 1 _ 33 33 rfl rfl rfl (by kernel_rfl)
  obtain ⟨pj, kpj, epj⟩ := trod_cp ha
  obtain ⟨pf, kpf, epf⟩ := trod_cp hb
  obtain ⟨sl, ksl, esl⟩ := trod_u64 h1
  obtain ⟨r1, kr1, er1⟩ := trod_bytes32 Try.underlying29 (by kernel_rfl) h2
  obtain ⟨r2, kr2, er2⟩ := trod_bytes32 Try.underlying29 (by kernel_rfl) h3
  obtain ⟨r3, kr3, er3⟩ := trod_bytes32 Try.underlying29 (by kernel_rfl) h4
  obtain ⟨d1, kd1, ed1⟩ := trod_wide h5
  obtain ⟨d2, kd2, ed2⟩ := trod_wide h6
  obtain ⟨j, kj, ej⟩ := trod_cp h7
  obtain ⟨f, kf, ef⟩ := trod_cp h8
  obtain ⟨b, eb, _⟩ := DataW.trod_bool Try.underlying4 h9
  refine ⟨⟨pj, pf, sl, r1, r2, r3, d1, d2, j, f, b⟩, ⟨kpj, kpf, ksl, kr1, kr2, kr3, kd1, kd2, kj, kf⟩, ?_⟩
  have hp : (cs.drop 0).take 66 = pj.cells ++ (pf.cells ++ []) := by
    have e : (cs.drop 0).take 66 = ((cs.drop 0).take 66).drop 0 := rfl
    rw [e, cut_at ((cs.drop 0).take 66) 0 33 33 rfl, cut_at ((cs.drop 0).take 66) 33 33 66 rfl, List.drop_eq_nil_of_le (i := 66) (by omega), epj, epf]
  have e : cs = cs.drop 0 := rfl
  have hc : cs = pj.cells ++ (pf.cells ++ []) ++ ([.int .u64 sl] ++ (bytesL r1 ++ (bytesL r2 ++ (bytesL r3 ++ (wideL d1 ++ (wideL d2 ++ (j.cells ++ (f.cells ++ ([.bool b] ++ []))))))))) := by
    rw [e, cut_at cs 0 66 66 rfl, cut_at cs 66 1 67 rfl, cut_at cs 67 32 99 rfl, cut_at cs 99 32 131 rfl, cut_at cs 131 32 163 rfl, cut_at cs 163 4 167 rfl, cut_at cs 167 4 171 rfl, cut_at cs 171 33 204 rfl, cut_at cs 204 33 237 rfl, cut_at cs 237 1 238 rfl,
      List.drop_eq_nil_of_le (i := 238) (by omega), hp, esl, er1, er2, er3, ed1, ed2, ej, ef, eb]
  rw [hc]
  simp [flatP, BkD.parts]

theorem open_attestation {r : Reach} {base' : Nat} {v : Value} {d : DataW H} {p : List MemPlace} (hv : Value.okWide Try.prog w r base' 45 v) (h : DataW.Trod enc Try.prog w base sp held 45 v d p) :
    ∃ (x : AtD) (l : List Int), x.ok ∧ IntsV w x.v l ∧ v = .agg (flatP x.parts) := by
  obtain ⟨cs, fuel, rfl, hf⟩ := open_struct Try.underlying45 hv h
  obtain ⟨cs⟩ := cs
  simp only at hf
  have hl : cs.length = 67 := trod_len Try.underlying45 hf (by kernel_rfl)
  obtain ⟨_, _, h0⟩ := trod_field Try.underlying45 hf 0 _ 0 1 rfl rfl rfl (by kernel_rfl)
  obtain ⟨_, _, h1⟩ := trod_field Try.underlying45 hf 1 _ 1 32 rfl rfl rfl (by kernel_rfl)
  obtain ⟨_, _, h2⟩ := trod_field Try.underlying45 hf 2 _ 33 33 rfl rfl rfl (by kernel_rfl)
  obtain ⟨_, _, h3⟩ := trod_field Try.underlying45 hf 3 _ 66 1 rfl rfl rfl (by kernel_rfl)
  obtain ⟨sl, ksl, esl⟩ := trod_u64 h0
  obtain ⟨r1, kr1, er1⟩ := trod_bytes32 Try.underlying29 (by kernel_rfl) h1
  obtain ⟨c, kc, ec⟩ := trod_cp h2
  obtain ⟨v, l, hi, ev, hw⟩ := trod_ints Try.underlying22 Try.underlying3 (by kernel_rfl) h3
  refine ⟨⟨sl, r1, c, v⟩, l, ⟨ksl, kr1, kc⟩, ⟨hi, fun x hx => wf_i64 (hw x hx)⟩, ?_⟩
  have e : cs = cs.drop 0 := rfl
  rw [e, cut_at cs 0 1 1 rfl, cut_at cs 1 32 33 rfl, cut_at cs 33 33 66 rfl, cut_at cs 66 1 67 rfl, List.drop_eq_nil_of_le (i := 67) (by omega), esl, er1, ec, ev]
  simp [flatP, AtD.parts]

theorem trod_claim {fuel : Nat} {cs : List Value} {x : DataW H × List MemPlace} (hf : DataW.trod enc Try.prog w base sp held fuel 54 cs = some x) : ∃ (x : ClD) (l : List Int), x.ok ∧ IntsV w x.v l ∧ cs = x.cells := by
  have hl : cs.length = 35 := trod_len Try.underlying54 hf (by kernel_rfl)
  obtain ⟨_, _, h0⟩ := trod_field Try.underlying54 hf 0 _ 0 1 rfl rfl rfl (by kernel_rfl)
  obtain ⟨_, _, h1⟩ := trod_field Try.underlying54 hf 1 _ 1 1 rfl rfl rfl (by kernel_rfl)
  obtain ⟨_, _, h2⟩ := trod_field Try.underlying54 hf 2 _ 2 32 rfl rfl rfl (by kernel_rfl)
  obtain ⟨_, _, h3⟩ := trod_field Try.underlying54 hf 3 _ 34 1 rfl rfl rfl (by kernel_rfl)
  obtain ⟨s1, k1, e1⟩ := trod_u64 h0
  obtain ⟨s2, k2, e2⟩ := trod_u64 h1
  obtain ⟨r1, kr1, er1⟩ := trod_bytes32 Try.underlying29 (by kernel_rfl) h2
  obtain ⟨v, l, hi, ev, hw⟩ := trod_ints Try.underlying22 Try.underlying3 (by kernel_rfl) h3
  refine ⟨⟨s1, s2, r1, v⟩, l, ⟨k1, k2, kr1⟩, ⟨hi, fun x hx => wf_i64 (hw x hx)⟩, ?_⟩
  have e : cs = cs.drop 0 := rfl
  rw [e, cut_at cs 0 1 1 rfl, cut_at cs 1 1 2 rfl, cut_at cs 2 32 34 rfl, cut_at cs 34 1 35 rfl, List.drop_eq_nil_of_le (i := 35) (by omega), e1, e2, er1, ev]
  simp [ClD.cells, ClD.parts]

theorem open_slashing {r : Reach} {base' : Nat} {v : Value} {d : DataW H} {p : List MemPlace} (hv : Value.okWide Try.prog w r base' 56 v) (h : DataW.Trod enc Try.prog w base sp held 56 v d p) :
    ∃ (x y : ClD) (l m : List Int), x.ok ∧ y.ok ∧ IntsV w x.v l ∧ IntsV w y.v m ∧ v = .agg (flatP [x.cells, y.cells]) := by
  obtain ⟨cs, fuel, rfl, hf⟩ := open_struct Try.underlying56 hv h
  obtain ⟨cs⟩ := cs
  simp only at hf
  have hl : cs.length = 70 := trod_len Try.underlying56 hf (by kernel_rfl)
  obtain ⟨_, _, h0⟩ := trod_field Try.underlying56 hf 0 _ 0 35 rfl rfl rfl (by kernel_rfl)
  obtain ⟨_, _, h1⟩ := trod_field Try.underlying56 hf 1 _ 35 35 rfl rfl rfl (by kernel_rfl)
  obtain ⟨x, l, hx, hl1, ex⟩ := trod_claim h0
  obtain ⟨y, m, hy, hm1, ey⟩ := trod_claim h1
  refine ⟨x, y, l, m, hx, hy, hl1, hm1, ?_⟩
  have e : cs = cs.drop 0 := rfl
  rw [e, cut_at cs 0 35 35 rfl, cut_at cs 35 35 70 rfl, List.drop_eq_nil_of_le (i := 70) (by omega), ex, ey]
  simp [flatP]

theorem open_table {r : Reach} {base' : Nat} {v : Value} {d : DataW H} {p : List MemPlace} (hv : Value.okWide Try.prog w r base' 64 v) (h : DataW.Trod enc Try.prog w base sp held 64 v d p) :
    ∃ (x : TbD) (l : List Int), x.cp.ok ∧ NumsV w x.v l ∧ v = .agg (flatP x.parts) := by
  obtain ⟨cs, fuel, rfl, hf⟩ := open_struct Try.underlying64 hv h
  obtain ⟨cs⟩ := cs
  simp only at hf
  have hl : cs.length = 34 := trod_len Try.underlying64 hf (by kernel_rfl)
  obtain ⟨_, _, h0⟩ := trod_field Try.underlying64 hf 0 _ 0 33 rfl rfl rfl (by kernel_rfl)
  obtain ⟨_, _, h1⟩ := trod_field Try.underlying64 hf 1 _ 33 1 rfl rfl rfl (by kernel_rfl)
  obtain ⟨c, kc, ec⟩ := trod_cp h0
  obtain ⟨v, l, hi, ev, hw⟩ := trod_ints Try.underlying62 Try.underlying27 (by kernel_rfl) h1
  refine ⟨⟨c, v⟩, l, kc, ⟨hi, fun x hx => wf_u64 (hw x hx)⟩, ?_⟩
  have e : cs = cs.drop 0 := rfl
  rw [e, cut_at cs 0 33 33 rfl, cut_at cs 33 1 34 rfl, List.drop_eq_nil_of_le (i := 34) (by omega), ec, ev]
  simp [flatP, TbD.parts]

theorem open_verdict {r : Reach} {base' : Nat} {v : Value} {d : DataW H} {p : List MemPlace} (hv : Value.okWide Try.prog w r base' 68 v) (h : DataW.Trod enc Try.prog w base sp held 68 v d p) :
    ∃ x : VdD, x.ok ∧ v = .agg (flatP x.parts) := by
  obtain ⟨cs, fuel, rfl, hf⟩ := open_struct Try.underlying68 hv h
  obtain ⟨cs⟩ := cs
  simp only at hf
  have hl : cs.length = 34 := trod_len Try.underlying68 hf (by kernel_rfl)
  obtain ⟨_, _, h0⟩ := trod_field Try.underlying68 hf 0 _ 0 1 rfl rfl rfl (by kernel_rfl)
  obtain ⟨_, _, h1⟩ := trod_field Try.underlying68 hf 1 _ 1 1 rfl rfl rfl (by kernel_rfl)
  obtain ⟨_, _, h2⟩ := trod_field Try.underlying68 hf 2 _ 2 32 rfl rfl rfl (by kernel_rfl)
  obtain ⟨_, _, h00⟩ := trod_field Try.underlying66 h0 0 _ 0 1 rfl rfl rfl (by kernel_rfl)
  obtain ⟨n, kn, en⟩ := trod_u64 h00
  obtain ⟨k, ek, _, wk⟩ := DataW.trod_int Try.underlying3 h1
  obtain ⟨r1, kr1, er1⟩ := trod_bytes32 Try.underlying29 (by kernel_rfl) h2
  refine ⟨⟨n, k, r1⟩, ⟨kn, wf_i64 wk, kr1⟩, ?_⟩
  have e : cs = cs.drop 0 := rfl
  have en' : (cs.drop 0).take 1 = [.int .u64 n] := by
    rw [← en]; simp [List.take_take]
  rw [e, cut_at cs 0 1 1 rfl, cut_at cs 1 1 2 rfl, cut_at cs 2 32 34 rfl, List.drop_eq_nil_of_le (i := 34) (by omega), en', ek, er1]
  simp [flatP, VdD.parts]
end

end Go.Proofs.Ytgcgjnjbhdhhgaa
