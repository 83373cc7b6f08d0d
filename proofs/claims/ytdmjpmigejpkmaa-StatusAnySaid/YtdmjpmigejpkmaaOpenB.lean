/- Parameters that are blocks and trees. -/
import Derived.Test.YtdmjpmigejpkmaaOpen
import Derived.Test.YtdmjpmigejpkmaaOpenT
import Derived.Test.YtdmjpmigejpkmaaNd
import Derived.Test.YtdmjpmigejpkmaaOwL
import Derived.ChangeSlices
import Derived.ChangeArms
set_option linter.unusedVariables false

set_option maxRecDepth 100000
namespace Go.Proofs.Ytdmjpmigejpkmaa
open Go.RowKit Go.ChangeShapes Go.WideShapes
section
variable {H : Type} {enc : TypeId × Value → H} {w : World} {base : Nat} {sp : Nat → Bool} {held : Bool}

theorem trod_wide {fuel : Nat} {cs : List Value} {x : DataW H × List MemPlace} (h : DataW.trod enc Try.prog w base sp held fuel 37 cs = some x) : ∃ n, W256 n ∧ cs = wideL n := by
  obtain ⟨xs, h1, h2, h3⟩ := ints_of_trod Try.underlying37 Try.underlying29 (by kernel_rfl) (by kernel_rfl) h
  match xs, h2 with
  | [x0, x1, x2, x3], _ =>
    have r0 := wf_u64 (h3 x0 (by simp))
    have r1 := wf_u64 (h3 x1 (by simp))
    have r2 := wf_u64 (h3 x2 (by simp))
    have r3 := wf_u64 (h3 x3 (by simp))
    refine ⟨x0 + x1 * 18446744073709551616 + x2 * 340282366920938463463374607431768211456 + x3 * 6277101735386680763835789423207666416102355444464034512896, ?_, ?_⟩
    · unfold W256; omega
    · rw [h1]
      simp only [wideL, l0, l1, l2, l3, List.map_cons, List.map_nil, List.cons.injEq, Value.int.injEq, true_and, and_true]
      refine ⟨?_, ?_, ?_, ?_⟩ <;> omega

theorem trod_block {fuel : Nat} {cs : List Value} {x : DataW H × List MemPlace} (hf : DataW.trod enc Try.prog w base sp held fuel 39 cs = some x) : ∃ x : BkD, x.ok ∧ cs = x.parts.flatten := by
  have hl : cs.length = 238 := trod_len Try.underlying39 hf (by kernel_rfl)
  obtain ⟨_, _, h0⟩ := trod_field Try.underlying39 hf 0 _ 0 66 rfl rfl rfl (by kernel_rfl)
  obtain ⟨_, _, h1⟩ := trod_field Try.underlying39 hf 1 _ 66 1 rfl rfl rfl (by kernel_rfl)
  obtain ⟨_, _, h2⟩ := trod_field Try.underlying39 hf 2 _ 67 32 rfl rfl rfl (by kernel_rfl)
  obtain ⟨_, _, h3⟩ := trod_field Try.underlying39 hf 3 _ 99 32 rfl rfl rfl (by kernel_rfl)
  obtain ⟨_, _, h4⟩ := trod_field Try.underlying39 hf 4 _ 131 32 rfl rfl rfl (by kernel_rfl)
  obtain ⟨_, _, h5⟩ := trod_field Try.underlying39 hf 5 _ 163 4 rfl rfl rfl (by kernel_rfl)
  obtain ⟨_, _, h6⟩ := trod_field Try.underlying39 hf 6 _ 167 4 rfl rfl rfl (by kernel_rfl)
  obtain ⟨_, _, h7⟩ := trod_field Try.underlying39 hf 7 _ 171 33 rfl rfl rfl (by kernel_rfl)
  obtain ⟨_, _, h8⟩ := trod_field Try.underlying39 hf 8 _ 204 33 rfl rfl rfl (by kernel_rfl)
  obtain ⟨_, _, h9⟩ := trod_field Try.underlying39 hf 9 _ 237 1 rfl rfl rfl (by kernel_rfl)
  have hl0 : ((cs.drop 0).take 66).length = 66 := by simp; omega
  obtain ⟨_, _, ha⟩ := trod_field Try.underlying35 h0 0 _ 0 33 rfl rfl rfl (by kernel_rfl)
  obtain ⟨_, _, hb⟩ := trod_field Try.underlying35 h0 1 _ 33 33 rfl rfl rfl (by kernel_rfl)
  obtain ⟨pj, kpj, epj⟩ := trod_cp ha
  obtain ⟨pf, kpf, epf⟩ := trod_cp hb
  obtain ⟨sl, ksl, esl⟩ := trod_u64 h1
  obtain ⟨r1, kr1, er1⟩ := trod_bytes32 Try.underlying31 (by kernel_rfl) h2
  obtain ⟨r2, kr2, er2⟩ := trod_bytes32 Try.underlying31 (by kernel_rfl) h3
  obtain ⟨r3, kr3, er3⟩ := trod_bytes32 Try.underlying31 (by kernel_rfl) h4
  obtain ⟨d1, kd1, ed1⟩ := trod_wide h5
  obtain ⟨d2, kd2, ed2⟩ := trod_wide h6
  obtain ⟨j, kj, ej⟩ := trod_cp h7
  obtain ⟨f, kf, ef⟩ := trod_cp h8
  obtain ⟨b, eb, _⟩ := DataW.trod_bool Try.underlying4 h9
  refine ⟨⟨pj, pf, sl, r1, r2, r3, d1, d2, j, f, b⟩, ⟨kpj, kpf, ksl, kr1, kr2, kr3, kd1, kd2, kj, kf⟩, ?_⟩
  have hp : (cs.drop 0).take 66 = pj.cells ++ (pf.cells ++ []) := by
    have e : (cs.drop 0).take 66 = ((cs.drop 0).take 66).drop 0 := rfl
    rw [e, cut_at ((cs.drop 0).take 66) 0 33 33 rfl, cut_at ((cs.drop 0).take 66) 33 33 66 rfl, List.drop_eq_nil_of_le (i := 66) (by omega), epj, epf]
  have e : cs = cs.drop 0 := rfl
  have hc : cs = pj.cells ++ (pf.cells ++ []) ++ ([.int .u64 sl] ++ (bytesL r1 ++ (bytesL r2 ++ (bytesL r3 ++ (wideL d1 ++ (wideL d2 ++ (j.cells ++ (f.cells ++ ([.bool b] ++ []))))))))) := by
    rw [e, cut_at cs 0 66 66 rfl, cut_at cs 66 1 67 rfl, cut_at cs 67 32 99 rfl, cut_at cs 99 32 131 rfl, cut_at cs 131 32 163 rfl, cut_at cs 163 4 167 rfl, cut_at cs 167 4 171 rfl, cut_at cs 171 33 204 rfl, cut_at cs 204 33 237 rfl, cut_at cs 237 1 238 rfl,
      List.drop_eq_nil_of_le (i := 238) (by omega), hp, esl, er1, er2, er3, ed1, ed2, ej, ef, eb]
  rw [hc]
  simp [BkD.parts]

theorem open_block {r : Reach} {base' : Nat} {v : Value} {d : DataW H} {p : List MemPlace} (hv : Value.okWide Try.prog w r base' 39 v) (h : DataW.Trod enc Try.prog w base sp held 39 v d p) : ∃ x : BkD, x.ok ∧ v = .agg (flatP x.parts) := by
  obtain ⟨cs, fuel, rfl, hf⟩ := open_struct Try.underlying39 hv h
  obtain ⟨cs⟩ := cs
  simp only at hf
  obtain ⟨x, hx, e⟩ := trod_block hf
  exact ⟨x, hx, by rw [e]; rfl⟩

theorem trod_int64 {fuel : Nat} {cs : List Value} {x : DataW H × List MemPlace} (h : DataW.trod enc Try.prog w base sp held fuel 3 cs = some x) : ∃ n : Int, (-9223372036854775808 ≤ n ∧ n ≤ 9223372036854775807) ∧ cs = [.int .i64 n] := by
  obtain ⟨n, h1, _, h2⟩ := DataW.trod_int Try.underlying3 h
  exact ⟨n, wf_i64 h2, h1⟩

theorem trod_node {fuel : Nat} {cs : List Value} {x : DataW H × List MemPlace} (hf : DataW.trod enc Try.prog w base sp held fuel 41 cs = some x) : ∃ x : NdD, x.ok ∧ cs = x.cells := by
  have hl : cs.length = 240 := trod_len Try.underlying41 hf (by kernel_rfl)
  obtain ⟨_, _, h0⟩ := trod_field Try.underlying41 hf 0 _ 0 238 rfl rfl rfl (by kernel_rfl)
  obtain ⟨_, _, h1⟩ := trod_field Try.underlying41 hf 1 _ 238 1 rfl rfl rfl (by kernel_rfl)
  obtain ⟨_, _, h2⟩ := trod_field Try.underlying41 hf 2 _ 239 1 rfl rfl rfl (by kernel_rfl)
  obtain ⟨b, kb, eb⟩ := trod_block h0
  obtain ⟨u, ku, eu⟩ := trod_int64 h1
  obtain ⟨s, ks, es⟩ := trod_int64 h2
  refine ⟨⟨b, u, s⟩, ⟨kb, ku, ks⟩, ?_⟩
  have e : cs = cs.drop 0 := rfl
  rw [e, cut_at cs 0 238 238 rfl, cut_at cs 238 1 239 rfl, cut_at cs 239 1 240 rfl, List.drop_eq_nil_of_le (i := 240) (by omega), eb, eu, es]
  simp [NdD.cells]

theorem list_ofN {α : Type} {P : Nat → α → Prop} : ∀ (len : Nat), (∀ i, i < len → ∃ n, P i n) → ∃ ns : List α, ns.length = len ∧ ∀ i (hi : i < ns.length), P i ns[i]
  | 0, _ => ⟨[], rfl, fun i hi => absurd hi (Nat.not_lt_zero _)⟩
  | len + 1, h => by
    obtain ⟨ns, hl, hP⟩ := list_ofN len (fun i hi => h i (by omega))
    obtain ⟨n, hn⟩ := h len (by omega)
    refine ⟨ns ++ [n], by simp [hl], fun i hi => ?_⟩
    by_cases hi' : i < ns.length
    · rw [List.getElem_append_left hi']; exact hP i hi'
    · obtain rfl : i = len := by simp at hi; omega
      rw [List.getElem_append_right (by omega)]
      simpa [hl] using hn

theorem open_tree {r : Reach} {base' : Nat} {v : Value} {d : DataW H} {p : List MemPlace} (hv : Value.okWide Try.prog w r base' 25 v) (h : DataW.Trod enc Try.prog w base sp held 25 v d p) : ∃ (y : Value) (ns : List NdD), NodesV w y ns ∧ CapOK y ∧ v = .agg #[y] := by
  obtain ⟨cs, fuel, rfl, hf⟩ := open_struct Try.underlying25 hv h
  obtain ⟨cs⟩ := cs
  simp only at hf
  have hl : cs.length = 1 := trod_len Try.underlying25 hf (by kernel_rfl)
  obtain ⟨_, _, h0⟩ := trod_field Try.underlying25 hf 0 _ 0 1 rfl rfl rfl (by kernel_rfl)
  have e0 : (cs.drop 0).take 1 = cs := by rw [List.drop_zero, List.take_of_length_le (by omega)]
  rw [e0] at h0
  have hsz : Try.prog.cellsOf 41 = 240 := by kernel_rfl
  rcases DataW.trod_slice Try.underlying23 h0 with ⟨hcs, _⟩ | ⟨a', len, cap, elems, rest, m, _, hcs, _, hb, hlc, hm, hlen, hel, _, _⟩
  · subst hcs
    exact ⟨.slice none 0 0, [], ⟨none, 0, rfl, Nat.zero_le _, .inl rfl⟩, CapOK.nil, rfl⟩
  · subst hcs
    refine ⟨.slice (some a') len cap, ?_⟩
    have each (i : Nat) (hi : i < len) : ∃ n : NdD, n.ok ∧ ∀ j, j < 240 → w.cell? ((a'.add (i * 240)).add j) = n.cells[j]? := by
      have h1 := hel i hi
      rw [hsz, List.getElem?_eq_getElem (by omega), Option.bind_eq_some_iff] at h1
      obtain ⟨cs', hcs, hy⟩ := h1
      obtain ⟨n, hn, rfl⟩ := trod_node hy
      obtain ⟨_, _, hcell⟩ := World.cells?_some hcs
      refine ⟨n, hn, fun j hj => ?_⟩
      have := hcell j (by simpa [NdD.len hn] using hj)
      rw [this]
    obtain ⟨ns, hnl, hns⟩ := list_ofN len each
    have hmx : len ≤ maxLen := by omega
    refine ⟨ns, ⟨some a', cap, by rw [hnl], by omega, ?_⟩, (fun a n c e => by cases e; exact hlc), rfl⟩
    by_cases hz : len = 0
    · exact .inl (by omega)
    · right
      obtain ⟨b, off, spot⟩ := a'
      have hp0 : 0 < ns.length := by omega
      obtain ⟨hok0, hc0⟩ := hns 0 hp0
      have hc00 := hc0 0 (by omega)
      have hl0 := NdD.len hok0
      rw [List.getElem?_eq_getElem (by omega)] at hc00
      have hspot : spot = none := by simpa [Addr.add] using World.cell?_spot hc00
      subst hspot
      have hszs : ∀ X ∈ ns.map (fun n => n.cells.toArray), X.size = 240 := by
        intro X hX
        obtain ⟨n, hn, rfl⟩ := List.mem_map.1 hX
        obtain ⟨i, hi, rfl⟩ := List.mem_iff_getElem.1 hn
        rw [List.size_toArray, NdD.len (hns i hi).1]
      refine ⟨b, off, rfl, ?_, ns.map (fun n => n.cells.toArray), fun j x hx => ?_, by simp, fun q hq => ?_⟩
      · have := cell_lt hc00
        simpa [Addr.add] using this
      · have hj : j < ns.length * 240 := by
          have := (List.getElem?_eq_some_iff.1 hx).1
          rw [rowsL_len hszs, List.length_map] at this
          exact this
        have hd : j / 240 < ns.length := by omega
        have hr : j % 240 < 240 := Nat.mod_lt _ (by omega)
        have hdm : j = j / 240 * 240 + j % 240 := by omega
        have h2 := (hns (j / 240) hd).2 (j % 240) hr
        rw [Go.WideShapes.add_plain, Go.WideShapes.add_plain] at h2
        have h3 := rowsL_at hszs (i := j / 240) (by simpa using hd) hr
        rw [← hdm, hx] at h3
        rw [show off + j = off + j / 240 * 240 + j % 240 by omega, h2]
        simpa using h3.symm
      · obtain ⟨i, hi, rfl⟩ := List.mem_iff_getElem.1 hq
        have hi' : i < ns.length := by simpa using hi
        simp only [List.getElem_zip, List.getElem_map]
        exact ⟨rfl, (hns i hi').1⟩
end
end Go.Proofs.Ytdmjpmigejpkmaa
