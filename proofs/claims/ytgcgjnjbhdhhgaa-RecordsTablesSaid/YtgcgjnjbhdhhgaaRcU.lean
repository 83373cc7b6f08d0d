/- '==' of two blocks that are one, and of two verdicts. -/
import Derived.Test.YtgcgjnjbhdhhgaaRcQ
import Derived.Test.YtgcgjnjbhdhhgaaRcH
set_option linter.unusedVariables false
set_option maxRecDepth 100000
namespace Go.Proofs.Ytgcgjnjbhdhhgaa
open Go.RowKit

theorem offP_lens' {ps : List (List Value)} {ls : List Nat} (h : ps.map List.length = ls) (k : Nat) : offP ps k = (ls.take k).sum := by
  subst h
  unfold offP
  rw [List.length_flatten, List.map_take]

theorem part_cut {ps : List (List Value)} {k o n : Nat} {p : List Value} (hk : ps[k]? = some p) (ho : offP ps k = o) (hn : p.length = n) : (ps.flatten.drop o).take n = p := by
  rw [flatP_split hk, ← ho, ← hn]
  unfold offP
  rw [List.drop_left, List.take_left]

theorem keyLits_pair {d : Nat} {c e : CpD} (h : c.ok) (k : e.ok) : ∃ ls, Try.prog.keyLits (d + 4) 33 (c.cells ++ e.cells) = some ls := by
  refine keyLits_struct Try.underlying33 (by rw [List.length_append, CpD.len h, CpD.len k]; kernel_rfl) (by kernel_rfl) ?_
  intro f hf
  have hc33 : Try.prog.cellsOf 31 = 33 := by kernel_rfl
  simp only [List.mem_cons, List.not_mem_nil, or_false] at hf
  rcases hf with rfl | rfl
  · show ∃ l, Try.prog.keyLits (d + 3) 31 (((c.cells ++ e.cells).drop 0).take (Try.prog.cellsOf 31)) = some l
    rw [hc33, List.drop_zero, ← CpD.len h, List.take_left]
    exact keyLits_cp h
  · show ∃ l, Try.prog.keyLits (d + 3) 31 (((c.cells ++ e.cells).drop 33).take (Try.prog.cellsOf 31)) = some l
    rw [hc33]
    have : (c.cells ++ e.cells).drop 33 = e.cells := by rw [← CpD.len h, List.drop_left]
    rw [this, ← CpD.len k, List.take_length]
    exact keyLits_cp k

theorem keyLits_wide {d : Nat} (n : Int) : ∃ ls, Try.prog.keyLits (d + 2) 35 (wideL n) = some ls := by
  have hr : ∀ x ∈ [l0 n, l1 n, l2 n, l3 n], (Lit.int .u64 x).wf = true := by
    obtain ⟨p0, p1, p2, p3⟩ := limbs_rng n
    intro x hx
    simp at hx
    rcases hx with rfl | rfl | rfl | rfl <;> exact wf_of_u64 (by assumption)
  exact ⟨_, keyLits_ints Try.underlying35 Try.underlying27 (by kernel_rfl) (by kernel_rfl) d [l0 n, l1 n, l2 n, l3 n] rfl hr⟩

theorem keyLits_blk {x : BkD} (h : x.ok) : ∃ ls, Try.prog.keyLits 5 37 x.parts.flatten = some ls := by
  obtain ⟨h1, h2, hs, h3, h4, h5, _, _, h6, h7⟩ := h
  obtain ⟨ps, hps⟩ : ∃ ps, ps = [x.pj.cells ++ x.pf.cells, [Value.int .u64 x.slot], bytesL x.root, bytesL x.parent, bytesL x.payload, wideL x.d, wideL x.pd, x.j.cells, x.f.cells, [Value.bool x.t]] := ⟨_, rfl⟩
  have hl : ps.map List.length = [66, 1, 32, 32, 32, 4, 4, 33, 33, 1] := by rw [hps]; simp [CpD.len h1, CpD.len h2, bytesL_len h3, bytesL_len h4, bytesL_len h5, wideL, CpD.len h6, CpD.len h7]
  have e : x.parts.flatten = ps.flatten := by rw [hps]; simp [BkD.parts]
  have ho : ∀ k, offP ps k = ([66, 1, 32, 32, 32, 4, 4, 33, 33, 1].take k).sum := fun k => offP_lens' hl k
  have c66 : Try.prog.cellsOf 33 = 66 := by kernel_rfl
  have c1 : Try.prog.cellsOf 27 = 1 := by kernel_rfl
  have c32 : Try.prog.cellsOf 29 = 32 := by kernel_rfl
  have c4 : Try.prog.cellsOf 35 = 4 := by kernel_rfl
  have c33 : Try.prog.cellsOf 31 = 33 := by kernel_rfl
  have cb : Try.prog.cellsOf 4 = 1 := by kernel_rfl
  rw [e]
  refine keyLits_struct Try.underlying37 (by rw [List.length_flatten, hl]; kernel_rfl) (by kernel_rfl) ?_
  intro f hf
  simp only [List.mem_cons, List.not_mem_nil, or_false] at hf
  rcases hf with rfl | rfl | rfl | rfl | rfl | rfl | rfl | rfl | rfl | rfl
  · show ∃ l, Try.prog.keyLits 4 33 ((ps.flatten.drop 0).take (Try.prog.cellsOf 33)) = some l
    rw [c66, part_cut (k := 0) (o := 0) (n := 66) (by rw [hps]; rfl) (ho 0) (by rw [List.length_append, CpD.len h1, CpD.len h2])]
    exact keyLits_pair h1 h2
  · show ∃ l, Try.prog.keyLits 4 27 ((ps.flatten.drop 66).take (Try.prog.cellsOf 27)) = some l
    rw [c1, part_cut (k := 1) (o := 66) (n := 1) (by rw [hps]; rfl) (ho 1) rfl]
    exact keyLits_int Try.underlying27 (wf_of_u64 hs)
  · show ∃ l, Try.prog.keyLits 4 29 ((ps.flatten.drop 67).take (Try.prog.cellsOf 29)) = some l
    rw [c32, part_cut (k := 2) (o := 67) (n := 32) (by rw [hps]; rfl) (ho 2) (bytesL_len h3)]
    exact keyLits_bytes Try.underlying29 (by kernel_rfl) h3
  · show ∃ l, Try.prog.keyLits 4 29 ((ps.flatten.drop 99).take (Try.prog.cellsOf 29)) = some l
    rw [c32, part_cut (k := 3) (o := 99) (n := 32) (by rw [hps]; rfl) (ho 3) (bytesL_len h4)]
    exact keyLits_bytes Try.underlying29 (by kernel_rfl) h4
  · show ∃ l, Try.prog.keyLits 4 29 ((ps.flatten.drop 131).take (Try.prog.cellsOf 29)) = some l
    rw [c32, part_cut (k := 4) (o := 131) (n := 32) (by rw [hps]; rfl) (ho 4) (bytesL_len h5)]
    exact keyLits_bytes Try.underlying29 (by kernel_rfl) h5
  · show ∃ l, Try.prog.keyLits 4 35 ((ps.flatten.drop 163).take (Try.prog.cellsOf 35)) = some l
    rw [c4, part_cut (k := 5) (o := 163) (n := 4) (by rw [hps]; rfl) (ho 5) rfl]
    exact keyLits_wide _
  · show ∃ l, Try.prog.keyLits 4 35 ((ps.flatten.drop 167).take (Try.prog.cellsOf 35)) = some l
    rw [c4, part_cut (k := 6) (o := 167) (n := 4) (by rw [hps]; rfl) (ho 6) rfl]
    exact keyLits_wide _
  · show ∃ l, Try.prog.keyLits 4 31 ((ps.flatten.drop 171).take (Try.prog.cellsOf 31)) = some l
    rw [c33, part_cut (k := 7) (o := 171) (n := 33) (by rw [hps]; rfl) (ho 7) (CpD.len h6)]
    exact keyLits_cp h6
  · show ∃ l, Try.prog.keyLits 4 31 ((ps.flatten.drop 204).take (Try.prog.cellsOf 31)) = some l
    rw [c33, part_cut (k := 8) (o := 204) (n := 33) (by rw [hps]; rfl) (ho 8) (CpD.len h7)]
    exact keyLits_cp h7
  · show ∃ l, Try.prog.keyLits 4 4 ((ps.flatten.drop 237).take (Try.prog.cellsOf 4)) = some l
    rw [cb, part_cut (k := 9) (o := 237) (n := 1) (by rw [hps]; rfl) (ho 9) rfl]
    exact keyLits_bool Try.underlying4

theorem eq_blk {x : BkD} (h : x.ok) (w : World) : Sem.run Try.prog (Op.equalIn 10000 37 (.agg (flatP x.parts)) (.agg (flatP x.parts))) w = .ok true w :=
  eq_self (m := 5) (by kernel_rfl) (by omega) _ (by
    have hl : (flatP x.parts).size = 238 := by rw [flatP_size, List.length_flatten, BkD.lens h]; rfl
    have hc : Try.prog.cellsOf 37 = 238 := by kernel_rfl
    simp [Value.formed, Try.underlying37, hl, hc]) (by simpa [flatP] using keyLits_blk h) w

end Go.Proofs.Ytgcgjnjbhdhhgaa
