/- NewTable, Vote, Votes. -/
import Derived.Test.YtcbjjafjomdklaaVoA
set_option linter.unusedVariables false

set_option linter.unusedSimpArgs false
namespace Go.Proofs.Ytcbjjafjomdklaa
open Go.RowKit

set_option maxRecDepth 100000

set_option maxHeartbeats 4000000 in
theorem vnew_bad (n : Int) (w : World) (h : n < 0 ∨ 1024 < n) :
    Calls Try.prog 37 #[.int .i64 n] w fun e w' => e = .returned (.tuple #[.pointer none, .int .i64 3]) ∧ w' = w := by
  by_cases h1 : n < 0
  · clear h
    go_enter Try.func37, Try.ntmps37
    go_wp2_with fail
    go_ret2
    exact ⟨rfl, rfl⟩
  have h2 : 1024 < n := by omega
  clear h
  go_enter Try.func37, Try.ntmps37
  go_wp2_with fail
  go_ret2
  exact ⟨rfl, rfl⟩

set_option maxHeartbeats 4000000 in
theorem vnew_ok (n : Nat) (w : World) (h : n ≤ 1024) :
    Calls Try.prog 37 #[.int .i64 n] w fun e w' => e = .returned (.tuple #[.pointer (some ⟨w.heap.size + 1, 0, none⟩), .int .i64 0]) ∧ VtI w' (w.heap.size + 1) w.heap.size (List.replicate n zeV) ∧ Below w.heap.size w w' := by
  have h1 : ¬ (n : Int) < 0 := by omega
  have h2 : ¬ (1024 : Int) < n := by omega
  have HI := Lib.hid info_vote
  go_enter Try.func37, Try.ntmps37
  go_wp2_with ((with_reducible refine at_makeEl (.tmp 10) ?_); refine wpList_make_els rfl (.tmp 10) 44 78 rfl zeV.cells 48 Try.underlying44 HI.out .i64 n rfl (by omega) (by omega) ?_; intro w1 hg1 hs1 hr1; have HG1 := Lib.hid hg1; have HR1 := Lib.hid hr1; have HS1 := Lib.hid hs1; clear hg1 hr1 hs1)
  have hb1 : Below w.heap.size w w1 := (Below.refl _ w).grown HG1.out (Nat.le_refl _) (by simp)
  have hs1 := HS1.out
  go_ret2
  refine ⟨by simp [hs1], ⟨?_, ?_, ?_, ?_, ?_⟩, hb1.alloc (by rw [hs1]; omega) _⟩
  · rw [List.length_replicate]; exact Blk.new hs1.symm
  · rw [List.map_replicate]; exact HR1.out.grown (World.grownBy_alloc _ _ none) (by simp)
  · intro v hv; rw [List.eq_of_mem_replicate hv]; exact zeV_ok
  · rw [List.length_replicate]; exact h
  · omega

/-- The vote of a validator. -/
def voteV (vs : List VoD) (i : Int) : VoD := if i < 0 then zeV else vs.getD i.toNat zeV

theorem voteV_neg {vs : List VoD} {i : Int} (h : i < 0) : voteV vs i = zeV := by unfold voteV; rw [if_pos h]

theorem voteV_far {vs : List VoD} {i : Int} (h : vs.length ≤ i) : voteV vs i = zeV := by
  unfold voteV; split
  · rfl
  · simp [List.getD, List.getElem?_eq_none (show vs.length ≤ i.toNat by omega)]

theorem voteV_nat {vs : List VoD} (k : Nat) : voteV vs k = vs.getD k zeV := by unfold voteV; rw [if_neg (by omega)]; simp

set_option maxHeartbeats 1000000 in
theorem cloneV (g : Nat) (vs : List VoD) (w : World) (h : RowB w g (vs.map VoD.cells)) (ho : ∀ v ∈ vs, v.ok) (hl : vs.length ≤ 100000) :
    Calls Try.prog 50 #[.slice (some ⟨g, 0, none⟩) vs.length vs.length] w fun e w' => ∃ v', e = .returned v' ∧ OwnEl VoEl 78 34 w' w.heap.size v' vs ∧ Below w.heap.size w w' := by
  obtain ⟨i0, hi, hz0, hz1, hz2⟩ := info_parts info_vote
  have q22 : ∀ (w : World) (a : Option Addr) (n c n' c' : Nat), (binOp .eql 44 (.slice a n c) (.slice none n' c')).run Try.prog w = .ok (.bool a.isNone) w := fun w a n c n' c' => Lib.run_eql_slice_nil w _ _ a n c n' c' Try.underlying44
  have hlen : (vs.map VoD.cells).flatten.length = vs.length * 34 := by rw [flat_len (cells34 ho), List.length_map]
  have HR := Lib.hid h
  have HO := Lib.hid ho
  have HN := Lib.hid hlen
  have hz3 : (Value.agg zeV.cells.toArray).cells.size = 34 := rfl
  have hz1' : i0.size = 34 := hz1
  clear h ho hlen hz1
  go_enter Try.func50, Try.ntmps50
  go_wp2_with (at_builtin; refine wpList_append_own _ rfl _ _ 44 rfl w.heap.size 78 i0 (.agg zeV.cells.toArray) 34 48 Try.underlying44 hi hz0 hz1' hz2 hz3 (by decide) _ _ _ rfl (World.ownsRow_made w #[] 0 (Nat.le_refl _) (Nat.zero_le _) rfl) ⟨g, 0, none⟩ vs.length vs.length (vs.map VoD.cells).flatten rfl HN.out (fun j u hj => by rw [Go.WideShapes.add_plain]; exact (HR.out.grown (World.grownBy_alloc _ _ none) (by simp)).range j u hj) (fun u hu => by obtain ⟨L, hL, hu⟩ := List.mem_flatten.1 hu; obtain ⟨v, _, rfl⟩ := List.mem_map.1 hL; exact VoD.one v u hu) (by unfold maxLen; omega) (by omega) (by simp) ?_)
  intro v' w1 hown hgrow hnil
  go_wp2
  go_ret
  refine ⟨_, rfl, ⟨vs.map fun v => v.cells.toArray, ?_, by simp, ?_⟩, ((Below.refl _ w).alloc (Nat.le_refl _) _).grown hgrow (by simp) (by intro k hk; simp [Value.ownBlock] at hk; omega)⟩
  · have e : rowsL (vs.map fun v => v.cells.toArray) = (vs.map VoD.cells).flatten := by simp [rowsL, List.map_map, Function.comp_def]
    rw [e]; simpa using hown
  · intro p hp
    obtain ⟨i, hi, rfl⟩ := List.mem_iff_getElem.1 hp
    simp only [List.length_zip, List.length_map] at hi
    simp only [List.getElem_zip, List.getElem_map]
    exact ⟨rfl, HO.out _ (List.getElem_mem _)⟩

set_option maxHeartbeats 1000000 in
theorem votes_any (b g : Nat) (vs : List VoD) (w : World) (hV : VtI w b g vs) :
    Calls Try.prog 39 #[.pointer (some ⟨b, 0, none⟩)] w fun e w' => ∃ v', e = .returned v' ∧ OwnEl VoEl 78 34 w' w.heap.size v' vs ∧ Below w.heap.size w w' := by
  have c0 : w.cell? ⟨b, 0, none⟩ = some (.slice (some ⟨g, 0, none⟩) vs.length vs.length) := hV.blk.cell 0
  have HC := Lib.hid (cloneV g vs w hV.row hV.ok (by have := hV.len; omega))
  clear hV
  go_enter Try.func39, Try.ntmps39
  go_wp2_with (go_at_call 50; refine HC.out.mono ?_; rintro e w1 ⟨v', rfl, h1, h2⟩)
  go_ret
  exact ⟨_, rfl, h1, h2⟩
end Go.Proofs.Ytcbjjafjomdklaa
