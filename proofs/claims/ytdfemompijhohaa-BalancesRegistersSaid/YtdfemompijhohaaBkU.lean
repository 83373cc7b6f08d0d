/- BalancesRegisters: data. -/
import Derived.Test.YtdfemompijhohaaBkT
set_option linter.unusedVariables false
set_option linter.unusedSimpArgs false
namespace Go.Proofs.Ytdfemompijhohaa
open Go.RowKit Go.Maps
set_option maxRecDepth 100000

theorem i64_and3 (n : Int) : bits .and .i64 n 3 = n % 4 := by
  have h3 : (BitVec.ofInt 64 3).toNat = 2 ^ 2 - 1 := by decide
  have key : (BitVec.ofInt 64 n &&& BitVec.ofInt 64 3).toNat = (n % ((2 ^ 64 : Nat) : Int)).toNat % 2 ^ 2 := by
    rw [BitVec.toNat_and, BitVec.toNat_ofInt, h3, Nat.and_two_pow_sub_one_eq_mod]
  show IntKind.i64.wrap ((BitVec.ofInt 64 n &&& BitVec.ofInt 64 3).toNat : Nat) = n % 4
  rw [key, IntKind.wrap_i64]
  omega
theorem i64_and3_nat (n : Int) : ∃ m : Nat, m ≤ 3 ∧ bits .and .i64 n 3 = m := ⟨(n % 4).toNat, by omega, by rw [i64_and3]; omega⟩

theorem reg_rr {n lim : Int} {E : List TeD} {ds : List (CpD × List Int)} (hm : Match E ds) (c : CpD) (l : List Int) : regE n lim E c l = rrE n lim ds c l := by
  unfold regE rrE
  rw [hm.len]
  have hk := hm.keys c
  by_cases h : c ∈ ds.map Prod.fst
  · have ht : (tget E c).isSome = true := by
      cases ht : tget E c with
      | none => exact absurd (hk.1 h) (tget_none.1 ht)
      | some e => rfl
    rw [ht, if_pos h]; simp
  · have ht : tget E c = none := tget_none.2 (fun h' => h (hk.2 h'))
    rw [ht, if_neg h]; simp

theorem Match.nil : Match [] [] := ⟨.refl _, List.Pairwise.nil⟩
theorem Match.drop {E : List TeD} {ds : List (CpD × List Int)} (hm : Match E ds) (ep : Int) : Match (dropE ep E) (dropT ep ds) where
  perm := by
    have h := hm.perm.filter (fun d : CpD × List Int => decide (ep ≤ d.1.n))
    rw [List.filter_map] at h
    exact h
  sorted := List.Pairwise.filter _ hm.sorted

theorem Match.add {w : World} {b mb : Nat} {n lim : Int} {E : List TeD} {ds ds' : List (CpD × List Int)} {c : CpD} {l : List Int} (hm : Match E ds) (hB : BookIs w b mb n lim E) (hc : c.ok) (hnot : c ∉ ds.map Prod.fst) (hA : AddR ds c l ds') (v : Value) : Match (⟨c, v, l⟩ :: E) ds' := by
  have hok : ∀ d ∈ ds, d.1.ok := fun d hd => by
    obtain ⟨e, he, rfl⟩ := List.mem_map.1 (hm.perm.mem_iff.2 hd)
    exact hB.map.2.ok e.ent (List.mem_map.2 ⟨e, he, rfl⟩)
  obtain ⟨k, hk, h1, h2, rfl⟩ := hA
  have hs : Sorted (ds.take k ++ ds.drop k) := by rw [List.take_append_drop]; exact hm.sorted
  obtain ⟨s1, s2, s3⟩ := List.pairwise_append.1 hs
  have hlo : ∀ d ∈ ds.take k, ltC d.1 c := fun d hd => by
    obtain ⟨j, hj, rfl⟩ := List.mem_iff_getElem.1 hd
    rw [List.length_take] at hj
    rw [List.getElem_take]
    exact h1 j (by omega) (by omega)
  have hhi : ∀ d ∈ ds.drop k, ltC c d.1 := fun d hd => by
    have hlt : k < ds.length := by
      rcases Nat.lt_or_ge k ds.length with h | h
      · exact h
      · rw [List.drop_eq_nil_of_le h] at hd; cases hd
    have hne : c ≠ ds[k].1 := fun e => hnot (List.mem_map.2 ⟨ds[k], List.getElem_mem hlt, e.symm⟩)
    have h0 : ltC c ds[k].1 := (ltC_total hc (hok _ (List.getElem_mem hlt)) hne).resolve_right (h2 hlt)
    rw [List.drop_eq_getElem_cons hlt] at hd s2
    rcases List.mem_cons.1 hd with rfl | hd'
    · exact h0
    · exact ltC_trans hc (hok _ (List.getElem_mem hlt)) (hok d (List.mem_of_mem_drop hd')) h0 ((List.pairwise_cons.1 s2).1 d hd')
  refine ⟨?_, ?_⟩
  · have h : ((c, l) :: E.map TeD.d).Perm ((c, l) :: (ds.take k ++ ds.drop k)) := by rw [List.take_append_drop]; exact hm.perm.cons _
    exact h.trans List.perm_middle.symm
  · refine List.pairwise_append.2 ⟨s1, List.pairwise_cons.2 ⟨hhi, s2⟩, fun x hx y hy => ?_⟩
    rcases List.mem_cons.1 hy with rfl | hy
    · exact hlo x hx
    · exact s3 x hx y hy

/-- Both registered, or neither. -/
theorem both_reg {w w' : World} {b mb : Nat} {n lim : Int} {E : List TeD} {ds ds' : List (CpD × List Int)} {c : CpD} {l : List Int} {er : Int} (hm : Match E ds) (hB : BookIs w b mb n lim E) (hc : c.ok) (her : rrE n lim ds c l = er) (hl : (E.length : Int) ≤ lim)
    (hr : (er ≠ 0 ∧ ds' = ds) ∨ (er = 0 ∧ AddR ds c l ds'))
    (h1 : er ≠ 0 → BookIs w' b mb n lim E) (h2 : er = 0 → ∃ v', New w.heap.size v' ∧ BookIs w' b mb n lim (⟨c, v', l⟩ :: E)) :
    ∃ E', BookIs w' b mb n lim E' ∧ Match E' ds' ∧ (E'.length : Int) ≤ lim := by
  rcases hr with ⟨h0, rfl⟩ | ⟨h0, hA⟩
  · exact ⟨E, h1 h0, hm, hl⟩
  · obtain ⟨v', _, hB'⟩ := h2 h0
    rw [h0] at her
    unfold rrE at her
    split at her
    · rename_i h; exact absurd her h
    · split at her
      · cases her
      · rename_i hnot
        split at her
        · cases her
        · rename_i hlt
          rw [← hm.len] at hlt
          exact ⟨_, hB', hm.add hB hc hnot hA v', by simp only [List.length_cons]; omega⟩

theorem range_keptMap {w w' : World} {mb b o : Nat} {L : Ents} {cs : List Value} (h : w.rangeAt b o cs) (hb : b < w.heap.size) (hm : MapIs w mb L) (hg : w.grownBy w' (some mb)) : w'.rangeAt b o cs := fun j v hj => by
  have hc := h j v hj
  have hne : some b ≠ some mb := fun e => by
    have := hm.noCell (z := ⟨b, o + j, none⟩) (by cases e; rfl)
    rw [this] at hc; cases hc
  have := hg.block b hb hne
  rw [← hc]; simp [World.cell?, this]
theorem TabsC.keptMap {w w' : World} {mb : Nat} {L : Ents} {v : Value} {ds : List (CpD × List Int)} (h : TabsC w v ds) (hm : MapIs w mb L) (hg : w.grownBy w' (some mb)) : TabsC w' v ds := by
  obtain ⟨⟨a, cap, rfl, hmx, hr⟩, hs⟩ := h
  refine ⟨⟨a, cap, rfl, hmx, ?_⟩, hs⟩
  rcases hr with h0 | ⟨b, off, rfl, hb, Xs, hR, hA⟩
  · exact .inl h0
  · refine .inr ⟨b, off, rfl, Nat.lt_of_lt_of_le hb hg.size, Xs, range_keptMap hR hb hm hg, hA.imp fun X d hX => ?_⟩
    have hE := tabOK 0 False
    have hX' : TabEl 0 False (Off mb) w X d := by
      obtain ⟨hc, a', n, k, e, h1, h2, h3, h4⟩ := hX
      exact ⟨hc, a', n, k, e, h1, h2, h3, hm.offMap h1.1⟩
    exact hE.mono (hE.grown hX' hg fun g y e hy => by cases e; exact hy) fun _ _ => trivial

/-- The book and the list, at the head of the law's loop. -/
def RegI (w : World) (b mb : Nat) (n lim : Int) (v : Value) (wr : World) : Prop :=
  ∃ (E : List TeD) (ds : List (CpD × List Int)), TabsC wr v ds ∧ BookIs wr b mb n lim E ∧ Match E ds ∧ (E.length : Int) ≤ lim ∧ Below w.heap.size w wr

end Go.Proofs.Ytdfemompijhohaa
