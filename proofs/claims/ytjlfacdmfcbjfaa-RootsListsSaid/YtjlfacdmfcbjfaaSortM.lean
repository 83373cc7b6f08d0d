/- The reference's Sort at roots: the loops' state, what its operations do. -/
import Derived.Test.YtjlfacdmfcbjfaaSortL
set_option linter.unusedVariables false
namespace Go.Proofs.Ytjlfacdmfcbjfaa
open Go.RowKit Go.Shelf Go.Sort Go.Lib

theorem rts_of_owns {w : World} {base : Nat} {v : Value} {l : List Rt} (h : w.ownsRow base 25 32 v l.length (flatR l)) (hm : l.length ≤ maxLen) : Rts w v l := by
  by_cases hn : v = .slice none 0 0
  · subst hn
    rcases h.2 with ⟨_, h0⟩ | ⟨g, cap, cur, e, _⟩
    · exact ⟨none, 0, 0, rfl, h0, Nat.zero_le _, .inl rfl⟩
    · cases e
  · obtain ⟨g, cap, rfl, _, hlt, _, _, _, hH⟩ := owns_holds h hn
    exact ⟨_, _, _, rfl, rfl, hm, .inr ⟨g, 0, rfl, hlt, holds_rootsAt hH⟩⟩

theorem flatR_snoc (l : List Rt) (x : Rt) : flatR (l ++ [x]) = flatR l ++ encR x := by
  apply List.ext_getElem?
  intro j
  by_cases hj : j < l.length * 32
  · rw [List.getElem?_append_left (by rw [flatR_len]; exact hj), flatR_at _ hj, flatR_at _ (by simp; omega)]
    have : j / 32 < l.length := by omega
    rw [getElem!_pos (l ++ [x]) _ (by simp; omega), getElem!_pos l _ this, List.getElem_append_left this]
  · rw [List.getElem?_append_right (by rw [flatR_len]; omega), flatR_len]
    by_cases hj2 : j < l.length * 32 + 32
    · rw [flatR_at _ (by simp; omega), encR_get x (by omega), getElem!_pos (l ++ [x]) (j / 32) (by simp; omega), List.getElem_append_right (by omega)]
      simp only [List.getElem_singleton]
      rw [show j % 32 = j - l.length * 32 by omega]
    · rw [List.getElem?_eq_none (by rw [flatR_len]; simp; omega), List.getElem?_eq_none (by rw [encR_len]; omega)]

/-- The state of the outer loop. -/
def SrtI (d : List Rt) (k : Nat) (l : List Rt) : Prop := (l.Pairwise fun x y => cfR x y < 0) ∧ (∀ x, x ∈ l ↔ ∃ j, j < k ∧ d[j]! = x) ∧ l.length ≤ k

theorem owns_kept {u u' : World} {base e sz n : Nat} {v : Value} {xs : List Value} (h : u.ownsRow base e sz v n xs) (hb : Below u.heap.size u u') : u'.ownsRow base e sz v n xs := by
  obtain ⟨h1, h2⟩ := h
  refine ⟨h1, ?_⟩
  rcases h2 with h2 | ⟨g, cap, cur, hv, hg, hh, r⟩
  · exact .inl h2
  · exact .inr ⟨g, cap, cur, hv, hg, by rw [hb.block g (Array.getElem?_eq_some_iff.1 hh).1]; exact hh, r⟩

theorem SrtI.old {d : List Rt} {k : Nat} {l : List Rt} {x : Rt} (h : SrtI d k l) (hx : d[k]! = x) (hm : x ∈ l) : SrtI d (k + 1) l := by
  refine ⟨h.1, fun y => ?_, Nat.le_succ_of_le h.2.2⟩
  rw [h.2.1]
  constructor
  · rintro ⟨j, hj, e⟩; exact ⟨j, by omega, e⟩
  · rintro ⟨j, hj, e⟩
    by_cases hjk : j = k
    · subst hjk
      obtain ⟨i, hi, ei⟩ := (h.2.1 x).1 hm
      exact ⟨i, hi, by rw [ei, ← hx]; exact e⟩
    · exact ⟨j, by omega, e⟩

theorem insert_len (l : List Rt) (x : Rt) {k : Nat} (hk : k ≤ l.length) : (l.take k ++ x :: l.drop k).length = l.length + 1 := by
  simp; omega
theorem insert_at (l : List Rt) (x : Rt) {k : Nat} (hk : k ≤ l.length) : (l.take k ++ x :: l.drop k).toArray[k]! = x := by
  have e : (l.take k).length = k := by simp; omega
  rw [getElem!_pos _ _ (by simp; omega)]
  simp [e]
theorem insert_before (l : List Rt) (x : Rt) {k : Nat} (hk : k + 1 ≤ l.length) : (l.take (k + 1) ++ x :: l.drop (k + 1)).toArray[k]! = l[k]! := by
  have e : (l.take (k + 1)).length = k + 1 := by simp; omega
  rw [getElem!_pos _ _ (by simp; omega), getElem!_pos l k (by omega)]
  simp only [List.getElem_toArray]
  rw [List.getElem_append_left (by omega), List.getElem_take]

theorem SrtI.new {d : List Rt} {k kk : Nat} {l : List Rt} {x : Rt} (h : SrtI d k l) (hx : d[k]! = x) (hk : kk ≤ l.length) (ha : ∀ y ∈ l.drop kk, cfR x y < 0) (hb : kk = 0 ∨ ∃ y, l[kk - 1]? = some y ∧ cfR y x < 0) : SrtI d (k + 1) (l.take kk ++ x :: l.drop kk) := by
  refine ⟨asc_insert h.1 hk ha hb, fun y => ?_, by rw [insert_len l x hk]; have := h.2.2; omega⟩
  have e : y ∈ l.take kk ++ x :: l.drop kk ↔ y = x ∨ y ∈ l := by
    conv => rhs; rw [← List.take_append_drop kk l]
    simp only [List.mem_append, List.mem_cons]
    constructor
    · rintro (h | h | h)
      · exact .inr (.inl h)
      · exact .inl h
      · exact .inr (.inr h)
    · rintro (h | h | h)
      · exact .inr (.inl h)
      · exact .inl h
      · exact .inr (.inr h)
  rw [e, h.2.1]
  constructor
  · rintro (rfl | ⟨j, hj, e⟩)
    · exact ⟨k, by omega, hx⟩
    · exact ⟨j, by omega, e⟩
  · rintro ⟨j, hj, e⟩
    by_cases hjk : j = k
    · subst hjk; exact .inl (e.symm.trans hx)
    · exact .inr ⟨j, by omega, e⟩

theorem SrtI.done {d : List Rt} {l : List Rt} (h : SrtI d d.length l) : l = uniq d := by
  refine asc_unique h.1 (uniq_asc d) fun x => ?_
  rw [h.2.1, mem_uniq, List.mem_iff_getElem]
  constructor
  · rintro ⟨j, hj, e⟩; exact ⟨j, hj, by rw [getElem!_pos _ j hj] at e; exact e⟩
  · rintro ⟨j, hj, e⟩; exact ⟨j, hj, by rw [getElem!_pos _ j hj]; exact e⟩

theorem foldl_laid : ∀ (xs : List Value) (n : Nat) (Z : Array Value) (i : Nat), n + xs.length ≤ Z.size → ((xs.zipIdx n).foldl (fun cs x => cs.setIfInBounds x.2 x.1) Z)[i]? = if n ≤ i ∧ i < n + xs.length then xs[i - n]? else Z[i]?
  | [], n, Z, i, _ => by rw [if_neg (by simp only [List.length_nil]; omega)]; rfl
  | x :: xs, n, Z, i, h => by
    simp only [List.length_cons] at h
    rw [List.zipIdx_cons, List.foldl_cons, foldl_laid xs (n + 1) _ i (by simp; omega)]
    simp only [List.length_cons]
    by_cases e : i = n
    · subst e
      rw [if_neg (by omega), if_pos (by omega), Nat.sub_self, Array.getElem?_setIfInBounds, if_pos rfl, if_pos (by omega)]; rfl
    · by_cases c : n + 1 ≤ i ∧ i < n + 1 + xs.length
      · rw [if_pos c, if_pos (by omega)]
        obtain ⟨t, rfl⟩ : ∃ t, i = n + 1 + t := ⟨i - (n + 1), by omega⟩
        rw [show n + 1 + t - (n + 1) = t by omega, show n + 1 + t - n = t + 1 by omega]; rfl
      · rw [if_neg c, if_neg (by omega), Array.getElem?_setIfInBounds, if_neg (by omega)]

theorem foldl_whole (xs : List Value) (Z : Array Value) (h : Z.size = xs.length) : xs.zipIdx.foldl (fun cs x => cs.setIfInBounds x.2 x.1) Z = xs.toArray := by
  apply Array.ext_getElem?
  intro i
  rw [foldl_laid xs 0 Z i (by omega)]
  by_cases c : i < xs.length
  · rw [if_pos (by omega)]; simp
  · rw [if_neg (by omega), Array.getElem?_eq_none (by omega), Array.getElem?_eq_none (by simp; omega)]

theorem buildR (x : Rt) (u : World) : (Instr.buildSlice 53 1 #[(0, .agg (encR x).toArray)]).run Try.prog u = .ok (.slice (some ⟨u.heap.size, 0, none⟩) 1 1) (u.alloc (.cells (encR x).toArray 25)) := by
  have hz : ∀ w, (zeroValue 25).run Try.prog w = .ok (.agg (encR default).toArray) w := Try.zeroValue25
  have hZ := encR_size default
  have hX := encR_len x
  obtain ⟨Z, eZ⟩ : ∃ Z, (encR default).toArray = Z := ⟨_, rfl⟩
  rw [eZ] at hz hZ
  obtain ⟨X, eX⟩ : ∃ X, encR x = X := ⟨_, rfl⟩
  rw [eX] at hX ⊢
  clear eZ eX
  simp [Instr.buildSlice, Instr.fill, go_sem, hz, hX, hZ, Value.cells, run_underlying Try.underlying53, Try.sizeOf25]
  rw [foldl_whole X _ (by simp [hX])]

theorem wpList_buildSlice {P : Program} {ops : Array Oper} {rest : List Oper} {op : Oper} {a : Act} {w w' : World} {Q : Exit → Act → World → Prop} (hgd : op.guard = none) (t : TypeId) (n : Nat) (ps : Array (Nat × Operand)) (ho : op.op = .buildSlice t n ps)
    (ps' : Array (Nat × Value)) (hps : ps.map (fun (i, x) => (i, a.eval x)) = ps') (v : Value) (hr : (Instr.buildSlice t n ps').run P w = .ok v w') (h : wpList P ops Q rest (a.put op.dst v) w') : wpList P ops Q (op :: rest) a w :=
  wpList_plain hgd fun _ hK => by
    unfold Oper.wp execOp
    simp only [ho, hps, Sem.run_bind, hr, Result.andThen_ok, Sem.run_pure]
    exact hK _ _ h
theorem at_buildSlice {P : Program} {ops : Array Oper} {Q : Exit → Act → World → Prop} (dst : Option Tmp) {ty ty' : TypeId} {n : Nat} {ps : Array (Nat × Operand)} {pos : String} {aft : Array Edge} {g : Option (Nat × Bool)} {rest : List Oper} {a : Act} {w : World}
    (h : wpList P ops Q (⟨dst, .buildSlice ty n ps, ty', pos, aft, g⟩ :: rest) a w) : wpList P ops Q (⟨dst, .buildSlice ty n ps, ty', pos, aft, g⟩ :: rest) a w := h

end Go.Proofs.Ytjlfacdmfcbjfaa
