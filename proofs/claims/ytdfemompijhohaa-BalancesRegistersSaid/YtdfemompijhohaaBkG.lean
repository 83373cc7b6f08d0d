/- The order of checkpoints; slices.SortFunc over a row of tables. -/
import Derived.Test.YtdfemompijhohaaBkF
import Derived.Test.YtdfemompijhohaaEls
set_option linter.unusedVariables false
set_option linter.unusedSimpArgs false
namespace Go.Proofs.Ytdfemompijhohaa
open Go.RowKit Go.Shelf Go.Sort
set_option maxRecDepth 100000

theorem cmpI_lt {x y : Int} (h : x < y) : cmpI x y = -1 := by unfold cmpI; rw [if_pos h]
theorem cmpI_gt {x y : Int} (h : y < x) : cmpI x y = 1 := by unfold cmpI; rw [if_neg (by omega), if_pos h]
theorem cmpI_eq (x : Int) : cmpI x x = 0 := by unfold cmpI; rw [if_neg (by omega), if_neg (by omega)]

theorem cfC_lt {c d : CpD} : cfC c d < 0 ↔ c.n < d.n ∨ (c.n = d.n ∧ cmpB c.r d.r < 0) := by
  unfold cfC orV
  rcases Int.lt_trichotomy c.n d.n with h | h | h
  · rw [cmpI_lt h]; simp; omega
  · rw [h, cmpI_eq]; simp
  · rw [cmpI_gt h]; simp; omega
theorem cfC_zero {c d : CpD} (hc : c.ok) (hd : d.ok) : cfC c d = 0 ↔ c = d := by
  unfold cfC orV
  have hz := cmpB_zero c.r d.r (by rw [hc.2.2.1, hd.2.2.1])
  constructor
  · intro h
    rcases Int.lt_trichotomy c.n d.n with h1 | h1 | h1
    · rw [cmpI_lt h1] at h; simp at h
    · rw [h1, cmpI_eq] at h
      have := hz.1 (by simpa using h)
      cases c; cases d; simp_all
    · rw [cmpI_gt h1] at h; simp at h
  · rintro rfl
    rw [cmpI_eq]; simpa using hz.2 rfl

/-- The order of checkpoints. -/
def ltC (c d : CpD) : Prop := c.n < d.n ∨ (c.n = d.n ∧ cmpB c.r d.r < 0)
theorem ltC_irrefl (c : CpD) : ¬ ltC c c := by
  rintro (h | ⟨_, h⟩)
  · omega
  · have := (cmpB_zero c.r c.r rfl).2 rfl; omega
theorem ltC_trans {c d e : CpD} (hc : c.ok) (hd : d.ok) (he : e.ok) (h1 : ltC c d) (h2 : ltC d e) : ltC c e := by
  have l1 : c.r.length = d.r.length := by rw [hc.2.2.1, hd.2.2.1]
  have l2 : d.r.length = e.r.length := by rw [hd.2.2.1, he.2.2.1]
  rcases h1 with h1 | ⟨h1, k1⟩ <;> rcases h2 with h2 | ⟨h2, k2⟩
  · exact .inl (by omega)
  · exact .inl (by omega)
  · exact .inl (by omega)
  · refine .inr ⟨by omega, ?_⟩
    have a := cmpB_trans c.r d.r e.r l1 l2 (by omega) (by omega)
    rcases Int.lt_or_eq_of_le a with a | a
    · exact a
    · have h := (cmpB_zero c.r e.r (l1.trans l2)).1 a
      have b := cmpB_anti c.r d.r l1
      rw [← h] at k2
      omega
theorem ltC_total {c d : CpD} (hc : c.ok) (hd : d.ok) (hne : c ≠ d) : ltC c d ∨ ltC d c := by
  have l : c.r.length = d.r.length := by rw [hc.2.2.1, hd.2.2.1]
  rcases Int.lt_trichotomy c.n d.n with h | h | h
  · exact .inl (.inl h)
  · have b := cmpB_anti c.r d.r l
    have z := cmpB_zero c.r d.r l
    by_cases h0 : cmpB c.r d.r < 0
    · exact .inl (.inr ⟨h, h0⟩)
    · by_cases h1 : cmpB c.r d.r = 0
      · exact absurd (by have := z.1 h1; cases c; cases d; simp_all) hne
      · exact .inr (.inr ⟨h.symm, by omega⟩)
  · exact .inr (.inl h)
theorem ltC_asymm {c d : CpD} (hc : c.ok) (hd : d.ok) (h1 : ltC c d) : ¬ ltC d c := fun h2 => ltC_irrefl c (ltC_trans hc hd hc h1 h2)
theorem ltOf_iff {x y : TbS} : ltOf cfT x y = true ↔ ltC x.c y.c := by
  rw [show ltOf cfT x y = decide (cfT x y < 0) from rfl, decide_eq_true_iff]; exact cfC_lt
theorem ltOf_iff' {x y : TbS} : ltOf cfT x y = false ↔ ¬ ltC x.c y.c := by rw [← ltOf_iff]; simp

theorem cfT_swo : SWO (ltOf cfT) where
  irrefl x := by rw [ltOf_iff']; exact ltC_irrefl _
  trans x y z h1 h2 := by rw [ltOf_iff] at *; exact ltC_trans x.ok y.ok z.ok h1 h2
  ntrans x y z h1 h2 := by
    rw [ltOf_iff'] at *
    intro h
    by_cases hxy : x.c = y.c
    · rw [hxy] at h; exact h2 h
    · rcases ltC_total x.ok y.ok hxy with h3 | h3
      · exact h1 h3
      · exact h2 (ltC_trans y.ok x.ok z.ok h3 h)

/-- Cells of a table that is this checkpoint with these balances; its slice lies from block N on, where P says; fr: its row may be written. -/
def TabEl (N : Nat) (fr : Prop) (P : Value → Prop) (w : World) (X : Array Value) (d : CpD × List Int) : Prop :=
  d.1.ok ∧ ∃ a n k, X = flatP [d.1.cells, [.slice a n k]] ∧ NumsV w (.slice a n k) d.2 ∧ New N (.slice a n k) ∧ (fr → Free w (.slice a n k)) ∧ P (.slice a n k)

theorem tabOK (N : Nat) (fr : Prop) : ElOK 34 (TabEl N fr) where
  size := fun {P w X a} h => by obtain ⟨hc, a', n, k, rfl, _⟩ := h; exact (tabOff hc _).2.2
  one := fun {P w X a} h => by
    obtain ⟨hc, a', n, k, rfl, _⟩ := h
    refine flatP_one fun p hp v hv => ?_
    simp only [List.mem_cons, List.not_mem_nil, or_false] at hp
    rcases hp with rfl | rfl
    · exact CpD.one _ v hv
    · rw [List.mem_singleton.1 hv]; rfl
  mono := fun {P Q w X a} h hPQ => by obtain ⟨hc, a', n, k, e, h1, h2, h3, h4⟩ := h; exact ⟨hc, a', n, k, e, h1, h2, h3, hPQ _ h4⟩
  grown := fun {P w w' X a row} h hg hoff => by
    obtain ⟨hc, a', n, k, e, h1, h2, h3, h4⟩ := h
    exact ⟨hc, a', n, k, e, ⟨h1.1.grownOff hg fun g e => hoff g _ e h4, h1.2⟩, h2, fun hf => (h3 hf).grown hg fun g e => hoff g _ e h4, h4⟩
  off := fun {P w X a g} h hg => by
    obtain ⟨hc, a', n, k, e, h1, h2, h3, h4⟩ := h
    exact ⟨hc, a', n, k, e, h1, h2, h3, h4, h1.1.off hg⟩

/-- The elements of a row, one by one. -/
theorem tab_elems {N : Nat} {fr : Prop} {P : Value → Prop} {w : World} : ∀ {Xs : List (Array Value)} {ds : List (CpD × List Int)}, AllEl (TabEl N fr) P w Xs ds →
    ∃ T : List TbS, Xs = T.map (fun x => (encT x).toArray) ∧ T.map TbS.c = ds.map Prod.fst ∧ ∀ p ∈ T.zip ds, NumsV w p.1.v p.2.2 ∧ New N p.1.v ∧ (fr → Free w p.1.v) ∧ P p.1.v
  | [], [], _ => ⟨[], rfl, rfl, fun p hp => by simp at hp⟩
  | [], _ :: _, h => by have := h.1; simp at this
  | _ :: _, [], h => by have := h.1; simp at this
  | X :: Xs, d :: ds, h => by
    have h0 : TabEl N fr P w X d := h.2 (X, d) (by simp)
    obtain ⟨T, e1, e2, e3⟩ := tab_elems (Xs := Xs) (ds := ds) ⟨by have := h.1; simpa using this, fun p hp => h.2 p (by simp [hp])⟩
    obtain ⟨hc, a, n, k, rfl, h1, h2, h3, h4⟩ := h0
    refine ⟨⟨d.1, hc, a, n, k⟩ :: T, by rw [List.map_cons, ← e1, encT_flat]; rfl, by simp [e2], fun p hp => ?_⟩
    rw [List.zip_cons_cons, List.mem_cons] at hp
    rcases hp with rfl | hp
    · exact ⟨h1, h2, h3, h4⟩
    · exact e3 p hp

theorem rows_flat (T : List TbS) : rowsL (T.map fun x => (encT x).toArray) = (flatK encT 34 T.toArray).toList := by
  have hs : ∀ X ∈ T.map (fun x => (encT x).toArray), X.size = 34 := by
    intro X hX
    obtain ⟨x, _, rfl⟩ := List.mem_map.1 hX
    simp [encT_len]
  have hl : (rowsL (T.map fun x => (encT x).toArray)).length = T.length * 34 := by rw [rowsL_len hs]; simp
  apply List.ext_getElem?
  intro t
  by_cases ht : t < T.length * 34
  · have e1 := rowsL_at hs (i := t / 34) (by simp; omega) (j := t % 34) (by omega)
    rw [show t / 34 * 34 + t % 34 = t by omega] at e1
    rw [e1]
    have h' : t < (flatK encT 34 T.toArray).size := by simpa using ht
    have e2 := get_flatK encT 34 T.toArray t (by simpa using ht)
    rw [getElem!_pos _ t h'] at e2
    have e3 : (flatK encT 34 T.toArray).toList[t]? = some ((encT T.toArray[t / 34]!)[t % 34]!) := by rw [Array.getElem?_toList, Array.getElem?_eq_getElem h', e2]
    rw [e3]
    have hi : t / 34 < T.length := by omega
    have hj : t % 34 < (encT T[t / 34]).length := by rw [encT_len]; omega
    simp [getElem!_pos, hi, hj]
  · rw [List.getElem?_eq_none (by omega), List.getElem?_eq_none (by simp; omega)]

/-- A row of the call's own, as the sort asks it. -/
theorem own_holdsT {w : World} {base n : Nat} {v : Value} {T : List TbS} (h : w.ownsRow base 29 34 v n (rowsL (T.map fun x => (encT x).toArray))) (hn : v ≠ .slice none 0 0) :
    ∃ g cap, v = .slice (some ⟨g, 0, none⟩) n cap ∧ base ≤ g ∧ g < w.heap.size ∧ n ≤ cap ∧ cap ≤ maxLen ∧ T.length = n ∧ HoldsK encT 34 w g 0 T.toArray := by
  rw [rows_flat] at h
  obtain ⟨hl, h⟩ := h
  simp at hl
  rcases h with ⟨h, _⟩ | ⟨g, cap, cur, rfl, hb, hg, hnc, hcm, hcs, ht⟩
  · exact absurd h hn
  · refine ⟨g, cap, rfl, hb, (Array.getElem?_eq_some_iff.1 hg).1, hnc, hcm, by omega, fun t hsz => ?_⟩
    have hs' : t < T.length * 34 := by simpa using hsz
    refine ⟨?_, by simp [World.frozen?, hg]⟩
    have e : cur.toList[t]? = (flatK encT 34 T.toArray).toList[t]? := by rw [← ht, List.getElem?_take_of_lt (by omega)]
    have h' : t < (flatK encT 34 T.toArray).size := by simpa using hs'
    rw [Array.getElem?_toList, Array.getElem?_toList, Array.getElem?_eq_getElem h'] at e
    rw [getElem!_pos (flatK encT 34 T.toArray) t h', Nat.zero_add]
    simp only [World.cell?, hg]
    simpa using e

theorem holds_rows {w : World} {g : Nat} {T : List TbS} (h : HoldsK encT 34 w g 0 T.toArray) : w.rangeAt g 0 (rowsL (T.map fun x => (encT x).toArray)) := by
  rw [rows_flat]
  intro j v hj
  have hlt : j < (flatK encT 34 T.toArray).size := by
    have := (List.getElem?_eq_some_iff.1 hj).1
    simpa using this
  obtain ⟨h1, _⟩ := h j hlt
  rw [h1]
  rw [Array.getElem?_toList, Array.getElem?_eq_getElem hlt] at hj
  rw [getElem!_pos (flatK encT 34 T.toArray) j hlt]
  simpa using hj

theorem below_sortedT {w : World} {base g n : Nat} {d : Array TbS} {os : Array Obj} {w0 : World} (h : Below base w0 w) (hg : base ≤ g) (hlt : g < w.heap.size) : Below base w0 (sortWorldK encT 34 w g 0 n d os) := by
  unfold sortWorldK putRowK
  have hp : Below base w0 (putRow id (Sort.ahead w n) g 0 (flatK encT 34 d)) := Lib.below_putRow h hg
  refine ⟨hp.os, hp.tape, hp.output, by rw [size_grow]; exact Nat.le_trans hp.size (Nat.le_add_right _ _), fun k hk => ?_⟩
  rw [heap_grow_old _ _ (show k < _ from ?_)]
  · exact hp.block k hk
  · have : (putRow id (Sort.ahead w n) g 0 (flatK encT 34 d)).heap.size = w.heap.size := by simp [putRow, mapBlock, Sort.ahead]
    omega

/-- slices.SortFunc with compareTables. -/
theorem sortT_row (g cap base : Nat) (T : List TbS) (w w0 : World) (hb : Below base w0 w) (hg : base ≤ g) (hlt : g < w.heap.size) (hl : T.length ≤ 1000000000) (hH : HoldsK encT 34 w g 0 T.toArray) :
    Calls Try.prog 25 #[.slice (some ⟨g, 0, none⟩) T.length cap, .func (.func 26) #[] #[]] w fun e w' =>
      e = .returned (.tuple #[]) ∧ ∃ M : List TbS, M.Perm T ∧ M.Pairwise (fun x y => ¬ ltC y.c x.c) ∧ Below base w0 w' ∧ g < w'.heap.size ∧ HoldsK encT 34 w' g 0 M.toArray ∧ w.grownBy w' (some g) := by
  have eg : ∀ args w, (callFunc 26 args).run Try.prog w = .ok (.enter 26 args) w := enters_of Try.func26 (by kernel_rfl) rfl
  have h := AnyQ.slices_SortFunc Try.sortT 34 Try.isAgg29 Try.sizeOf29 encT encT_len encT_one cfT cfT_swo 26 #[] g 0 cap T.toArray w eg (fun m os dk _ x y => ctab_grow x y _) hH hlt (by simp; omega)
  refine (show Calls Try.prog 25 #[.slice (some ⟨g, 0, none⟩) T.length cap, .func (.func 26) #[] #[]] w _ from h).mono ?_
  rintro e w' ⟨rfl, d', n, os, hp, hs, rfl⟩
  obtain ⟨hsz, _, hperm⟩ := hp
  have e1 : d'.extract 0 T.toArray.size = d' := by rw [← hsz]; exact Array.extract_size
  rw [e1, Array.extract_size] at hperm
  refine ⟨rfl, d'.toList, by simpa using hperm, ?_, below_sortedT hb hg hlt, lt_sortWorldK _ _ _ _ _ _ _ _ hlt, ?_, ⟨rfl, rfl, rfl, size_sortWorldK_c _ _ _ _ _ _ _ _, fun k hk hne => ?_⟩⟩
  · rw [List.pairwise_iff_getElem]
    intro i j hi hj hij
    have := hs i j (Nat.zero_le _) hij (by rw [← hsz]; simpa using hj)
    rw [ltOf_iff'] at this
    simp only [Array.length_toList] at hi hj
    simpa [getElem!_pos, hi, hj] using this
  · have := holdsK_sortWorldK encT 34 w g 0 n T.toArray d' os hlt hH (by simpa using hsz)
    simpa using this
  · unfold sortWorldK putRowK
    rw [heap_grow_old _ _ (by simp only [putRow, mapBlock, Sort.ahead]; simp; omega)]
    simp [putRow, mapBlock, Sort.ahead, Array.getElem?_modify, show g ≠ k from fun e => hne (by rw [e])]

end Go.Proofs.Ytdfemompijhohaa
