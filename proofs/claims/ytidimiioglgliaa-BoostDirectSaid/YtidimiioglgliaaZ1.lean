/- Several texts as one: Els, Cl, Nd, Rt, Va, RwB, OwK, OwL, TrA, TrM, BsA, OwM. -/
import Derived.Test.YtidimiioglgliaaNew
import Derived.Test.YtidimiioglgliaaRow2
import Derived.Test.YtidimiioglgliaaLt
import Derived.Test.YtidimiioglgliaaPt
import Derived.Test.YtidimiioglgliaaMath
import Derived.IntWalk
import Derived.Test.YtidimiioglgliaaPas
namespace Go.Proofs.Ytidimiioglgliaa

/-! Els -/
section
set_option linter.unusedVariables false
set_option linter.unusedSimpArgs false
open Go.RowKit

/-- What a row asks of the words 'these cells are this element; its own slices lie where P says'. -/
structure ElOK {α : Type} (sz : Nat) (El : (Value → Prop) → World → Array Value → α → Prop) : Prop where
  size : ∀ {P w X a}, El P w X a → X.size = sz
  one : ∀ {P w X a}, El P w X a → ∀ v ∈ X, v.oneCell' = true
  mono : ∀ {P Q w X a}, El P w X a → (∀ v, P v → Q v) → El Q w X a
  grown : ∀ {P w w' X a row}, El P w X a → w.grownBy w' row → (∀ g v, row = some g → P v → Off g v) → El P w' X a
  off : ∀ {P w X a g}, El P w X a → w.heap.size ≤ g → El (fun y => P y ∧ Off g y) w X a
section
variable {α : Type} {sz : Nat} {El : (Value → Prop) → World → Array Value → α → Prop}

theorem ElOK.below (E : ElOK sz El) {P : Value → Prop} {w w' : World} {X : Array Value} {a : α} (h : El P w X a) (hb : Below w.heap.size w w') : El P w' X a :=
  E.grown h (row := none) ⟨hb.os, hb.tape, hb.output, hb.size, fun k hk _ => hb.block k hk⟩ fun g v e => by cases e

/-- The cells of a row. -/
def rowsL (Xs : List (Array Value)) : List Value := (Xs.map Array.toList).flatten

theorem rowsL_app (Xs Ys : List (Array Value)) : rowsL (Xs ++ Ys) = rowsL Xs ++ rowsL Ys := by simp [rowsL]

theorem rowsL_len {Xs : List (Array Value)} (h : ∀ X ∈ Xs, X.size = sz) : (rowsL Xs).length = Xs.length * sz := by
  induction Xs with
  | nil => simp [rowsL]
  | cons X r ih =>
    have h1 := h X (by simp)
    have h2 := ih fun Y hY => h Y (by simp [hY])
    have e : rowsL (X :: r) = X.toList ++ rowsL r := rfl
    rw [e, List.length_append, h2, Array.length_toList, h1, List.length_cons, Nat.add_mul]
    omega

theorem rowsL_at {Xs : List (Array Value)} (h : ∀ X ∈ Xs, X.size = sz) {i : Nat} (hi : i < Xs.length) {j : Nat} (hj : j < sz) : (rowsL Xs)[i * sz + j]? = Xs[i].toList[j]? := by
  induction Xs generalizing i with
  | nil => simp at hi
  | cons X r ih =>
    have h1 := h X (by simp)
    have h2 : ∀ Y ∈ r, Y.size = sz := fun Y hY => h Y (by simp [hY])
    have e : rowsL (X :: r) = X.toList ++ rowsL r := rfl
    rw [e]
    cases i with
    | zero => rw [Nat.zero_mul, Nat.zero_add, List.getElem?_append_left (by simp [h1]; omega)]; rfl
    | succ i =>
      have hs : (i + 1) * sz + j = sz + (i * sz + j) := by rw [Nat.add_mul]; omega
      rw [hs, List.getElem?_append_right (by simp [h1]), Array.length_toList, h1, Nat.add_sub_cancel_left]
      exact ih h2 (by simpa using hi)

/-- All elements. -/
def AllEl (El : (Value → Prop) → World → Array Value → α → Prop) (P : Value → Prop) (w : World) (Xs : List (Array Value)) (ds : List α) : Prop := Xs.length = ds.length ∧ ∀ p ∈ Xs.zip ds, El P w p.1 p.2

theorem AllEl.nil (P : Value → Prop) (w : World) : AllEl El P w [] [] := ⟨rfl, fun p hp => by simp at hp⟩

theorem AllEl.app {P : Value → Prop} {w : World} {Xs Ys : List (Array Value)} {ds es : List α} (h : AllEl El P w Xs ds) (h2 : AllEl El P w Ys es) : AllEl El P w (Xs ++ Ys) (ds ++ es) :=
  ⟨by rw [List.length_append, List.length_append, h.1, h2.1], fun p hp => by
    rw [List.zip_append h.1, List.mem_append] at hp
    rcases hp with hp | hp
    · exact h.2 p hp
    · exact h2.2 p hp⟩

theorem AllEl.one {P : Value → Prop} {w : World} {X : Array Value} {d : α} (h : El P w X d) : AllEl El P w [X] [d] := ⟨rfl, fun p hp => by simp at hp; subst hp; exact h⟩

theorem AllEl.imp {P Q : Value → Prop} {w w' : World} {Xs : List (Array Value)} {ds : List α} (h : AllEl El P w Xs ds) (hi : ∀ X d, El P w X d → El Q w' X d) : AllEl El Q w' Xs ds := ⟨h.1, fun p hp => hi _ _ (h.2 p hp)⟩

theorem AllEl.sizes (E : ElOK sz El) {P : Value → Prop} {w : World} {Xs : List (Array Value)} {ds : List α} (h : AllEl El P w Xs ds) : ∀ X ∈ Xs, X.size = sz := by
  intro X hX
  obtain ⟨i, hi, rfl⟩ := List.mem_iff_getElem.1 hX
  have := h.1
  have hp : (Xs.zip ds)[i]'(by rw [List.length_zip]; omega) = (Xs[i], ds[i]) := by simp
  exact E.size (h.2 (Xs[i], ds[i]) (hp ▸ List.getElem_mem _))

theorem AllEl.ones (E : ElOK sz El) {P : Value → Prop} {w : World} {Xs : List (Array Value)} {ds : List α} (h : AllEl El P w Xs ds) : ∀ v ∈ rowsL Xs, v.oneCell' = true := by
  intro v hv
  simp only [rowsL, List.mem_flatten, List.mem_map] at hv
  obtain ⟨_, ⟨X, hX, rfl⟩, hv⟩ := hv
  obtain ⟨i, hi, rfl⟩ := List.mem_iff_getElem.1 hX
  have := h.1
  have hp : (Xs.zip ds)[i]'(by rw [List.length_zip]; omega) = (Xs[i], ds[i]) := by simp
  exact E.one (h.2 (Xs[i], ds[i]) (hp ▸ List.getElem_mem _)) v (by simpa using hv)

theorem AllEl.at {P : Value → Prop} {w : World} {Xs : List (Array Value)} {ds : List α} (h : AllEl El P w Xs ds) {i : Nat} (hi : i < ds.length) : El P w (Xs[i]'(by rw [h.1]; exact hi)) ds[i] := by
  have := h.1
  have hp : (Xs.zip ds)[i]'(by rw [List.length_zip]; omega) = (Xs[i], ds[i]) := by simp
  exact h.2 (Xs[i], ds[i]) (hp ▸ List.getElem_mem _)

/-- The elements' own slices lie outside the row. -/
def OffB (v : Value) (y : Value) : Prop := ∀ g, v.ownBlock = some g → Off g y

/-- A slice of structs in a row of the call's own, from block B on. -/
def OwnEl (El : (Value → Prop) → World → Array Value → α → Prop) (e : TypeId) (sz : Nat) (w : World) (B : Nat) (v : Value) (ds : List α) : Prop :=
  ∃ Xs, w.ownsRow B e sz v ds.length (rowsL Xs) ∧ AllEl El (OffB v) w Xs ds

theorem OwnEl.nil {e : TypeId} (w : World) (B : Nat) : OwnEl El e sz w B (.slice none 0 0) [] := ⟨[], World.ownsRow_nil w B e sz, AllEl.nil _ _⟩

theorem OwnEl.lt {e : TypeId} {w : World} {B : Nat} {v : Value} {ds : List α} (h : OwnEl El e sz w B v ds) : ∀ n, v.ownBlock = some n → B ≤ n ∧ n < w.heap.size := by
  obtain ⟨Xs, h1, _⟩ := h; exact World.ownsRow.lt h1

theorem OwnEl.shape {e : TypeId} {w : World} {B : Nat} {v : Value} {ds : List α} (h : OwnEl El e sz w B v ds) : ∃ a c, v = .slice a ds.length c ∧ ds.length ≤ maxLen ∧ ds.length ≤ c ∧ c ≤ maxLen := by
  obtain ⟨Xs, h1, _⟩ := h
  rcases h1.2 with ⟨rfl, h0⟩ | ⟨g, cap, cur, rfl, _, _, h2, h3, _⟩
  · exact ⟨_, _, by rw [h0], by omega, by omega, Nat.zero_le _⟩
  · exact ⟨_, _, rfl, by omega, h2, h3⟩

theorem OwnEl.grown (E : ElOK sz El) {e : TypeId} {w w' : World} {B : Nat} {v : Value} {ds : List α} {row : Option Nat} (h : OwnEl El e sz w B v ds) (hg : w.grownBy w' row) (hne : ∀ n, v.ownBlock = some n → some n ≠ row)
    (hel : ∀ X d, El (OffB v) w X d → El (OffB v) w' X d) : OwnEl El e sz w' B v ds := by
  obtain ⟨Xs, h1, h2⟩ := h
  refine ⟨Xs, ⟨h1.1, ?_⟩, h2.imp hel⟩
  rcases h1.2 with h' | ⟨g, cap, cur, rfl, h3, h4, h5⟩
  · exact .inl h'
  · exact .inr ⟨g, cap, cur, rfl, h3, by rw [hg.block g (World.ownsRow.lt h1 g rfl).2 (hne g rfl)]; exact h4, h5⟩

theorem OwnEl.call (E : ElOK sz El) {e : TypeId} {w w' : World} {B : Nat} {v : Value} {ds : List α} (h : OwnEl El e sz w B v ds) (hb : Below w.heap.size w w') : OwnEl El e sz w' B v ds :=
  h.grown E (row := none) ⟨hb.os, hb.tape, hb.output, hb.size, fun k hk _ => hb.block k hk⟩ (fun n _ => by simp) fun X d hX => E.below hX hb

/-- One element is appended. -/
theorem run_appEl (E : ElOK sz El) {t e ty : TypeId} {z : Value} {bytes : Nat} (ht : Try.prog.underlying t = some (.slice e)) (hinfo : (Try.prog.info? e).map (fun i => (i.zero, i.size, i.bytes)) = some (some z, sz, bytes)) (hzs : z.cells.size = sz) (hsz : 0 < sz)
    (w : World) (B : Nat) (v : Value) (ds : List α) (hown : OwnEl El e sz w B v ds) (g c : Nat) (X : Array Value) (d : α) (hX : El (OffB v) w X d) (hg : w.rangeAt g 0 X.toList) (h47 : (ds.length + 1) * bytes ≤ 140737488355328) (hm : ds.length + 1 ≤ maxLen) (hB : B ≤ w.heap.size) :
    ∃ v' w', (Builtin.append_ #[t, t] ty #[v, .slice (some ⟨g, 0, none⟩) 1 c]).run Try.prog w = .ok v' w' ∧ OwnEl El e sz w' B v' (ds ++ [d]) ∧ w.grownBy w' v.ownBlock ∧ (v'.ownBlock = v.ownBlock ∨ v'.ownBlock = some w.heap.size) := by
  obtain ⟨i0, hi, hz0, hz1, hz2⟩ := info_parts hinfo
  obtain ⟨Xs, hr, hA⟩ := hown
  obtain ⟨v', w', h1, h2, h3, _, h4⟩ := run_append_own_at (P := Try.prog) w B t ty e i0 z sz bytes ht hi hz0 hz1 hz2 hzs hsz v ds.length _ hr ⟨g, 0, none⟩ 1 c X.toList (by simp [E.size hX])
    (fun j u hj => by rw [Go.WideShapes.add_plain]; simpa using hg j u hj)
    (fun u hu => E.one hX u (by simpa using hu)) hm h47 hB
  refine ⟨v', w', h1, ⟨Xs ++ [X], ?_, ?_⟩, h3, h4⟩
  · rw [rowsL_app, show rowsL [X] = X.toList by simp [rowsL], List.length_append]; exact h2
  · have hold : AllEl El (OffB v) w (Xs ++ [X]) (ds ++ [d]) := hA.app (AllEl.one hX)
    rcases h4 with h4 | h4
    · refine hold.imp fun Y b hY => E.mono (E.grown hY h3 fun g' y e hy => hy g' e) fun y hy g' e => hy g' (h4 ▸ e)
    · have hnew : AllEl El (fun y => OffB v y ∧ Off w.heap.size y) w (Xs ++ [X]) (ds ++ [d]) := hold.imp fun Y b hY => E.off hY (Nat.le_refl _)
      refine hnew.imp fun Y b hY => E.mono (E.grown hY h3 fun g' y e hy => hy.1 g' e) fun y hy g' e => by rw [h4] at e; cases e; exact hy.2

/-- .. in a walk. -/
theorem wpList_appEl (E : ElOK sz El) {t e : TypeId} {z : Value} {bytes : Nat} (ht : Try.prog.underlying t = some (.slice e)) (hinfo : (Try.prog.info? e).map (fun i => (i.zero, i.size, i.bytes)) = some (some z, sz, bytes)) (hzs : z.cells.size = sz) (hsz : 0 < sz)
    {ops : Array Oper} {rest : List Oper} {o : Oper} {a : Act} {w : World} {Q : Exit → Act → World → Prop} (s x : Operand)
    (ho : o.op = .call { callee := .builtin .append, args := #[s, x], argTypes := #[t, t] }) (hw : Region.wanted o (yielded ops a.tmps) = true)
    (B : Nat) (v : Value) (ds : List α) (hs : a.eval s = v) (hown : OwnEl El e sz w B v ds) (g c : Nat) (X : Array Value) (d : α) (hx : a.eval x = .slice (some ⟨g, 0, none⟩) 1 c) (hX : El (OffB v) w X d) (hg : w.rangeAt g 0 X.toList)
    (h47 : (ds.length + 1) * bytes ≤ 140737488355328) (hm : ds.length + 1 ≤ maxLen) (hB : B ≤ w.heap.size)
    (h : ∀ v' w', OwnEl El e sz w' B v' (ds ++ [d]) → w.grownBy w' v.ownBlock → (v'.ownBlock = v.ownBlock ∨ v'.ownBlock = some w.heap.size) → wpList Try.prog ops Q rest (a.put o.dst v') w') : wpList Try.prog ops Q (o :: rest) a w :=
  BigFrame.wpList_want hw fun _ hK => by
    obtain ⟨v', w', h1, h2, h3, h4⟩ := run_appEl E (ty := o.type) ht hinfo hzs hsz w B v ds hown g c X d hX hg h47 hm hB
    unfold Oper.wp execOp
    simp only [ho, resolve, invoke, builtin, Sem.run_bind, Sem.run_pure, Result.andThen_ok, List.map_toArray, List.map_cons, List.map_nil, hs, hx, h1]
    exact hK _ _ (h v' w' h2 h3 h4)

/-- A value that is a slice of these elements. -/
def ElV (El : (Value → Prop) → World → Array Value → α → Prop) (sz : Nat) (w : World) (v : Value) (ds : List α) : Prop :=
  ∃ a cap, v = .slice a ds.length cap ∧ ds.length ≤ maxLen ∧ (ds.length = 0 ∨ ∃ b off, a = some ⟨b, off, none⟩ ∧ b < w.heap.size ∧ ∃ Xs, w.rangeAt b off (rowsL Xs) ∧ AllEl El (fun _ => True) w Xs ds)

theorem OwnEl.elV (E : ElOK sz El) {e : TypeId} {w : World} {B : Nat} {v : Value} {ds : List α} (h : OwnEl El e sz w B v ds) : ElV El sz w v ds := by
  obtain ⟨Xs, h1, h2⟩ := h
  have hlt := World.ownsRow.lt h1
  have hcell := fun (g cap : Nat) (e : v = .slice (some ⟨g, 0, none⟩) ds.length cap) => (e ▸ h1 : w.ownsRow B _ sz (.slice (some ⟨g, 0, none⟩) ds.length cap) ds.length (rowsL Xs))
  rcases h1.2 with ⟨rfl, h0⟩ | ⟨g, cap, cur, rfl, h3, h4, h5, h6, h7, h8⟩
  · exact ⟨none, 0, by rw [h0], by omega, .inl h0⟩
  · refine ⟨_, _, rfl, by omega, .inr ⟨g, 0, rfl, (hlt g rfl).2, Xs, fun j u hj => ?_, h2.imp fun X d hX => E.mono hX fun _ _ => trivial⟩⟩
    have hj' : j < ds.length * sz := by rw [← h1.1]; exact (List.getElem?_eq_some_iff.1 hj).1
    rw [← h8, List.getElem?_take_of_lt hj'] at hj
    simp only [World.cell?, h4, Nat.zero_add]
    simpa using hj

theorem ElV.below (E : ElOK sz El) {w w' : World} {v : Value} {ds : List α} (h : ElV El sz w v ds) (hb : Below w.heap.size w w') : ElV El sz w' v ds := by
  obtain ⟨a, cap, rfl, hl, hr⟩ := h
  refine ⟨a, cap, rfl, hl, ?_⟩
  rcases hr with h0 | ⟨b, off, rfl, hlt, Xs, h1, h2⟩
  · exact .inl h0
  · exact .inr ⟨b, off, rfl, Nat.lt_of_lt_of_le hlt hb.size, Xs, fun j u hj => by rw [hb.cell (p := ⟨b, off + j, none⟩) hlt]; exact h1 j u hj, h2.imp fun X d hX => E.below hX hb⟩

/-- One element of it. -/
theorem ElV.at (E : ElOK sz El) {w : World} {a : Option Addr} {l cap : Nat} {ds : List α} (h : ElV El sz w (.slice a l cap) ds) {i : Nat} (hi : i < ds.length) :
    ∃ b off X, a = some ⟨b, off, none⟩ ∧ l = ds.length ∧ b < w.heap.size ∧ w.rangeAt b (off + i * sz) X.toList ∧ El (fun _ => True) w X ds[i] ∧ X.size = sz ∧ ∀ v ∈ X, v.oneCell' = true := by
  obtain ⟨a', cap', e, hl, hr⟩ := h
  cases e
  rcases hr with h0 | ⟨b, off, rfl, hlt, Xs, h1, h2⟩
  · omega
  · have hX := h2.at hi
    have hs := E.size hX
    refine ⟨b, off, _, rfl, rfl, hlt, fun j u hj => ?_, hX, hs, E.one hX⟩
    have hj' : j < sz := by rw [← hs, ← Array.length_toList]; exact (List.getElem?_eq_some_iff.1 hj).1
    rw [Nat.add_assoc]
    exact h1 _ _ (by rw [rowsL_at (h2.sizes E) (by rw [h2.1]; exact hi) hj']; exact hj)
end
/-! ### A slice of one struct, written out -/

theorem foldl_laidE : ∀ (xs : List Value) (n : Nat) (Z : Array Value) (i : Nat), n + xs.length ≤ Z.size → ((xs.zipIdx n).foldl (fun cs x => cs.setIfInBounds x.2 x.1) Z)[i]? = if n ≤ i ∧ i < n + xs.length then xs[i - n]? else Z[i]?
  | [], n, Z, i, _ => by rw [if_neg (by simp only [List.length_nil]; omega)]; rfl
  | x :: xs, n, Z, i, h => by
    simp only [List.length_cons] at h
    rw [List.zipIdx_cons, List.foldl_cons, foldl_laidE xs (n + 1) _ i (by simp; omega)]
    simp only [List.length_cons]
    by_cases e : i = n
    · subst e
      rw [if_neg (by omega), if_pos (by omega), Nat.sub_self, Array.getElem?_setIfInBounds, if_pos rfl, if_pos (by omega)]; rfl
    · by_cases c : n + 1 ≤ i ∧ i < n + 1 + xs.length
      · rw [if_pos c, if_pos (by omega)]
        obtain ⟨t, rfl⟩ : ∃ t, i = n + 1 + t := ⟨i - (n + 1), by omega⟩
        rw [show n + 1 + t - (n + 1) = t by omega, show n + 1 + t - n = t + 1 by omega]; rfl
      · rw [if_neg c, if_neg (by omega), Array.getElem?_setIfInBounds, if_neg (by omega)]

theorem foldl_wholeE (xs : List Value) (Z : Array Value) (h : Z.size = xs.length) : xs.zipIdx.foldl (fun cs x => cs.setIfInBounds x.2 x.1) Z = xs.toArray := by
  apply Array.ext_getElem?
  intro i
  rw [foldl_laidE xs 0 Z i (by omega)]
  by_cases c : i < xs.length
  · rw [if_pos (by omega)]; simp
  · rw [if_neg (by omega), Array.getElem?_eq_none (by omega), Array.getElem?_eq_none (by simp; omega)]

theorem foldl_wholeA (X Z : Array Value) (h : Z.size = X.size) : X.zipIdx.foldl (fun cs x => cs.setIfInBounds x.2 x.1) Z = X := by
  have e : X.zipIdx.foldl (fun cs x => cs.setIfInBounds x.2 x.1) Z = X.toList.zipIdx.foldl (fun cs x => cs.setIfInBounds x.2 x.1) Z := by
    rw [← Array.foldl_toList, Array.toList_zipIdx]
  rw [e, foldl_wholeE _ _ (by simpa using h)]

theorem foldl_wholeB (X Z : Array Value) (n : Nat) (hn : n = X.size) (h : Z.size = n) : Array.foldl (fun cs x => cs.setIfInBounds x.2 x.1) Z X.zipIdx 0 n = X := by
  have e : n = X.zipIdx.size := by rw [hn, Array.size_zipIdx]
  rw [e]
  exact foldl_wholeA X Z (by rw [h, hn])

theorem buildEl {P : Program} {t e : TypeId} {Z X : Array Value} {sz : Nat} (ht : P.underlying t = some (.slice e)) (hz : ∀ w, (zeroValue e).run P w = .ok (.agg Z) w) (hi : (P.info? e).map (·.size) = some sz) (hZ : Z.size = sz) (hX : X.size = sz) (h0 : 0 < sz) (h24 : sz ≤ 16777216) (u : World) :
    (Instr.buildSlice t 1 #[(0, .agg X)]).run P u = .ok (.slice (some ⟨u.heap.size, 0, none⟩) 1 1) (u.alloc (.cells X e)) := by
  obtain ⟨i, hi1, hi2⟩ : ∃ i, P.info? e = some i ∧ i.size = sz := by
    cases h : P.info? e with
    | none => simp [h] at hi
    | some i => exact ⟨i, rfl, by simpa [h] using hi⟩
  have hso : ∀ w, (sizeOf e).run P w = .ok sz w := fun w => by simp [sizeOf, typeInfo, hi1, hi2]
  simp [Instr.buildSlice, Instr.fill, go_sem, hz, hX, hZ, Value.cells, run_underlying ht, hso]
  rw [if_neg (by omega), if_neg (by omega), foldl_wholeB X _ sz hX.symm (by simp)]

theorem wpList_buildSliceE {P : Program} {ops : Array Oper} {rest : List Oper} {op : Oper} {a : Act} {w w' : World} {Q : Exit → Act → World → Prop} (hgd : op.guard = none) (t : TypeId) (n : Nat) (ps : Array (Nat × Operand)) (ho : op.op = .buildSlice t n ps)
    (ps' : Array (Nat × Value)) (hps : ps.map (fun (i, x) => (i, a.eval x)) = ps') (v : Value) (hr : (Instr.buildSlice t n ps').run P w = .ok v w') (h : wpList P ops Q rest (a.put op.dst v) w') : wpList P ops Q (op :: rest) a w :=
  wpList_plain hgd fun _ hK => by
    unfold Oper.wp execOp
    simp only [ho, hps, Sem.run_bind, hr, Result.andThen_ok, Sem.run_pure]
    exact hK _ _ h

theorem at_buildSliceE {P : Program} {ops : Array Oper} {Q : Exit → Act → World → Prop} (dst : Option Tmp) {ty ty' : TypeId} {n : Nat} {ps : Array (Nat × Operand)} {pos : String} {aft : Array Edge} {g : Option (Nat × Bool)} {rest : List Oper} {a : Act} {w : World}
    (h : wpList P ops Q (⟨dst, .buildSlice ty n ps, ty', pos, aft, g⟩ :: rest) a w) : wpList P ops Q (⟨dst, .buildSlice ty n ps, ty', pos, aft, g⟩ :: rest) a w := h

/-- A whole element in a region that draws its order and is walked once. -/
theorem wpQuiet_load_midE {P : Program} {ops : Array Oper} {C : World → Prop} {Q : Act → Prop} {o : Oper} {rest : List Oper} {a : Act} (ty : TypeId) (x : Operand) (ho : o.op = .load ty x) (b off : Nat) (hx : a.eval x = .pointer (some ⟨b, off, none⟩)) (cs : List Value) {d : TypeDesc}
    (hC : ∀ w, C w → w.rangeAt b off cs) (hu : P.underlying ty = some d) (hd : d.isRow = true) (hi : (P.info? ty).map (·.size) = some cs.length) (hw : Region.wanted o (yielded ops a.tmps) = true)
    (h : wpQuiet P ops C Q rest (a.put o.dst (.agg cs.toArray))) : wpQuiet P ops C Q (o :: rest) a := by
  refine BigFrame.wpQuiet_want hw fun K hK => ⟨.agg cs.toArray, fun w hw' => ?_, hK _ h⟩
  have hl := run_loadVar_mid (P := P) w b off ty cs d (hC w hw') hu hd hi
  unfold Oper.quietAt execOp
  simp only [ho, hx, Instr.loadAt, Instr.sureAddr, Sem.run_bind, Sem.run_pure, Result.andThen_ok, hl]
  exact ⟨rfl, rfl⟩

theorem belT {a b c : World} (h1 : Below a.heap.size a b) (h2 : Below b.heap.size b c) : Below a.heap.size a c := h1.trans (h2.mono h1.size)

theorem ElV.shape {α : Type} {sz : Nat} {El : (Value → Prop) → World → Array Value → α → Prop} {w : World} {v : Value} {ds : List α} (h : ElV El sz w v ds) : ∃ a c, v = .slice a ds.length c ∧ ds.length ≤ maxLen := by
  obtain ⟨a, c, e, hl, _⟩ := h; exact ⟨a, c, e, hl⟩

/-- Several structs are appended. -/
theorem run_appEls {α : Type} {sz : Nat} {El : (Value → Prop) → World → Array Value → α → Prop} (E : ElOK sz El) {t e ty : TypeId} {z : Value} {bytes : Nat} (ht : Try.prog.underlying t = some (.slice e)) (hinfo : (Try.prog.info? e).map (fun i => (i.zero, i.size, i.bytes)) = some (some z, sz, bytes)) (hzs : z.cells.size = sz) (hsz : 0 < sz)
    (w : World) (B : Nat) (v : Value) (ds : List α) (hown : OwnEl El e sz w B v ds) (a : Option Addr) (c : Nat) (es : List α) (Ys : List (Array Value)) (hy : es.length = 0 ∨ ∃ b off, a = some ⟨b, off, none⟩ ∧ w.rangeAt b off (rowsL Ys)) (hA2 : AllEl El (OffB v) w Ys es)
    (h47 : (ds.length + es.length) * bytes ≤ 140737488355328) (hm : ds.length + es.length ≤ maxLen) (hB : B ≤ w.heap.size) :
    ∃ v' w', (Builtin.append_ #[t, t] ty #[v, .slice a es.length c]).run Try.prog w = .ok v' w' ∧ OwnEl El e sz w' B v' (ds ++ es) ∧ w.grownBy w' v.ownBlock ∧ (v'.ownBlock = v.ownBlock ∨ v'.ownBlock = some w.heap.size) := by
  obtain ⟨i0, hi, hz0, hz1, hz2⟩ := info_parts hinfo
  cases a with
  | none =>
    rcases hy with h0 | ⟨b, off, e, _⟩
    · obtain rfl := List.eq_nil_of_length_eq_zero h0
      obtain ⟨Xs, hr, hA⟩ := hown
      exact ⟨v, w, run_app_nil w t ty e i0 sz ht hi v _ _ hr c, ⟨Xs, by simpa using hr, by simpa using hA⟩, World.grownBy.rfl' _ _, .inl rfl⟩
    · cases e
  | some ad =>
    obtain ⟨Xs, hr, hA⟩ := hown
    have hsz2 : ∀ X ∈ Ys, X.size = sz := hA2.sizes E
    have hln : (rowsL Ys).length = es.length * sz := by rw [rowsL_len hsz2, hA2.1]
    obtain ⟨v', w', h1, h2, h3, _, h4⟩ := run_append_own_at (P := Try.prog) w B t ty e i0 z sz bytes ht hi hz0 hz1 hz2 hzs hsz v ds.length _ hr ad es.length c (rowsL Ys) hln
      (fun j u hj => by
        rcases hy with h0 | ⟨b, off, e, hrg⟩
        · have := (List.getElem?_eq_some_iff.1 hj).1
          rw [hln, h0] at this; omega
        · cases e
          rw [Go.WideShapes.add_plain]
          exact hrg j u hj)
      (fun u hu => hA2.ones E u hu) hm h47 hB
    refine ⟨v', w', h1, ⟨Xs ++ Ys, ?_, ?_⟩, h3, h4⟩
    · rw [rowsL_app, List.length_append]; exact h2
    · have hold : AllEl El (OffB v) w (Xs ++ Ys) (ds ++ es) := hA.app hA2
      rcases h4 with h4 | h4
      · refine hold.imp fun Y b hY => E.mono (E.grown hY h3 fun g' y e hy => hy g' e) fun y hy g' e => hy g' (h4 ▸ e)
      · have hnew : AllEl El (fun y => OffB v y ∧ Off w.heap.size y) w (Xs ++ Ys) (ds ++ es) := hold.imp fun Y b hY => E.off hY (Nat.le_refl _)
        refine hnew.imp fun Y b hY => E.mono (E.grown hY h3 fun g' y e hy => hy.1 g' e) fun y hy g' e => by rw [h4] at e; cases e; exact hy.2

/-- The append of one struct, carried out so. -/
theorem wp_appEl {α : Type} {sz : Nat} {El : (Value → Prop) → World → Array Value → α → Prop} (E : ElOK sz El) {t e : TypeId} {z : Value} {bytes : Nat} (ht : Try.prog.underlying t = some (.slice e)) (hinfo : (Try.prog.info? e).map (fun i => (i.zero, i.size, i.bytes)) = some (some z, sz, bytes)) (hzs : z.cells.size = sz) (hsz : 0 < sz)
    {o : Oper} {a : Act} {w : World} {K : Act → World → Prop} {Q : Exit → Act → World → Prop} (s x : Operand)
    (ho : o.op = .call { callee := .builtin .append, args := #[s, x], argTypes := #[t, t] })
    (B : Nat) (v : Value) (ds : List α) (hs : a.eval s = v) (hown : OwnEl El e sz w B v ds) (g c : Nat) (X : Array Value) (d : α) (hx : a.eval x = .slice (some ⟨g, 0, none⟩) 1 c) (hX : El (OffB v) w X d) (hg : w.rangeAt g 0 X.toList)
    (h47 : (ds.length + 1) * bytes ≤ 140737488355328) (hm : ds.length + 1 ≤ maxLen) (hB : B ≤ w.heap.size)
    (h : ∀ v' w', OwnEl El e sz w' B v' (ds ++ [d]) → w.grownBy w' v.ownBlock → (v'.ownBlock = v.ownBlock ∨ v'.ownBlock = some w.heap.size) → K (a.put o.dst v') w') : o.wp Try.prog a w K Q := by
  obtain ⟨v', w', h1, h2, h3, h4⟩ := run_appEl E (ty := o.type) ht hinfo hzs hsz w B v ds hown g c X d hX hg h47 hm hB
  unfold Oper.wp execOp
  simp only [ho, resolve, invoke, builtin, Sem.run_bind, Sem.run_pure, Result.andThen_ok, List.map_toArray, List.map_cons, List.map_nil, hs, hx, h1]
  exact h v' w' h2 h3 h4

/-- The append of several structs, carried out in a region that draws its order. -/
theorem wp_appEls {α : Type} {sz : Nat} {El : (Value → Prop) → World → Array Value → α → Prop} (E : ElOK sz El) {t e : TypeId} {z : Value} {bytes : Nat} (ht : Try.prog.underlying t = some (.slice e)) (hinfo : (Try.prog.info? e).map (fun i => (i.zero, i.size, i.bytes)) = some (some z, sz, bytes)) (hzs : z.cells.size = sz) (hsz : 0 < sz)
    {o : Oper} {a : Act} {w : World} {K : Act → World → Prop} {Q : Exit → Act → World → Prop} (s x : Operand)
    (ho : o.op = .call { callee := .builtin .append, args := #[s, x], argTypes := #[t, t] })
    (B : Nat) (v : Value) (ds : List α) (hs : a.eval s = v) (hown : OwnEl El e sz w B v ds) (ad : Option Addr) (n c : Nat) (es : List α) (Ys : List (Array Value)) (hx : a.eval x = .slice ad n c) (hn : es.length = n) (hy : es.length = 0 ∨ ∃ b off, ad = some ⟨b, off, none⟩ ∧ w.rangeAt b off (rowsL Ys)) (hA : AllEl El (OffB v) w Ys es)
    (h47 : (ds.length + es.length) * bytes ≤ 140737488355328) (hm : ds.length + es.length ≤ maxLen) (hB : B ≤ w.heap.size)
    (h : ∀ v' w', OwnEl El e sz w' B v' (ds ++ es) → w.grownBy w' v.ownBlock → (v'.ownBlock = v.ownBlock ∨ v'.ownBlock = some w.heap.size) → K (a.put o.dst v') w') : o.wp Try.prog a w K Q := by
  subst hn
  obtain ⟨v', w', h1, h2, h3, h4⟩ := run_appEls E (ty := o.type) ht hinfo hzs hsz w B v ds hown ad c es Ys hy hA h47 hm hB
  unfold Oper.wp execOp
  simp only [ho, resolve, invoke, builtin, Sem.run_bind, Sem.run_pure, Result.andThen_ok, List.map_toArray, List.map_cons, List.map_nil, hs, hx, h1]
  exact h v' w' h2 h3 h4

/-- A slice of one struct, carried out in a region that draws its order. -/
theorem wp_buildSlice {P : Program} {o : Oper} {a : Act} {w w' : World} {K : Act → World → Prop} {Q : Exit → Act → World → Prop} (t : TypeId) (n : Nat) (ps : Array (Nat × Operand)) (ho : o.op = .buildSlice t n ps)
    (ps' : Array (Nat × Value)) (hps : ps.map (fun (i, x) => (i, a.eval x)) = ps') (v : Value) (hr : (Instr.buildSlice t n ps').run P w = .ok v w') (h : K (a.put o.dst v) w') : o.wp P a w K Q := by
  unfold Oper.wp execOp
  simp only [ho, hps, Sem.run_bind, hr, Result.andThen_ok, Sem.run_pure]
  exact h
end

/-! Cl -/
section
set_option linter.unusedVariables false
set_option linter.unusedSimpArgs false
open Go.RowKit

/-- A claim. -/
structure ClD where
  source : Int
  target : Int
  root : List Int
  v : Value

def ClD.ok (x : ClD) : Prop := (0 ≤ x.source ∧ x.source ≤ 18446744073709551615) ∧ (0 ≤ x.target ∧ x.target ≤ 18446744073709551615) ∧ IsBytes 32 x.root

def ClD.parts (x : ClD) : List (List Value) := [[.int .u64 x.source], [.int .u64 x.target], bytesL x.root, [x.v]]

def ClD.cells (x : ClD) : List Value := x.parts.flatten

theorem ClD.len {x : ClD} (h : x.ok) : x.cells.length = 35 := by simp [ClD.cells, ClD.parts, bytesL_len h.2.2]

/-- A load of several cells, whose range is known. -/
theorem wpList_load_rng {P : Program} {ops : Array Oper} {rest : List Oper} {op : Oper} {a : Act} {w : World} {Q : Exit → Act → World → Prop} (ty : TypeId) (x : Operand) (ho : op.op = .load ty x)
    (b o : Nat) (L : List Value) (hr : w.rangeAt b o L) (hx : a.eval x = .pointer (some ⟨b, o, none⟩)) (d : TypeDesc)
    (hu : P.underlying ty = some d) (hd : d.isRow = true) (hi : (P.info? ty).map (·.size) = some L.length) (hw : Region.wanted op (yielded ops a.tmps) = true)
    (h : wpList P ops Q rest (a.put op.dst (.agg L.toArray)) w) : wpList P ops Q (op :: rest) a w :=
  BigFrame.wpList_want hw fun _ hK => wp_load_mid ty x ho b o hx L d hr hu hd hi (hK _ _ h)

theorem rng_app {w : World} {b o : Nat} {L M : List Value} (h : w.rangeAt b o (L ++ M)) {n : Nat} (hn : L.length = n) : w.rangeAt b o L ∧ w.rangeAt b (o + n) M := by
  refine ⟨fun j v hj => h j v ?_, fun j v hj => ?_⟩
  · rw [List.getElem?_append_left (List.getElem?_eq_some_iff.1 hj).1]; exact hj
  · have := h (n + j) v (by rw [List.getElem?_append_right (by omega), hn, Nat.add_sub_cancel_left]; exact hj)
    rw [← Nat.add_assoc] at this; exact this

theorem rng_cons {w : World} {b o : Nat} {v : Value} {M : List Value} (h : w.rangeAt b o (v :: M)) : w.cell? ⟨b, o, none⟩ = some v ∧ w.rangeAt b (o + 1) M :=
  ⟨h 0 v rfl, (rng_app (L := [v]) h rfl).2⟩

theorem rng_one {w : World} {b o : Nat} {v : Value} (h : w.rangeAt b o [v]) : w.cell? ⟨b, o, none⟩ = some v := h 0 v rfl

theorem ClD.cells_eq (x : ClD) : x.cells = .int .u64 x.source :: .int .u64 x.target :: (bytesL x.root ++ [x.v]) := by simp [ClD.cells, ClD.parts]

theorem cl_at {w : World} {b o : Nat} {x : ClD} (h : w.rangeAt b o x.cells) (hx : x.ok) :
    w.cell? ⟨b, o, none⟩ = some (.int .u64 x.source) ∧ w.cell? ⟨b, o + 1, none⟩ = some (.int .u64 x.target) ∧ w.rangeAt b (o + 2) (bytesL x.root) ∧ w.cell? ⟨b, o + 34, none⟩ = some x.v := by
  rw [ClD.cells_eq] at h
  obtain ⟨h1, h2⟩ := rng_cons h
  obtain ⟨h3, h4⟩ := rng_cons h2
  obtain ⟨h5, h6⟩ := rng_app h4 (bytesL_len hx.2.2)
  exact ⟨h1, h3, h5, rng_one h6⟩

theorem Blk.rng {w : World} {b : Nat} {L : List Value} (h : Blk w b L.toArray) : w.rangeAt b 0 L := by
  have := h.range
  simpa using this

theorem sl_at {w : World} {b : Nat} {x y : ClD} (h : Blk w b (flatP [x.cells, y.cells])) (hx : x.ok) : w.rangeAt b 0 x.cells ∧ w.rangeAt b 35 y.cells := by
  have h1 := h.part (k := 0) rfl
  have h2 := h.part (k := 1) rfl
  have e : offP [x.cells, y.cells] 1 = 35 := by simp [offP, ClD.len hx]
  rw [e] at h2
  exact ⟨h1, h2⟩

/-- An attestation; its list is the slice v. -/
structure AtD where
  slot : Int
  root : List Int
  target : CpD
  v : Value

def AtD.ok (x : AtD) : Prop := (0 ≤ x.slot ∧ x.slot ≤ 18446744073709551615) ∧ IsBytes 32 x.root ∧ x.target.ok

def AtD.parts (x : AtD) : List (List Value) := [[.int .u64 x.slot], bytesL x.root, x.target.cells, [x.v]]

/-- A verdict. -/
structure VdD where
  tag : Int
  kind : Int
  latest : List Int

def VdD.ok (x : VdD) : Prop := (0 ≤ x.tag ∧ x.tag ≤ 18446744073709551615) ∧ (-9223372036854775808 ≤ x.kind ∧ x.kind ≤ 9223372036854775807) ∧ IsBytes 32 x.latest

def VdD.parts (x : VdD) : List (List Value) := [[.int .u64 x.tag], [.int .i64 x.kind], bytesL x.latest]
end

/-! Nd -/
section
set_option linter.unusedVariables false
set_option linter.unusedSimpArgs false
open Go.RowKit

def wideL (n : Int) : List Value := [.int .u64 (l0 n), .int .u64 (l1 n), .int .u64 (l2 n), .int .u64 (l3 n)]

theorem wideL_one (n : Int) : ∀ v ∈ wideL n, v.oneCell' = true := by
  intro v hv
  simp only [wideL, List.mem_cons, List.not_mem_nil, or_false] at hv
  rcases hv with rfl | rfl | rfl | rfl <;> rfl

/-- A block. -/
structure BkD where
  pj : CpD
  pf : CpD
  slot : Int
  root : List Int
  parent : List Int
  payload : List Int
  d : Int
  pd : Int
  j : CpD
  f : CpD
  t : Bool

def BkD.ok (x : BkD) : Prop := x.pj.ok ∧ x.pf.ok ∧ (0 ≤ x.slot ∧ x.slot ≤ 18446744073709551615) ∧ IsBytes 32 x.root ∧ IsBytes 32 x.parent ∧ IsBytes 32 x.payload ∧ W256 x.d ∧ W256 x.pd ∧ x.j.ok ∧ x.f.ok

def BkD.parts (x : BkD) : List (List Value) :=
  [x.pj.cells, x.pf.cells, [.int .u64 x.slot], bytesL x.root, bytesL x.parent, bytesL x.payload, wideL x.d, wideL x.pd, x.j.cells, x.f.cells, [.bool x.t]]

theorem BkD.flat (x : BkD) : x.parts.flatten = x.pj.cells ++ (x.pf.cells ++ (.int .u64 x.slot :: (bytesL x.root ++ (bytesL x.parent ++ (bytesL x.payload ++ (wideL x.d ++ (wideL x.pd ++ (x.j.cells ++ (x.f.cells ++ [.bool x.t]))))))))) := by simp [BkD.parts]

theorem BkD.flen {x : BkD} (h : x.ok) : x.parts.flatten.length = 238 := by
  obtain ⟨h1, h2, _, h3, h4, h5, _, _, h6, h7⟩ := h
  rw [BkD.flat]
  simp [CpD.len h1, CpD.len h2, bytesL_len h3, bytesL_len h4, bytesL_len h5, CpD.len h6, CpD.len h7, wideL]

theorem BkD.one (x : BkD) : ∀ v ∈ x.parts.flatten, v.oneCell' = true := by
  intro v hv
  rw [BkD.flat] at hv
  simp only [List.mem_append, List.mem_cons, List.not_mem_nil, or_false] at hv
  rcases hv with h | h | rfl | h | h | h | h | h | h | h | rfl
  · exact CpD.one _ v h
  · exact CpD.one _ v h
  · rfl
  · exact bytesL_one _ v h
  · exact bytesL_one _ v h
  · exact bytesL_one _ v h
  · exact wideL_one _ v h
  · exact wideL_one _ v h
  · exact CpD.one _ v h
  · exact CpD.one _ v h
  · rfl

/-- Where the fields of a block lie. -/
structure BkAt (w : World) (b o : Nat) (x : BkD) : Prop where
  pj : w.rangeAt b o x.pj.cells
  pf : w.rangeAt b (o + 33) x.pf.cells
  slot : w.cell? ⟨b, o + 66, none⟩ = some (.int .u64 x.slot)
  root : w.rangeAt b (o + 67) (bytesL x.root)
  parent : w.rangeAt b (o + 99) (bytesL x.parent)
  payload : w.rangeAt b (o + 131) (bytesL x.payload)
  d : w.rangeAt b (o + 163) (wideL x.d)
  pd : w.rangeAt b (o + 167) (wideL x.pd)
  j : w.rangeAt b (o + 171) x.j.cells
  f : w.rangeAt b (o + 204) x.f.cells
  t : w.cell? ⟨b, o + 237, none⟩ = some (.bool x.t)

theorem bk_at {w : World} {b o : Nat} {x : BkD} (h : w.rangeAt b o x.parts.flatten) (hx : x.ok) : BkAt w b o x := by
  obtain ⟨h1, h2, _, h3, h4, h5, _, _, h6, h7⟩ := hx
  rw [BkD.flat] at h
  obtain ⟨a1, h⟩ := rng_app h (CpD.len h1)
  obtain ⟨a2, h⟩ := rng_app h (CpD.len h2)
  obtain ⟨a3, h⟩ := rng_cons h
  obtain ⟨a4, h⟩ := rng_app h (bytesL_len h3)
  obtain ⟨a5, h⟩ := rng_app h (bytesL_len h4)
  obtain ⟨a6, h⟩ := rng_app h (bytesL_len h5)
  obtain ⟨a7, h⟩ := rng_app h (n := 4) rfl
  obtain ⟨a8, h⟩ := rng_app h (n := 4) rfl
  obtain ⟨a9, h⟩ := rng_app h (CpD.len h6)
  obtain ⟨a10, h⟩ := rng_app h (CpD.len h7)
  exact ⟨a1, a2, a3, a4, a5, a6, a7, a8, a9, a10, rng_one h⟩

/-- A node. -/
structure NdD where
  b : BkD
  up : Int
  st : Int

def NdD.ok (x : NdD) : Prop := x.b.ok ∧ (-9223372036854775808 ≤ x.up ∧ x.up ≤ 9223372036854775807) ∧ (-9223372036854775808 ≤ x.st ∧ x.st ≤ 9223372036854775807)

def NdD.cells (x : NdD) : List Value := x.b.parts.flatten ++ [.int .i64 x.up, .int .i64 x.st]

theorem NdD.len {x : NdD} (h : x.ok) : x.cells.length = 240 := by simp only [NdD.cells, List.length_append, BkD.flen h.1]; rfl

theorem NdD.one (x : NdD) : ∀ v ∈ x.cells, v.oneCell' = true := by
  intro v hv
  simp only [NdD.cells, List.mem_append, List.mem_cons, List.not_mem_nil, or_false] at hv
  rcases hv with h | rfl | rfl
  · exact BkD.one _ v h
  · rfl
  · rfl

structure NdAt (w : World) (b o : Nat) (x : NdD) : Prop where
  all : w.rangeAt b o x.cells
  blk : w.rangeAt b o x.b.parts.flatten
  bk : BkAt w b o x.b
  up : w.cell? ⟨b, o + 238, none⟩ = some (.int .i64 x.up)
  st : w.cell? ⟨b, o + 239, none⟩ = some (.int .i64 x.st)

theorem nd_at {w : World} {b o : Nat} {x : NdD} (h : w.rangeAt b o x.cells) (hx : x.ok) : NdAt w b o x := by
  have h' := h
  unfold NdD.cells at h'
  obtain ⟨a1, a2⟩ := rng_app h' (BkD.flen hx.1)
  obtain ⟨a3, a4⟩ := rng_cons a2
  exact ⟨h, a1, bk_at a1 hx.1, a3, rng_one a4⟩

theorem NdAt.below {N : Nat} {w u : World} {b o : Nat} {x : NdD} (h : NdAt w b o x) (hx : x.ok) (hb : Below N w u) (hN : b < N) : NdAt u b o x := nd_at (Below.rng hb hN h.all) hx

/-- An element of a slice of nodes. -/
def NdEl (P : Value → Prop) (w : World) (X : Array Value) (d : NdD) : Prop := X = d.cells.toArray ∧ d.ok

theorem ndOK : ElOK 240 NdEl where
  size := fun h => by rw [h.1, List.size_toArray, NdD.len h.2]
  one := fun h v hv => by rw [h.1] at hv; exact NdD.one _ v (by simpa using hv)
  mono := fun h _ => h
  grown := fun h _ _ => h
  off := fun h _ => h

/-- A slice of nodes. -/
abbrev NodesV (w : World) (v : Value) (ns : List NdD) : Prop := ElV NdEl 240 w v ns

theorem NodesV.call {w w' : World} {v : Value} {ns : List NdD} (h : NodesV w v ns) (hb : Below w.heap.size w w') : NodesV w' v ns := ElV.below ndOK h hb

theorem NodesV.elem {w : World} {a : Option Addr} {l cap : Nat} {ns : List NdD} (h : NodesV w (.slice a l cap) ns) {i : Nat} (hi : i < ns.length) :
    ∃ b off, a = some ⟨b, off, none⟩ ∧ l = ns.length ∧ b < w.heap.size ∧ NdAt w b (off + i * 240) ns[i] ∧ ns[i].ok := by
  obtain ⟨b, off, X, h1, h2, h3, h4, ⟨h5, h6⟩, _⟩ := ElV.at ndOK h hi
  exact ⟨b, off, h1, h2, h3, nd_at (by rw [h5] at h4; exact h4) h6, h6⟩

theorem NodesV.oks {w : World} {v : Value} {ns : List NdD} (h : NodesV w v ns) : ∀ d ∈ ns, d.ok := by
  obtain ⟨a, cap, rfl, hl, hr⟩ := h
  rcases hr with h0 | ⟨b, off, rfl, hlt, Xs, h1, h2⟩
  · rw [List.eq_nil_of_length_eq_zero h0]; simp
  · intro d hd
    obtain ⟨i, hi, rfl⟩ := List.mem_iff_getElem.1 hd
    exact (h2.at hi).2

/-- The value of a tree. -/
def TreeV (w : World) (v : Value) (ns : List NdD) : Prop := ∃ s, v = .agg #[s] ∧ NodesV w s ns

theorem TreeV.call {w w' : World} {v : Value} {ns : List NdD} (h : TreeV w v ns) (hb : Below w.heap.size w w') : TreeV w' v ns := by
  obtain ⟨s, e, h⟩ := h; exact ⟨s, e, h.call hb⟩

def zeBkP : List (List Value) := [.int .u64 0 :: bytesL zeroR, .int .u64 0 :: bytesL zeroR, [.int .u64 0], bytesL zeroR, bytesL zeroR, bytesL zeroR, List.replicate 4 (.int .u64 0), List.replicate 4 (.int .u64 0), .int .u64 0 :: bytesL zeroR, .int .u64 0 :: bytesL zeroR, [.bool false]]

theorem info_node : (Try.prog.info? 54).map (fun i => (i.zero, i.size, i.bytes)) = some (some (.agg (flatP (zeBkP ++ [[.int .i64 0], [.int .i64 0]]))), 240, 352) := by kernel_rfl
end

/-! Rt -/
section
set_option linter.unusedVariables false
set_option linter.unusedSimpArgs false
open Go.RowKit

set_option maxRecDepth 100000

theorem res_cellB {P : Program} {fn : Func} {p : Tmp} {ty : TypeId} {d : TypeDesc} {tmps : Array Value} {w : World} {b : Nat} {cs : Array Value} (h : fn.results = #[.cell p ty])
    (hp : tmps.getD p undef = .pointer (some ⟨b, 0, none⟩)) (hB : Blk w b cs) (hu : P.underlying ty = some d) (hd : (match d with | .struct _ | .array _ _ => true | _ => false) = true) (hi : (P.info? ty).map (·.size) = some cs.size) :
    (results fn tmps).run P w = .ok (.agg cs) w := by
  obtain ⟨t', hg⟩ := hB
  exact results_cell_row h tmps w b t' cs (0, 0) d hp hg hu hd hi

theorem wrap_u64r (n : Int) : 0 ≤ IntKind.u64.wrap n ∧ IntKind.u64.wrap n ≤ 18446744073709551615 := by
  simp only [IntKind.wrap, IntKind.signed, IntKind.bits]
  simp
  omega

def rootL (a b c : Int) : List Int := a :: b :: (List.replicate 29 0 ++ [c])

theorem rootL_is {a b c : Int} (ha : 0 ≤ a ∧ a ≤ 255) (hb : 0 ≤ b ∧ b ≤ 255) (hc : 0 ≤ c ∧ c ≤ 255) : IsBytes 32 (rootL a b c) := by
  refine ⟨by simp [rootL], fun x hx => ?_⟩
  have hx' : x = a ∨ x = b ∨ x = 0 ∨ x = c := by simpa [rootL] using hx
  have hr : 0 ≤ x ∧ x ≤ 255 := by omega
  simp [Lit.wf, IntKind.min, IntKind.max, IntKind.signed, IntKind.bits]; omega

theorem bz_rootL (a b c : Int) (u : World) : (Instr.build 28 #[(0, .int .u8 a), (1, .int .u8 b), (31, .int .u8 c)]).run Try.prog u = .ok (.agg (bytesL (rootL a b c)).toArray) u := by kernel_rfl

/-- The root of a number. -/
def rootK (k : Int) : List Int := rootL (k % 256) (k / 256 % 256) (wrap64 (k * 7) % 256)

theorem rootK_is (k : Int) : IsBytes 32 (rootK k) := rootL_is (by omega) (by omega) (by omega)

set_option maxHeartbeats 800000 in
theorem root_k (k : Int) (w : World) : Calls Try.prog 14 #[.int .i64 k] w fun e w' => e = .returned (.agg (bytesL (rootK k)).toArray) ∧ Below w.heap.size w w' := by
  obtain ⟨ZR, hZR⟩ : ∃ Z, (bytesL zeroR).toArray = Z := ⟨_, rfl⟩
  have hsz : ZR.size = 32 := by rw [← hZR]; rfl
  obtain ⟨hz32, hst⟩ := zero_array (P := Try.prog) (t := 28) (n := 32) ZR (by rw [← hZR]; kernel_rfl) hsz (by rw [← hZR]; kernel_rfl)
  clear hst hZR
  obtain ⟨r, hr⟩ : ∃ r, Hid (rootL (k % 256) (k / 256 % 256) (wrap64 (k * 7) % 256) = r) := ⟨_, rfl⟩
  have HB := Lib.hid (bz_rootL (k % 256) (k / 256 % 256) (wrap64 (k * 7) % 256))
  rw [hr.out] at HB
  have HI : Hid (IsBytes 32 r) := by show IsBytes 32 r; rw [← hr.out]; exact rootL_is (by omega) (by omega) (by omega)
  obtain ⟨X, hX⟩ : ∃ X, Hid ((bytesL r).toArray = X) := ⟨_, rfl⟩
  rw [hX.out] at HB
  have hsX : X.size = 32 := by rw [← hX.out, List.size_toArray, bytesL_len HI.out]
  have hiX : (Try.prog.info? 28).map (·.size) = some X.size := by rw [hsX]; kernel_rfl
  have HOX : Hid (∀ v ∈ X, v.oneCell' = true) := by show ∀ v ∈ X, _; rw [← hX.out]; exact fun v hv => bytesL_one _ v (by simpa using hv)
  go_enter Try.func14, Try.ntmps14
  go_wp2_with (first
    | ((with_reducible refine at_build (some 11) ?_); refine wpList_build rfl 28 _ rfl #[(0, .int .u8 (k % 256)), (1, .int .u8 (k / 256 % 256)), (31, .int .u8 (wrap64 (k * 7) % 256))] (by simp [Act.eval, Act.put]) (.agg X) (HB.out _) ?_)
    | ((with_reducible refine at_store (.tmp 2) ?_); refine wpList_store_blk rfl 28 (.tmp 2) _ rfl w.heap.size X rfl rfl ZR (Blk.new rfl) (by rw [hsz, hsX]) hiX HOX.out ?_; intro w1 U1 B1; have HB1 := Lib.hid (U1.below ((Below.refl w.heap.size w).alloc (Nat.le_refl _) (.cells ZR 28)) (Nat.le_refl _)); have HX1 := Lib.hid B1; clear U1 B1))
  refine bodyPost_ret (res_cellB rfl rfl HX1.out Try.underlying28 rfl hiX) rfl ⟨by unfold rootK; rw [hr.out, hX.out], HB1.out⟩

theorem root_some (k : Int) (w : World) : Calls Try.prog 14 #[.int .i64 k] w fun e w' => (∃ r, IsBytes 32 r ∧ e = .returned (.agg (bytesL r).toArray)) ∧ Below w.heap.size w w' :=
  (root_k k w).mono fun _ _ h => ⟨⟨_, rootK_is k, h.1⟩, h.2⟩

theorem setCell_grown (w : World) (b j : Nat) (v : Value) : w.grownBy (w.setCell ⟨b, j, none⟩ v) (some b) :=
  ⟨rfl, rfl, rfl, by simp [World.setCell], fun k _ hk => Below.heap_setCell _ _ _ _ (fun e => hk (by rw [e]))⟩

theorem i64_and3 (n : Int) : bits .and .i64 n 3 = n % 4 := by
  have h3 : (BitVec.ofInt 64 3).toNat = 2 ^ 2 - 1 := by decide
  have key : (BitVec.ofInt 64 n &&& BitVec.ofInt 64 3).toNat = (n % ((2 ^ 64 : Nat) : Int)).toNat % 2 ^ 2 := by
    rw [BitVec.toNat_and, BitVec.toNat_ofInt, h3, Nat.and_two_pow_sub_one_eq_mod]
  show IntKind.i64.wrap ((BitVec.ofInt 64 n &&& BitVec.ofInt 64 3).toNat : Nat) = n % 4
  rw [key, IntKind.wrap_i64]
  omega

theorem i64_and3_nat (n : Int) : ∃ m : Nat, m ≤ 3 ∧ bits .and .i64 n 3 = m := ⟨(n % 4).toNat, by omega, by rw [i64_and3]; omega⟩

theorem i64_and7 (n : Int) : bits .and .i64 n 7 = n % 8 := by
  have h3 : (BitVec.ofInt 64 7).toNat = 2 ^ 3 - 1 := by decide
  have key : (BitVec.ofInt 64 n &&& BitVec.ofInt 64 7).toNat = (n % ((2 ^ 64 : Nat) : Int)).toNat % 2 ^ 3 := by
    rw [BitVec.toNat_and, BitVec.toNat_ofInt, h3, Nat.and_two_pow_sub_one_eq_mod]
  show IntKind.i64.wrap ((BitVec.ofInt 64 n &&& BitVec.ofInt 64 7).toNat : Nat) = n % 8
  rw [key, IntKind.wrap_i64]
  omega

theorem i64_and7_nat (n : Int) : ∃ m : Nat, m ≤ 7 ∧ bits .and .i64 n 7 = m := ⟨(n % 8).toNat, by omega, by rw [i64_and7]; omega⟩
end

/-! Va -/
section
set_option linter.unusedVariables false
set_option linter.unusedSimpArgs false
open Go.RowKit

def okAt (l : List Int) (n : Int) (i : Nat) : Int :=
  if l.getD i 0 < 0 ∨ n ≤ l.getD i 0 then 3 else if 0 < i ∧ l.getD i 0 ≤ l.getD (i - 1) 0 then 8 else 0

def vlGo (l : List Int) (n : Int) : Nat → Nat → Int
  | 0, _ => 0
  | f + 1, i => if okAt l n i ≠ 0 then okAt l n i else vlGo l n f (i + 1)

def vlE (l : List Int) (n : Int) : Int := if l.length = 0 then 2 else vlGo l n l.length 0

theorem vlGo_next {l : List Int} {n : Int} {k : Nat} (hk : k < l.length) : vlGo l n (l.length - k) k = if okAt l n k ≠ 0 then okAt l n k else vlGo l n (l.length - (k + 1)) (k + 1) := by
  obtain ⟨f, hf⟩ : ∃ f, l.length - k = f + 1 := ⟨l.length - k - 1, by omega⟩
  rw [hf, vlGo, show l.length - (k + 1) = f by omega]

theorem vlGo_good {l : List Int} {n : Int} : ∀ f i, vlGo l n f i = 0 → ∀ j, i ≤ j → j < i + f → okAt l n j = 0
  | 0, i, _, j, h1, h2 => by omega
  | f + 1, i, h, j, h1, h2 => by
    rw [vlGo] at h
    by_cases h0 : okAt l n i = 0
    · rw [if_neg (by simpa using h0)] at h
      by_cases hj : j = i
      · subst hj; exact h0
      · exact vlGo_good f (i + 1) h j (by omega) (by omega)
    · rw [if_pos h0] at h; exact absurd h h0

theorem okAt_zero {l : List Int} {n : Int} {i : Nat} (h : okAt l n i = 0) : 0 ≤ l.getD i 0 ∧ l.getD i 0 < n ∧ (0 < i → l.getD (i - 1) 0 < l.getD i 0) := by
  unfold okAt at h
  split at h
  · cases h
  · rename_i h1
    split at h
    · cases h
    · rename_i h2
      exact ⟨by omega, by omega, fun h3 => by omega⟩

theorem okAt_of {l : List Int} {n : Int} {i : Nat} (h1 : 0 ≤ l.getD i 0) (h2 : l.getD i 0 < n) (h3 : 0 < i → l.getD (i - 1) 0 < l.getD i 0) : okAt l n i = 0 := by
  unfold okAt
  rw [if_neg (by omega), if_neg (by omega)]

theorem vl_good {l : List Int} {n : Int} (h : vlE l n = 0) : 0 < l.length ∧ ∀ i, i < l.length → 0 ≤ l.getD i 0 ∧ l.getD i 0 < n ∧ (0 < i → l.getD (i - 1) 0 < l.getD i 0) := by
  unfold vlE at h
  split at h
  · cases h
  · rename_i h0
    exact ⟨by omega, fun i hi => okAt_zero (vlGo_good _ _ h i (Nat.zero_le _) (by omega))⟩

theorem vlGo_of {l : List Int} {n : Int} : ∀ f i, (∀ j, i ≤ j → j < i + f → okAt l n j = 0) → vlGo l n f i = 0
  | 0, i, _ => rfl
  | f + 1, i, h => by
    rw [vlGo, if_neg (by simpa using h i (Nat.le_refl _) (by omega))]
    exact vlGo_of f (i + 1) fun j h1 h2 => h j (by omega) (by omega)

theorem vl_of {l : List Int} {n : Int} (h0 : 0 < l.length) (h : ∀ i, i < l.length → 0 ≤ l.getD i 0 ∧ l.getD i 0 < n ∧ (0 < i → l.getD (i - 1) 0 < l.getD i 0)) : vlE l n = 0 := by
  unfold vlE
  rw [if_neg (by omega)]
  exact vlGo_of _ _ fun j _ h2 => by have := h j (by omega); exact okAt_of this.1 this.2.1 this.2.2

theorem okAt_vals (l : List Int) (n : Int) (i : Nat) : okAt l n i = 0 ∨ okAt l n i = 3 ∨ okAt l n i = 8 := by
  unfold okAt; split
  · simp
  · split <;> simp

theorem vlGo_vals (l : List Int) (n : Int) : ∀ f i, vlGo l n f i = 0 ∨ vlGo l n f i = 3 ∨ vlGo l n f i = 8
  | 0, _ => .inl rfl
  | f + 1, i => by
    rw [vlGo]
    split
    · exact okAt_vals l n i
    · exact vlGo_vals l n f (i + 1)

theorem okAt_bad1 {l : List Int} {n : Int} {i : Nat} (h : l.getD i 0 < 0 ∨ n ≤ l.getD i 0) : okAt l n i = 3 := by unfold okAt; rw [if_pos h]

theorem okAt_bad2 {l : List Int} {n : Int} {i : Nat} (h : ¬ (l.getD i 0 < 0 ∨ n ≤ l.getD i 0)) (h2 : 0 < i ∧ l.getD i 0 ≤ l.getD (i - 1) 0) : okAt l n i = 8 := by unfold okAt; rw [if_neg h, if_pos h2]

theorem vl_here {l : List Int} {n : Int} {k : Nat} {e : Int} (hk : k < l.length) (h0 : vlGo l n (l.length - k) k = vlE l n) (he : okAt l n k = e) (hne : e ≠ 0) : vlE l n = e := by
  rw [← h0, vlGo_next hk, he, if_pos hne]

theorem vl_on {l : List Int} {n : Int} {k : Nat} (hk : k < l.length) (h0 : vlGo l n (l.length - k) k = vlE l n) (he : okAt l n k = 0) : vlGo l n (l.length - (k + 1)) (k + 1) = vlE l n := by
  rw [← h0, vlGo_next hk, he, if_neg (by simp)]

theorem tells_true {w w' : World} {p : Prop} {en : Ending} (h : Tells w p en w') (hp : p) : en = .returned (.bool true) ∧ Below w.heap.size w w' := by
  obtain ⟨b, h1, h2, h3⟩ := h
  rw [h2.2 hp] at h1; exact ⟨h1, h3⟩

theorem tells_false {w w' : World} {p : Prop} {en : Ending} (h : Tells w p en w') (hp : ¬ p) : en = .returned (.bool false) ∧ Below w.heap.size w w' := by
  obtain ⟨b, h1, h2, h3⟩ := h
  cases b
  · exact ⟨h1, h3⟩
  · exact absurd (h2.1 rfl) hp
end

/-! RwB -/
section
set_option linter.unusedVariables false
set_option linter.unusedSimpArgs false
open Go.RowKit

set_option maxRecDepth 100000

/-- The row in block g begins with these elements; behind them lies what may. -/
def RowB (w : World) (g : Nat) (Ls : List (List Value)) : Prop := ∃ sp, Blk w g (flatP (Ls ++ [sp]))

theorem flat_len {sz : Nat} {Ls : List (List Value)} (h : ∀ L ∈ Ls, L.length = sz) : Ls.flatten.length = Ls.length * sz := by
  induction Ls with
  | nil => simp
  | cons L r ih =>
    have h1 := h L (by simp)
    have h2 := ih fun Y hY => h Y (by simp [hY])
    rw [List.flatten_cons, List.length_append, h1, h2, List.length_cons, Nat.add_mul]; omega

theorem offP_row {sz : Nat} {Ls : List (List Value)} (h : ∀ L ∈ Ls, L.length = sz) (sp : List Value) {k : Nat} (hk : k < Ls.length) : offP (Ls ++ [sp]) k = k * sz := by
  unfold offP
  rw [List.take_append_of_le_length (by omega), flat_len fun L hL => h L (List.mem_of_mem_take hL), List.length_take, Nat.min_eq_left (by omega)]

theorem RowB.lt {w : World} {g : Nat} {Ls : List (List Value)} (h : RowB w g Ls) : g < w.heap.size := by obtain ⟨sp, h⟩ := h; exact h.lt

theorem RowB.call {w w' : World} {g : Nat} {Ls : List (List Value)} (h : RowB w g Ls) (hb : Below w.heap.size w w') : RowB w' g Ls := by obtain ⟨sp, h⟩ := h; exact ⟨sp, h.call hb⟩

theorem RowB.grown {w w' : World} {g : Nat} {Ls : List (List Value)} {row : Option Nat} (h : RowB w g Ls) (hg : w.grownBy w' row) (hne : some g ≠ row) : RowB w' g Ls := by obtain ⟨sp, h⟩ := h; exact ⟨sp, h.grown hg hne⟩

theorem RowB.upd {w w' : World} {g g' : Nat} {Ls : List (List Value)} (h : RowB w g Ls) (hu : Upd g' w w') (hne : g ≠ g') : RowB w' g Ls := by obtain ⟨sp, h⟩ := h; exact ⟨sp, hu.blk h hne⟩

theorem RowB.free {w : World} {g : Nat} {Ls : List (List Value)} (h : RowB w g Ls) (j : Nat) : w.frozen? ⟨g, j, none⟩ = false := by obtain ⟨sp, h⟩ := h; exact h.free j

/-- Element k. -/
theorem RowB.elem {w : World} {g sz : Nat} {Ls : List (List Value)} (h : RowB w g Ls) (hs : ∀ L ∈ Ls, L.length = sz) {k : Nat} {L : List Value} (hk : Ls[k]? = some L) : w.rangeAt g (k * sz) L := by
  obtain ⟨sp, h⟩ := h
  have hl := (List.getElem?_eq_some_iff.1 hk).1
  have := h.part (k := k) (p := L) (by rw [List.getElem?_append_left hl]; exact hk)
  rw [offP_row hs sp hl] at this
  exact this

/-- Cell j of element k. -/
theorem RowB.cell {w : World} {g sz : Nat} {Ls : List (List Value)} (h : RowB w g Ls) (hs : ∀ L ∈ Ls, L.length = sz) {k j : Nat} {L : List Value} {v : Value} (hk : Ls[k]? = some L) (hj : L[j]? = some v) : w.cell? ⟨g, k * sz + j, none⟩ = some v := h.elem hs hk j v hj

theorem RowB.there {w : World} {g sz : Nat} {Ls : List (List Value)} (h : RowB w g Ls) (hs : ∀ L ∈ Ls, L.length = sz) {k : Nat} (hk : k < Ls.length) : w.there g (k * sz) sz := by
  obtain ⟨sp, h⟩ := h
  have := h.partThere (k := k) (p := Ls[k]) (by rw [List.getElem?_append_left hk, List.getElem?_eq_getElem hk])
  rw [offP_row hs sp hk, hs _ (List.getElem_mem hk)] at this
  exact this

/-- All of it. -/
theorem RowB.range {w : World} {g : Nat} {Ls : List (List Value)} (h : RowB w g Ls) : w.rangeAt g 0 Ls.flatten := fun j v hj => by
  obtain ⟨sp, h⟩ := h
  have hl := (List.getElem?_eq_some_iff.1 hj).1
  rw [Nat.zero_add, h.cell]
  unfold flatP
  rw [List.getElem?_toArray, List.flatten_append, List.getElem?_append_left hl]
  exact hj

/-- Element k is written. -/
theorem RowB.set {w : World} {g sz : Nat} {Ls : List (List Value)} (h : RowB w g Ls) (hs : ∀ L ∈ Ls, L.length = sz) {k : Nat} {q : List Value} (hk : k < Ls.length) (hq : q.length = sz) :
    Upd g w (w.setCells g (k * sz) q) ∧ RowB (w.setCells g (k * sz) q) g (Ls.set k q) := by
  obtain ⟨sp, h⟩ := h
  have := h.setPart (k := k) (p := Ls[k]) (q := q) (by rw [List.getElem?_append_left hk, List.getElem?_eq_getElem hk]) (by rw [hq, hs _ (List.getElem_mem hk)])
  rw [offP_row hs sp hk] at this
  exact ⟨this.1, sp, by rw [← List.set_append_left _ _ hk]; exact this.2⟩

/-- .. by an operation of a region, and of a walk. -/
theorem wp_store_row {P : Program} {op : Oper} {a : Act} {w : World} {K : Act → World → Prop} {Q : Exit → Act → World → Prop} (ty : TypeId) (x y : Operand) (ho : op.op = .store ty x y)
    (g sz k : Nat) (Ls : List (List Value)) (q : List Value) (hB : RowB w g Ls) (hs : ∀ L ∈ Ls, L.length = sz) (hk : k < Ls.length) (hx : a.eval x = .pointer (some ⟨g, k * sz, none⟩)) (hy : a.eval y = .agg q.toArray)
    (hq : q.length = sz) (hi : (P.info? ty).map (·.size) = some sz) (h1 : ∀ v ∈ q, v.oneCell' = true)
    (h : ∀ w', Upd g w w' → RowB w' g (Ls.set k q) → K (a.put op.dst undef) w') : op.wp P a w K Q := by
  have hth : w.there g (k * sz) q.toArray.size := by rw [List.size_toArray, hq]; exact hB.there hs hk
  refine wp_store_mid ty x y ho g (k * sz) q.toArray hx hy hth (by simpa [hq] using hi) (all_oneCell_toArray h1) ?_
  obtain ⟨u, v⟩ := hB.set hs hk hq
  exact h _ u v

theorem wpList_store_row {P : Program} {ops : Array Oper} {rest : List Oper} {op : Oper} {a : Act} {w : World} {Q : Exit → Act → World → Prop} (hgd : op.guard = none) (ty : TypeId) (x y : Operand) (ho : op.op = .store ty x y)
    (g sz k : Nat) (Ls : List (List Value)) (q : List Value) (hB : RowB w g Ls) (hs : ∀ L ∈ Ls, L.length = sz) (hk : k < Ls.length) (hx : a.eval x = .pointer (some ⟨g, k * sz, none⟩)) (hy : a.eval y = .agg q.toArray)
    (hq : q.length = sz) (hi : (P.info? ty).map (·.size) = some sz) (h1 : ∀ v ∈ q, v.oneCell' = true)
    (h : ∀ w', Upd g w w' → RowB w' g (Ls.set k q) → wpList P ops Q rest (a.put op.dst undef) w') : wpList P ops Q (op :: rest) a w := by
  refine wpList_plain hgd fun K hK => ?_
  exact wp_store_row ty x y ho g sz k Ls q hB hs hk hx hy hq hi h1 (fun w' u v => hK _ _ (h w' u v))

/-- An element's load in a walk, from its cells. -/
theorem wpList_load_at {P : Program} {ops : Array Oper} {rest : List Oper} {op : Oper} {a : Act} {w : World} {Q : Exit → Act → World → Prop} (ty : TypeId) (x : Operand) (ho : op.op = .load ty x)
    (b o : Nat) (hx : a.eval x = .pointer (some ⟨b, o, none⟩)) (p : List Value) (hr : w.rangeAt b o p) (d : TypeDesc)
    (hu : P.underlying ty = some d) (hd : d.isRow = true) (hi : (P.info? ty).map (·.size) = some p.length) (hw : Region.wanted op (yielded ops a.tmps) = true)
    (h : wpList P ops Q rest (a.put op.dst (.agg p.toArray)) w) : wpList P ops Q (op :: rest) a w :=
  BigFrame.wpList_want hw fun _ hK => wp_load_mid ty x ho b o hx p d hr hu hd hi (hK _ _ h)

theorem made_flat (Z : List Value) (n : Nat) : madeCells Z.toArray (n * Z.length) = flatP (List.replicate n Z) := by
  have hs : ∀ L ∈ List.replicate n Z, L.length = Z.length := fun L hL => by rw [List.eq_of_mem_replicate hL]
  apply Array.ext_getElem?
  intro i
  have ef : (flatP (List.replicate n Z))[i]? = (List.replicate n Z).flatten[i]? := by unfold flatP; rw [List.getElem?_toArray]
  rw [ef]
  have hlen : (List.replicate n Z).flatten.length = n * Z.length := by rw [flat_len hs, List.length_replicate]
  by_cases hi : i < n * Z.length
  · have hz : 0 < Z.length := Nat.pos_of_ne_zero fun e => by rw [e] at hi; simp at hi
    have hd : i / Z.length < n := (Nat.div_lt_iff_lt_mul hz).2 hi
    have hm : i % Z.length < Z.length := Nat.mod_lt _ hz
    have e1 : (madeCells Z.toArray (n * Z.length))[i]? = some Z[i % Z.length] := by
      simp [madeCells, hi, getElem!_pos, hm]
    have e2 : (List.replicate n Z).flatten[i]? = Z[i % Z.length]? := by
      have hsp := flatP_split (ps := List.replicate n Z) (k := i / Z.length) (p := Z) (by rw [List.getElem?_replicate, if_pos hd])
      rw [hsp, List.getElem?_append_right (by
        rw [List.take_replicate, flat_len (sz := Z.length) (fun L hL => by rw [List.eq_of_mem_replicate hL]), List.length_replicate, Nat.min_eq_left (by omega)]
        exact Nat.div_mul_le_self _ _)]
      rw [List.take_replicate, flat_len (sz := Z.length) (fun L hL => by rw [List.eq_of_mem_replicate hL]), List.length_replicate, Nat.min_eq_left (by omega)]
      have hdm := Nat.div_add_mod i Z.length
      rw [Nat.mul_comm] at hdm
      rw [show i - i / Z.length * Z.length = i % Z.length by omega, List.getElem?_append_left hm]
    rw [e1, e2, List.getElem?_eq_getElem hm]
  · rw [Array.getElem?_eq_none (by rw [size_madeCells]; omega), List.getElem?_eq_none (by omega)]

/-- 'make([]T, n)' of structs. -/
theorem wpList_make_els {ops : Array Oper} {rest : List Oper} {o : Oper} {a : Act} {w : World} {Q : Exit → Act → World → Prop} (hg : o.guard = none) (l : Operand) (t e : TypeId) (hop : o.op = Op.makeSlice t l l) (Z : List Value) (bytes : Nat)
    (hu : Try.prog.underlying t = some (.slice e)) (hi : (Try.prog.info? e).map (fun i => (i.zero, i.size, i.bytes)) = some (some (.agg Z.toArray), Z.length, bytes)) (kl : IntKind) (n : Nat) (hl : a.eval l = .int kl (n : Int)) (hb : bytes * n ≤ 281474976710656) (hn : n ≤ 1000000)
    (hK : ∀ w', w.grownBy w' none → w'.heap.size = w.heap.size + 1 → RowB w' w.heap.size (List.replicate n Z) → wpList Try.prog ops Q rest (a.put o.dst (.slice (some ⟨w.heap.size, 0, none⟩) n n)) w') : wpList Try.prog ops Q (o :: rest) a w := by
  obtain ⟨i0, hi0, hz0, hz1, hz2⟩ := info_parts hi
  refine wpList_plain hg fun _ hK' => ?_
  have hr := run_make (P := Try.prog) w t e i0 (.agg Z.toArray) hu hi0 hz0 kl kl n n (by omega) (by omega) (by rw [hz2, ← Int.natCast_mul]; omega) (by omega)
  simp only [Int.toNat_natCast, hz1] at hr
  have hm : madeCells (Value.agg Z.toArray).cells (n * Z.length) = flatP (List.replicate n Z) := made_flat Z n
  rw [hm] at hr
  unfold Oper.wp
  simp only [execOp, hop, hl, Sem.run_bind, hr, Result.andThen, Sem.run_pure]
  exact hK' _ _ (hK _ (World.grownBy_alloc _ _ _) (by simp) ⟨[], by
    have : flatP (List.replicate n Z ++ [[]]) = flatP (List.replicate n Z) := by simp [flatP]
    rw [this]; exact Blk.new rfl⟩)

theorem at_makeEl {P : Program} {ops : Array Oper} {Q : Exit → Act → World → Prop} {dst : Option Tmp} {t ty' : TypeId} (x : Operand) {y : Operand} {pos : String} {aft : Array Edge} {g : Option (Nat × Bool)} {rest : List Oper} {a : Act} {w : World}
    (h : wpList P ops Q (⟨dst, .makeSlice t x y, ty', pos, aft, g⟩ :: rest) a w) : wpList P ops Q (⟨dst, .makeSlice t x y, ty', pos, aft, g⟩ :: rest) a w := h

/-- A row of the call's own, as a row that may be written. -/
theorem OwnEl.rowB {α : Type} {sz : Nat} {El : (Value → Prop) → World → Array Value → α → Prop} (E : ElOK sz El) {enc : α → List Value} (hE : ∀ {P w X d}, El P w X d → X = (enc d).toArray) {e : TypeId} {w : World} {B g n cap : Nat} {ds : List α} (h : OwnEl El e sz w B (.slice (some ⟨g, 0, none⟩) n cap) ds) :
    RowB w g (ds.map enc) ∧ B ≤ g ∧ n = ds.length := by
  obtain ⟨Xs, h1, h2⟩ := h
  have hX : Xs = ds.map fun d => (enc d).toArray := by
    apply List.ext_getElem (by simp [h2.1])
    intro i hi hj
    have hid : i < ds.length := by simpa using hj
    rw [List.getElem_map]
    exact hE (h2.at hid)
  have hr : rowsL Xs = (ds.map enc).flatten := by rw [hX]; simp [rowsL, List.map_map, Function.comp_def]
  rcases h1.2 with ⟨e, _⟩ | ⟨g', cap', cur, e, hb, hg, _, _, hcs, ht⟩
  · cases e
  · cases e
    refine ⟨⟨cur.toList.drop (ds.length * sz), e, ?_⟩, hb, rfl⟩
    have : flatP (ds.map enc ++ [cur.toList.drop (ds.length * sz)]) = cur := by
      unfold flatP
      rw [List.flatten_append, ← hr, ← ht]
      simp
    rw [this]; exact hg
end

/-! OwK -/
section
set_option linter.unusedVariables false
set_option linter.unusedSimpArgs false
open Go.RowKit

/-- A slice of numbers in a row of the call's own, from block B on. -/
def OwnK (k : IntKind) (e : TypeId) (w : World) (B : Nat) (v : Value) (xs : List Int) : Prop := w.ownsRow B e 1 v xs.length (xs.map (Value.int k))

theorem OwnK.nil (k : IntKind) (e : TypeId) (w : World) (B : Nat) : OwnK k e w B (.slice none 0 0) [] := World.ownsRow_nil w B e 1

theorem OwnK.lt {k : IntKind} {e : TypeId} {w : World} {B : Nat} {v : Value} {xs : List Int} (h : OwnK k e w B v xs) : ∀ n, v.ownBlock = some n → B ≤ n ∧ n < w.heap.size := World.ownsRow.lt h

theorem OwnK.ints {k : IntKind} {e : TypeId} {w : World} {B : Nat} {v : Value} {xs : List Int} (h : OwnK k e w B v xs) (hm : xs.length ≤ maxLen) : Ints k w v xs := Ints.own h hm

theorem OwnK.lo {k : IntKind} {e : TypeId} {w : World} {B : Nat} {v : Value} {xs : List Int} (h : OwnK k e w B v xs) : ∀ x l c, v = .slice (some x) l c → B ≤ x.block ∧ x.block < w.heap.size := by
  rintro x l c rfl
  rcases h.2 with ⟨e, _⟩ | ⟨g, cap, cur, e, h1, h2, _⟩
  · cases e
  · cases e; exact h.lt g rfl

theorem OwnK.shape {k : IntKind} {e : TypeId} {w : World} {B : Nat} {v : Value} {xs : List Int} (h : OwnK k e w B v xs) : ∃ a l c, v = .slice a l c := by
  rcases h.2 with ⟨rfl, _⟩ | ⟨g, cap, cur, rfl, _⟩
  · exact ⟨_, _, _, rfl⟩
  · exact ⟨_, _, _, rfl⟩

theorem OwnK.grown {k : IntKind} {e : TypeId} {w w' : World} {B : Nat} {v : Value} {xs : List Int} {row : Option Nat} (h : OwnK k e w B v xs) (hg : w.grownBy w' row) (hne : ∀ n, v.ownBlock = some n → some n ≠ row) : OwnK k e w' B v xs := by
  refine ⟨h.1, ?_⟩
  rcases h.2 with h' | ⟨g, cap, cur, rfl, h2, h3, h4⟩
  · exact .inl h'
  · exact .inr ⟨g, cap, cur, rfl, h2, by rw [hg.block g (h.lt g rfl).2 (hne g rfl)]; exact h3, h4⟩

theorem run_app1 {k : IntKind} {t e : TypeId} {bytes : Nat} (ty : TypeId) (hinfo : (Try.prog.info? e).map (fun i => (i.zero, i.size, i.bytes)) = some (some (.int k 0), 1, bytes)) (hby : bytes ≤ 8) (ht : Try.prog.underlying t = some (.slice e))
    (w : World) (B : Nat) (v : Value) (xs : List Int) (hown : OwnK k e w B v xs) (g c : Nat) (x : Int) (hg : w.cell? ⟨g, 0, none⟩ = some (.int k x)) (h47 : xs.length ≤ 1000000000000) (hB : B ≤ w.heap.size) :
    ∃ v' w', (Builtin.append_ #[t, t] ty #[v, .slice (some ⟨g, 0, none⟩) 1 c]).run Try.prog w = .ok v' w' ∧ OwnK k e w' B v' (xs ++ [x]) ∧ w.grownBy w' v.ownBlock ∧ (v'.ownBlock = v.ownBlock ∨ v'.ownBlock = some w.heap.size) := by
  obtain ⟨i0, hi, hz0, hz1, hz2⟩ := info_parts hinfo
  obtain ⟨v', w', h1, h2, h3, _, h4⟩ := run_append_own_at (P := Try.prog) w B t ty e i0 (.int k 0) 1 bytes ht hi hz0 hz1 hz2 rfl (by decide) v xs.length _ hown ⟨g, 0, none⟩ 1 c [.int k x] (by simp)
    (fun j u hj => by
      cases j with
      | zero => rw [Go.WideShapes.add_plain]; simp at hj; subst hj; exact hg
      | succ j => simp at hj)
    (by intro u hu; rw [List.mem_singleton.1 hu]; rfl) (by unfold maxLen; omega) (by have : (xs.length + 1) * bytes ≤ (xs.length + 1) * 8 := Nat.mul_le_mul_left _ hby; omega) hB
  refine ⟨v', w', h1, ?_, h3, h4⟩
  have e1 : xs.map (Value.int k) ++ [.int k x] = (xs ++ [x]).map (Value.int k) := by simp
  rw [e1] at h2
  unfold OwnK
  rw [List.length_append]
  exact h2

/-- An append of one number, in a walk. -/
theorem wpList_app1 {k : IntKind} {t e : TypeId} {bytes : Nat} (hinfo : (Try.prog.info? e).map (fun i => (i.zero, i.size, i.bytes)) = some (some (.int k 0), 1, bytes)) (hby : bytes ≤ 8) (ht : Try.prog.underlying t = some (.slice e))
    {ops : Array Oper} {rest : List Oper} {o : Oper} {a : Act} {w : World} {Q : Exit → Act → World → Prop} (s x : Operand)
    (ho : o.op = .call { callee := .builtin .append, args := #[s, x], argTypes := #[t, t] }) (hw : Region.wanted o (yielded ops a.tmps) = true)
    (B : Nat) (v : Value) (xs : List Int) (hs : a.eval s = v) (hown : OwnK k e w B v xs) (g c : Nat) (y : Int) (hx : a.eval x = .slice (some ⟨g, 0, none⟩) 1 c) (hg : w.cell? ⟨g, 0, none⟩ = some (.int k y)) (h47 : xs.length ≤ 1000000000000) (hB : B ≤ w.heap.size)
    (h : ∀ v' w', OwnK k e w' B v' (xs ++ [y]) → w.grownBy w' v.ownBlock → (v'.ownBlock = v.ownBlock ∨ v'.ownBlock = some w.heap.size) → wpList Try.prog ops Q rest (a.put o.dst v') w') : wpList Try.prog ops Q (o :: rest) a w :=
  BigFrame.wpList_want hw fun _ hK => by
    obtain ⟨v', w', h1, h2, h3, h4⟩ := run_app1 o.type hinfo hby ht w B v xs hown g c y hg h47 hB
    unfold Oper.wp execOp
    simp only [ho, resolve, invoke, builtin, Sem.run_bind, Sem.run_pure, Result.andThen_ok, List.map_toArray, List.map_cons, List.map_nil, hs, hx, h1]
    exact hK _ _ (h v' w' h2 h3 h4)

theorem info_int : (Try.prog.info? 3).map (fun i => (i.zero, i.size, i.bytes)) = some (some (.int .i64 0), 1, 8) := by kernel_rfl

theorem info_u64c : (Try.prog.info? 22).map (fun i => (i.zero, i.size, i.bytes)) = some (some (.int .u64 0), 1, 8) := by kernel_rfl

theorem grownBy_new {w w1 w2 : World} {g : Nat} {row : Option Nat} (h1 : w.grownBy w1 (some g)) (h2 : w1.grownBy w2 row) (hr : ∀ n, row = some n → w.heap.size ≤ n) : w.grownBy w2 (some g) :=
  ⟨h2.os.trans h1.os, h2.tape.trans h1.tape, h2.output.trans h1.output, Nat.le_trans h1.size h2.size, fun k hk hne => (h2.block k (Nat.lt_of_lt_of_le hk h1.size) (fun e => by have := hr k e.symm; omega)).trans (h1.block k hk hne)⟩
end

/-! OwL -/
section
set_option linter.unusedVariables false
set_option linter.unusedSimpArgs false
open Go.RowKit

theorem oneK (k : IntKind) (m : List Int) : ∀ v ∈ m.map (Value.int k), v.oneCell' = true := by
  intro v hv
  obtain ⟨x, _, rfl⟩ := List.mem_map.1 hv
  rfl

/-- Several numbers are appended. -/
theorem run_appK {k : IntKind} {t e : TypeId} {bytes : Nat} (ty : TypeId) (hinfo : (Try.prog.info? e).map (fun i => (i.zero, i.size, i.bytes)) = some (some (.int k 0), 1, bytes)) (hby : bytes ≤ 8) (ht : Try.prog.underlying t = some (.slice e))
    (w : World) (B : Nat) (v : Value) (xs : List Int) (hown : OwnK k e w B v xs) (y : Value) (m : List Int) (hy : Ints k w y m) (h47 : xs.length + m.length ≤ 1000000000000) (hB : B ≤ w.heap.size) :
    ∃ v' w', (Builtin.append_ #[t, t] ty #[v, y]).run Try.prog w = .ok v' w' ∧ OwnK k e w' B v' (xs ++ m) ∧ w.grownBy w' v.ownBlock ∧ (v'.ownBlock = v.ownBlock ∨ v'.ownBlock = some w.heap.size) := by
  obtain ⟨i0, hi, hz0, hz1, hz2⟩ := info_parts hinfo
  obtain ⟨a, len, cap, rfl, hl, hm, hr⟩ := hy
  rcases a with _ | a
  · rcases hr with rfl | ⟨b, off, e, _⟩
    · obtain rfl : m = [] := List.eq_nil_of_length_eq_zero hl
      exact ⟨v, w, run_app_nil w t ty e i0 1 ht hi v _ _ hown cap, by simpa using hown, World.grownBy.rfl' _ _, .inl rfl⟩
    · cases e
  · have hcell : ∀ j u, (m.map (Value.int k))[j]? = some u → w.cell? (a.add j) = some u := by
      intro j u hj
      have hjl : j < m.length := by
        have := (List.getElem?_eq_some_iff.1 hj).1
        simpa using this
      rcases hr with h0 | ⟨b, off, e, _, hc⟩
      · omega
      · cases e
        rw [Go.WideShapes.add_plain, hc j (by omega)]
        rw [← hj]
        simp [List.getD, List.getElem?_eq_getElem hjl]
    obtain ⟨v', w', h1, h2, h3, _, h4⟩ := run_append_own_at (P := Try.prog) w B t ty e i0 (.int k 0) 1 bytes ht hi hz0 hz1 hz2 rfl (by decide) v xs.length _ hown a len cap (m.map (Value.int k)) (by simp [hl]) hcell (oneK k m) (by unfold maxLen; omega) (by have : (xs.length + len) * bytes ≤ (xs.length + len) * 8 := Nat.mul_le_mul_left _ hby; omega) hB
    refine ⟨v', w', h1, ?_, h3, h4⟩
    rw [← List.map_append] at h2
    show w'.ownsRow B e 1 v' (xs ++ m).length _
    rw [List.length_append, hl]; exact h2

theorem wpList_appK {k : IntKind} {t e : TypeId} {bytes : Nat} (hinfo : (Try.prog.info? e).map (fun i => (i.zero, i.size, i.bytes)) = some (some (.int k 0), 1, bytes)) (hby : bytes ≤ 8) (ht : Try.prog.underlying t = some (.slice e))
    {ops : Array Oper} {rest : List Oper} {o : Oper} {a : Act} {w : World} {Q : Exit → Act → World → Prop} (s x : Operand)
    (ho : o.op = .call { callee := .builtin .append, args := #[s, x], argTypes := #[t, t] }) (hw : Region.wanted o (yielded ops a.tmps) = true)
    (B : Nat) (v : Value) (xs : List Int) (hs : a.eval s = v) (hown : OwnK k e w B v xs) (y : Value) (m : List Int) (hx : a.eval x = y) (hy : Ints k w y m) (h47 : xs.length + m.length ≤ 1000000000000) (hB : B ≤ w.heap.size)
    (h : ∀ v' w', OwnK k e w' B v' (xs ++ m) → w.grownBy w' v.ownBlock → (v'.ownBlock = v.ownBlock ∨ v'.ownBlock = some w.heap.size) → wpList Try.prog ops Q rest (a.put o.dst v') w') : wpList Try.prog ops Q (o :: rest) a w :=
  BigFrame.wpList_want hw fun _ hK => by
    obtain ⟨v', w', h1, h2, h3, h4⟩ := run_appK o.type hinfo hby ht w B v xs hown y m hy h47 hB
    unfold Oper.wp execOp
    simp only [ho, resolve, invoke, builtin, Sem.run_bind, Sem.run_pure, Result.andThen_ok, List.map_toArray, List.map_cons, List.map_nil, hs, hx, h1]
    exact hK _ _ (h v' w' h2 h3 h4)

/-- The same, carried out in a region that draws its order. -/
theorem wp_appK {k : IntKind} {t e : TypeId} {bytes : Nat} (hinfo : (Try.prog.info? e).map (fun i => (i.zero, i.size, i.bytes)) = some (some (.int k 0), 1, bytes)) (hby : bytes ≤ 8) (ht : Try.prog.underlying t = some (.slice e))
    {o : Oper} {a : Act} {w : World} {K : Act → World → Prop} {Q : Exit → Act → World → Prop} (s x : Operand)
    (ho : o.op = .call { callee := .builtin .append, args := #[s, x], argTypes := #[t, t] })
    (B : Nat) (v : Value) (xs : List Int) (hs : a.eval s = v) (hown : OwnK k e w B v xs) (y : Value) (m : List Int) (hx : a.eval x = y) (hy : Ints k w y m) (h47 : xs.length + m.length ≤ 1000000000000) (hB : B ≤ w.heap.size)
    (h : ∀ v' w', OwnK k e w' B v' (xs ++ m) → w.grownBy w' v.ownBlock → (v'.ownBlock = v.ownBlock ∨ v'.ownBlock = some w.heap.size) → K (a.put o.dst v') w') : o.wp Try.prog a w K Q := by
  obtain ⟨v', w', h1, h2, h3, h4⟩ := run_appK o.type hinfo hby ht w B v xs hown y m hy h47 hB
  unfold Oper.wp execOp
  simp only [ho, resolve, invoke, builtin, Sem.run_bind, Sem.run_pure, Result.andThen_ok, List.map_toArray, List.map_cons, List.map_nil, hs, hx, h1]
  exact h v' w' h2 h3 h4

/-- The first k numbers of a slice, and those behind them. -/
theorem Ints.take {k : IntKind} {w : World} {a : Option Addr} {len cap : Nat} {xs : List Int} (h : Ints k w (.slice a len cap) xs) {j : Nat} (hj : j ≤ len) (c : Nat) : Ints k w (.slice a j c) (xs.take j) := by
  obtain ⟨a', l', c', e, hl, hm, hr⟩ := h
  cases e
  refine ⟨a, j, c, rfl, by simp; omega, by omega, ?_⟩
  rcases hr with h0 | ⟨b, off, rfl, hb, hc⟩
  · exact .inl (by omega)
  · exact .inr ⟨b, off, rfl, hb, fun i hi => by rw [hc i (by omega)]; simp [List.getD, List.getElem?_take_of_lt hi]⟩

theorem Ints.drop {k : IntKind} {w : World} {a : Option Addr} {len cap : Nat} {xs : List Int} (h : Ints k w (.slice a len cap) xs) {j : Nat} (hj : j ≤ len) (hc : len ≤ cap) (c : Nat) : Ints k w (.slice (if cap = j then a else a.map (·.add (j * 1))) (len - j) c) (xs.drop j) := by
  obtain ⟨a', l', c', e, hl, hm, hr⟩ := h
  cases e
  refine ⟨_, len - j, c, rfl, by simp; omega, by omega, ?_⟩
  rcases hr with h0 | ⟨b, off, rfl, hb, hce⟩
  · exact .inl (by omega)
  · by_cases hck : cap = j
    · exact .inl (by omega)
    rw [if_neg hck]
    refine .inr ⟨b, off + j * 1, by simp [Go.WideShapes.add_plain], hb, fun i hi => ?_⟩
    have := hce (j + i) (by omega)
    rw [show off + j * 1 + i = off + (j + i) by omega, this]
    simp [List.getD, List.getElem?_drop]

theorem OwnK.cap {k : IntKind} {e : TypeId} {w : World} {B : Nat} {v : Value} {l : List Int} (h : OwnK k e w B v l) : ∃ a c, v = .slice a l.length c ∧ l.length ≤ c := by
  rcases h.2 with ⟨rfl, h0⟩ | ⟨g, cap, cur, rfl, _, _, h2, _⟩
  · exact ⟨_, _, by rw [h0], by omega⟩
  · exact ⟨_, _, rfl, h2⟩

/-- The slice has room for what it holds. -/
def CapOK (v : Value) : Prop := ∀ a n c, v = .slice a n c → n ≤ c

theorem CapOK.nil : CapOK (.slice none 0 0) := fun a n c e => by cases e; omega

theorem OwnK.capOK {k : IntKind} {e : TypeId} {w : World} {B : Nat} {v : Value} {l : List Int} (h : OwnK k e w B v l) : CapOK v := by
  obtain ⟨a, c, rfl, hc⟩ := h.cap
  intro a' n c' e; cases e; exact hc

/-- Slicings, whatever the element type. -/
theorem runSlHi {t e : TypeId} {sz : Nat} (ht : Try.prog.underlying t = some (.slice e)) (h37 : Try.prog.underlying t = some (.slice (Try.prog.elem t))) (hs : ∀ w, (sizeOf e).run Try.prog w = .ok sz w) (a : Option Addr) (n cap k : Nat) (hk : k ≤ cap) (w : World) :
    (Instr.sliceAt t (.slice a n cap) none (some (.int .i64 k)) none).run Try.prog w = .ok (.slice a k cap) w := by
  refine (run_sliceAt_slice _ _ _ _ _ _ h37).trans ?_
  have h1 : (0 : Int) ≤ k ∧ (k : Int) ≤ cap := by omega
  simp [Instr.slice, run_underlying ht, Instr.sliceBounds, Instr.sliceBound, asIntOf, h1, hs w, hk]
  intro _
  cases a <;> simp [Addr.add]

theorem runSlLo {t e : TypeId} {sz : Nat} (ht : Try.prog.underlying t = some (.slice e)) (h37 : Try.prog.underlying t = some (.slice (Try.prog.elem t))) (hs : ∀ w, (sizeOf e).run Try.prog w = .ok sz w) (a : Option Addr) (n cap k : Nat) (hk : k ≤ n) (w : World) :
    (Instr.sliceAt t (.slice a n cap) (some (.int .i64 k)) none none).run Try.prog w = .ok (.slice (if cap = k then a else a.map (·.add (k * sz))) (n - k) (cap - k)) w := by
  refine (run_sliceAt_slice _ _ _ _ _ _ h37).trans ?_
  have h1 : (0 : Int) ≤ k ∧ (k : Int) ≤ n := by omega
  simp [Instr.slice, run_underlying ht, Instr.sliceBounds, Instr.sliceBound, asIntOf, h1, hs w, hk]

/-- A slicing is taken first. -/
theorem heldSlice {P : Program} {ops : Array Oper} {Q : Exit → Act → World → Prop} {S : World → Prop} (i : Nat) {oi : Oper} {fuel : Nat} {listed : Array Bool} {a : Act} {w : World} (hi : ops[i]? = some oi)
    (hs : Region.noSelect ops = true) (hf : Region.free .any ops listed i = true) (hr : (Region.ready .any ops listed).contains i = true)
    (hQ : ∀ v c a w, Q (.panic c) (a.put oi.dst v) w → Q (.panic c) a w) (hw : Region.wanted oi (yielded ops a.tmps) = true) (t : TypeId) (x : Operand) (lo hi' mx : Option Operand) (ho : oi.op = .slice t x lo hi' mx)
    (xv : Value) (lv hv mv : Option Value) (hx : a.eval x = xv) (hl : lo.map a.eval = lv) (hh : hi'.map a.eval = hv) (hm : mx.map a.eval = mv) (v : Value) (hrun : ∀ u, (Instr.sliceAt t xv lv hv mv).run P u = .ok v u) (hS : S w)
    (h : wpAnyH P .any ops Q S fuel (listed.setIfInBounds i true) (a.put oi.dst v) w) : wpAnyH P .any ops Q S (fuel + 1) listed a w :=
  wpAnyH_take hi hs hf hr (hQ _) (.inl ⟨hw, fun u _ => by
    unfold execOp
    simp only [ho, hx, hl, hh, hm, Sem.run_bind, hrun, Result.andThen_ok, Sem.run_pure]⟩) hS h

theorem bs_int (n : Int) (u : World) : (Instr.buildSlice 40 1 #[(0, .int .i64 n)]).run Try.prog u = .ok (.slice (some ⟨u.heap.size, 0, none⟩) 1 1) (u.alloc (.cells #[.int .i64 n] 3)) := by kernel_rfl

theorem OwnK.shapeL {k : IntKind} {e : TypeId} {w : World} {B : Nat} {v : Value} {xs : List Int} (h : OwnK k e w B v xs) : ∃ a c, v = .slice a xs.length c := by
  rcases h.2 with ⟨rfl, h0⟩ | ⟨g, cap, cur, rfl, _⟩
  · exact ⟨_, _, by rw [h0]⟩
  · exact ⟨_, _, rfl⟩

theorem OwnK.call {k : IntKind} {e : TypeId} {w w' : World} {B : Nat} {v : Value} {xs : List Int} (h : OwnK k e w B v xs) (hb : Below w.heap.size w w') : OwnK k e w' B v xs :=
  h.grown (row := none) ⟨hb.os, hb.tape, hb.output, hb.size, fun k hk _ => hb.block k hk⟩ (fun n _ => by simp)

theorem OwnK.new {k : IntKind} {e : TypeId} {w : World} {B : Nat} {v : Value} {xs : List Int} (h : OwnK k e w B v xs) : New B v := fun z l c e' h0 => by
  rcases h.2 with ⟨rfl, _⟩ | ⟨g, cap, cur, rfl, hb, _⟩
  · cases e'
  · cases e'; exact hb

theorem upd_grown {w w' : World} {s : Nat} (h : Upd s w w') : w.grownBy w' (some s) := ⟨h.os, h.tape, h.output, by rw [h.size]; exact Nat.le_refl _, fun k _ hk => h.block k (fun e => hk (by rw [e]))⟩

theorem wpQuiet_build {P : Program} {ops : Array Oper} {C : World → Prop} {Q : Act → Prop} {o : Oper} {rest : List Oper} {a : Act} (t : TypeId) (ps : Array (Nat × Operand)) (ho : o.op = .build t ps) (ps' : Array (Nat × Value)) (hps : ps.map (fun (i, x) => (i, a.eval x)) = ps') (v : Value)
    (hC : ∀ w, (Instr.build t ps').run P w = .ok v w) (hw : Region.wanted o (yielded ops a.tmps) = true) (h : wpQuiet P ops C Q rest (a.put o.dst v)) : wpQuiet P ops C Q (o :: rest) a := by
  refine BigFrame.wpQuiet_want hw fun K hK => ⟨v, fun w hw' => ?_, hK _ h⟩
  unfold Oper.quietAt execOp
  simp only [ho, hps, Sem.run_bind, Sem.run_pure, Result.andThen_ok, hC w]
  exact ⟨rfl, rfl⟩

theorem at_qbuild {P : Program} {ops : Array Oper} {C : World → Prop} {Q : Act → Prop} (dst : Option Tmp) {t ty' : TypeId} {ps : Array (Nat × Operand)} {pos : String} {aft : Array Edge} {g : Option (Nat × Bool)} {rest : List Oper} {a : Act}
    (h : wpQuiet P ops C Q (⟨dst, .build t ps, ty', pos, aft, g⟩ :: rest) a) : wpQuiet P ops C Q (⟨dst, .build t ps, ty', pos, aft, g⟩ :: rest) a := h
end

/-! TrA -/
section
set_option linter.unusedVariables false
set_option linter.unusedSimpArgs false
open Go.RowKit

set_option maxRecDepth 100000

/-- The index of the first node with this root from i on, -1 if there is none. -/
def findGo (ns : List NdD) (r : List Int) : Nat → Nat → Int
  | 0, _ => -1
  | f + 1, i => if ((ns[i]?).map (fun d => d.b.root)) = some r then i else findGo ns r f (i + 1)

def findN (ns : List NdD) (r : List Int) : Int := findGo ns r ns.length 0

theorem findGo_step {ns : List NdD} {r : List Int} {k : Nat} (hk : k < ns.length) : findGo ns r (ns.length - k) k = if ns[k].b.root = r then (k : Int) else findGo ns r (ns.length - (k + 1)) (k + 1) := by
  rw [show ns.length - k = (ns.length - (k + 1)) + 1 by omega]
  show (if ((ns[k]?).map (fun d => d.b.root)) = some r then (k : Int) else findGo ns r (ns.length - (k + 1)) (k + 1)) = _
  rw [List.getElem?_eq_getElem hk]
  simp

theorem findGo_spec (ns : List NdD) (r : List Int) : ∀ f i, (findGo ns r f i = -1 ∧ ∀ j, i ≤ j → j < i + f → (hj : j < ns.length) → ns[j].b.root ≠ r) ∨ ∃ k : Nat, i ≤ k ∧ k < i + f ∧ ∃ hk : k < ns.length, findGo ns r f i = k ∧ ns[k].b.root = r ∧ ∀ j, i ≤ j → j < k → (hj : j < ns.length) → ns[j].b.root ≠ r
  | 0, i => .inl ⟨rfl, fun j h1 h2 _ => by omega⟩
  | f + 1, i => by
    unfold findGo
    by_cases h : ((ns[i]?).map (fun d => d.b.root)) = some r
    · rw [if_pos h]
      by_cases hi : i < ns.length
      · rw [List.getElem?_eq_getElem hi] at h
        exact .inr ⟨i, Nat.le_refl _, by omega, hi, rfl, by simpa using h, fun j h1 h2 _ => by omega⟩
      · rw [List.getElem?_eq_none (by omega)] at h; cases h
    · rw [if_neg h]
      have hni : ∀ hi : i < ns.length, ns[i].b.root ≠ r := fun hi e => h (by rw [List.getElem?_eq_getElem hi]; simp [e])
      rcases findGo_spec ns r f (i + 1) with ⟨h1, h2⟩ | ⟨k, h1, h2, hk, h3, h4, h5⟩
      · refine .inl ⟨h1, fun j h3 h4 hj => ?_⟩
        by_cases e : j = i
        · subst e; exact hni hj
        · exact h2 j (by omega) (by omega) hj
      · refine .inr ⟨k, by omega, by omega, hk, h3, h4, fun j h6 h7 hj => ?_⟩
        by_cases e : j = i
        · subst e; exact hni hj
        · exact h5 j (by omega) h7 hj

theorem findN_spec (ns : List NdD) (r : List Int) : (findN ns r = -1 ∧ ∀ j, (hj : j < ns.length) → ns[j].b.root ≠ r) ∨ ∃ k : Nat, ∃ hk : k < ns.length, findN ns r = k ∧ ns[k].b.root = r ∧ ∀ j, j < k → (hj : j < ns.length) → ns[j].b.root ≠ r := by
  rcases findGo_spec ns r ns.length 0 with ⟨h1, h2⟩ | ⟨k, _, _, hk, h3, h4, h5⟩
  · exact .inl ⟨h1, fun j hj => h2 j (Nat.zero_le _) (by omega) hj⟩
  · exact .inr ⟨k, hk, h3, h4, fun j hj => h5 j (Nat.zero_le _) hj⟩

theorem findN_rng (ns : List NdD) (r : List Int) : -1 ≤ findN ns r ∧ findN ns r < ns.length := by
  rcases findN_spec ns r with ⟨h, _⟩ | ⟨k, hk, h, _⟩ <;> rw [h] <;> omega

def FindI (w : World) (ns : List NdD) (r : List Int) (T X : Array Value) (i : Value) (wr : World) : Prop :=
  ∃ k : Nat, k ≤ ns.length ∧ i = .int .i64 k ∧ findGo ns r (ns.length - k) k = findN ns r ∧ Blk wr w.heap.size T ∧ Blk wr (w.heap.size + 1) X ∧ Below w.heap.size w wr

set_option maxHeartbeats 4000000 in
theorem find_any (v : Value) (ns : List NdD) (r : List Int) (w : World) (hN : NodesV w v ns) (hr : IsBytes 32 r) :
    Calls Try.prog 29 #[.agg #[v], .agg (bytesL r).toArray] w fun e w' => e = .returned (.int .i64 (findN ns r)) ∧ Below w.heap.size w w' := by
  obtain ⟨a, cap, rfl, hmx⟩ := hN.shape
  unfold maxLen at hmx
  have HN := Lib.hid hN
  have HR := Lib.hid hr
  obtain ⟨q, hq⟩ : ∃ q, Hid (findN ns r = q) := ⟨_, Lib.hid rfl⟩
  rw [hq.out]
  obtain ⟨X, hX⟩ : ∃ X, Hid ((bytesL r).toArray = X) := ⟨_, Lib.hid rfl⟩
  rw [hX.out]
  have hsX : X.size = 32 := by rw [← hX.out, List.size_toArray, bytesL_len hr]
  have hiX : (Try.prog.info? 28).map (·.size) = some X.size := by rw [hsX]; kernel_rfl
  obtain ⟨m, hm⟩ : ∃ m, Hid (ns.length = m) := ⟨_, Lib.hid rfl⟩
  rw [hm.out] at hmx ⊢
  have HBA := Lib.hid (((Below.refl w.heap.size w).alloc (Nat.le_refl _) (.cells #[.slice a m cap] 43)).alloc (by simp) (.cells X 28))
  have HT : Hid (Blk ((w.alloc (.cells #[.slice a m cap] 43)).alloc (.cells X 28)) w.heap.size #[.slice a m cap]) := (Blk.new rfl).alloc _
  have HX : Hid (Blk ((w.alloc (.cells #[.slice a m cap] 43)).alloc (.cells X 28)) (w.heap.size + 1) X) := Blk.new (by simp)
  clear hN hr
  go_enter Try.func29, Try.ntmps29
  go_wp2_with fail
  go_loopw [5] (fun i wr => FindI w ns r #[.slice a m cap] X i wr) (fun i _ => m - (intOf i).toNat)
  case atStart => exact ⟨0, Nat.zero_le _, rfl, rfl, HT.out, HX.out, HBA.out⟩
  case round =>
    obtain ⟨k, hk, rfl, hf, ht, hx, hbl⟩ := hrel
    have HF := Lib.hid hf
    have HTr := Lib.hid ht
    have HXr := Lib.hid hx
    have HBL := Lib.hid hbl
    have hlt0 := ht.lt
    have HC0 : Hid (wr.cell? ⟨w.heap.size, 0, none⟩ = some (.slice a m cap)) := ht.cell 0
    rw [hm.out] at hk
    clear hf ht hx hbl
    by_cases hlt : k < m
    case neg =>
      obtain rfl : k = m := by omega
      have hqv : q = -1 := by rw [← hq.out, ← HF.out, hm.out, Nat.sub_self]; rfl
      have HQ := Lib.hid hqv
      clear hqv
      go_wp2_with (first
        | ((with_reducible refine at_load (.tmp 7) ?_); refine wpList_load_1 41 (.tmp 7) rfl w.heap.size 0 (.slice a k cap) HC0.out rfl _ Try.underlying41 rfl rfl ?_))
      go_ret
      exact ⟨by rw [HQ.out]; rfl, HBL.out⟩
    have hlt' : (k : Int) < m := by omega
    have hkn : k < ns.length := by rw [hm.out]; exact hlt
    obtain ⟨b, off, rfl, hlm, hbb, hna, hok⟩ := HN.out.elem (i := k) hkn
    have hrt := Below.rng HBL.out hbb hna.bk.root
    have HRT := Lib.hid hrt
    have hbw : b < wr.heap.size := Nat.lt_of_lt_of_le hbb HBL.out.size
    have hst := findGo_step (r := r) hkn
    have HEQ := fun u => eq_root hok.1.2.2.2.1 HR.out u
    have hiY : (Try.prog.info? 28).map (·.size) = some (bytesL ns[k].b.root).length := by rw [bytesL_len hok.1.2.2.2.1]; kernel_rfl
    obtain ⟨qr, hqr⟩ : ∃ q : Bool, decide (ns[k].b.root = r) = q := ⟨_, rfl⟩
    rw [hqr] at HEQ
    have HQR : Hid (qr = true ↔ ns[k].b.root = r) := by show _ ↔ _; rw [← hqr]; exact decide_eq_true_iff
    simp only [bytesL_V] at HEQ
    rw [hX.out] at HEQ
    obtain ⟨R, hR⟩ : ∃ R, bytesL ns[k].b.root = R := ⟨_, rfl⟩
    rw [hR] at HRT HEQ hiY
    have HST := Lib.hid hst
    clear hna hok hrt hst hqr hR hlm
    go_wp2_with (first
      | ((with_reducible refine at_load (.tmp 7) ?_); refine wpList_load_1 41 (.tmp 7) rfl w.heap.size 0 (.slice (some ⟨b, off, none⟩) m cap) HC0.out rfl _ Try.underlying41 rfl rfl ?_))
    refine wp_region_fam2 (by kernel_rfl) (by kernel_rfl) ?_
    intro T F hT hF hG
    have c0 : ∀ t, (F t).cell? ⟨w.heap.size, 0, none⟩ = some (.slice (some ⟨b, off, none⟩) m cap) := fun t => ((hF t).cell (p := ⟨w.heap.size, 0, none⟩) hlt0).trans HC0.out
    have CR := Lib.hid (show ∀ u, (∃ t, u = F t) → u.rangeAt b (off + k * 240 + 67) R by rintro _ ⟨t, rfl⟩; exact Below.rng (hF t) hbw HRT.out)
    have CX := Lib.hid (show ∀ u, (∃ t, u = F t) → Blk u (w.heap.size + 1) X by rintro _ ⟨t, rfl⟩; exact HXr.out.call (hF t))
    repeat (first
      | ((with_reducible refine at_qload (.tmp 18) ?_); refine wpQuiet_load_midE 28 _ rfl b (off + k * 240 + 67) (by simp [Act.eval]) R CR.out Try.underlying28 rfl hiY (by kernel_rfl) ?_; simp only [Act.put, List.setIfInBounds_toArray, List.set_cons_succ, List.set_cons_zero])
      | ((with_reducible refine at_qload (.tmp 3) ?_); refine wpQuiet_load 28 _ rfl (w.heap.size + 1) rfl X CX.out Try.underlying28 rfl hiX (by kernel_rfl) ?_; simp only [Act.put, List.setIfInBounds_toArray, List.set_cons_succ, List.set_cons_zero])
      | (go_big_quiet_step (fail)))
    refine wpQuiet_nil ?_
    rintro _ ⟨t, rfl⟩
    have hft := hF t
    obtain ⟨u, hu⟩ : ∃ u, F t = u := ⟨_, rfl⟩
    rw [hu] at hft ⊢
    have HB1 := Lib.hid (HBL.out.trans (hft.mono HBL.out.size))
    have HT1 := Lib.hid (HTr.out.call hft)
    have HX1 := Lib.hid (HXr.out.call hft)
    clear c0 CR CX hG hu hft hF hT
    clear t F T
    cases qr
    case false =>
      have hne : ¬ ns[k].b.root = r := fun h => by have := HQR.out.2 h; cases this
      rw [if_neg hne] at HST
      go_wp2_with fail
      go_roundw
      case rel => exact ⟨k + 1, by rw [hm.out]; omega, by go_num, by rw [← HST.out]; exact HF.out, HT1.out, HX1.out, HB1.out⟩
      case measure => simp [intOf]; omega
    case true =>
      rw [if_pos (HQR.out.1 rfl)] at HST
      have hqv : q = (k : Int) := by rw [← hq.out, ← HF.out]; exact HST.out
      have HQ := Lib.hid hqv
      clear hqv
      go_wp2_with fail
      go_ret
      exact ⟨by rw [HQ.out]; rfl, HB1.out⟩

set_option maxHeartbeats 4000000 in
theorem isn_any (v : Value) (ns : List NdD) (i : Int) (w : World) (hN : NodesV w v ns) :
    Calls Try.prog 33 #[.agg #[v], .int .i64 i] w fun e w' => e = .returned (.bool (decide (0 ≤ i ∧ i < ns.length))) ∧ Below w.heap.size w w' := by
  obtain ⟨a, cap, rfl, hmx⟩ := hN.shape
  unfold maxLen at hmx
  obtain ⟨m, hm⟩ : ∃ m, Hid (ns.length = m) := ⟨_, Lib.hid rfl⟩
  rw [hm.out] at hmx ⊢
  obtain ⟨q, hq⟩ : ∃ q : Bool, decide (0 ≤ i ∧ i < (m : Int)) = q := ⟨_, rfl⟩
  rw [hq]
  have HBA := Lib.hid ((Below.refl w.heap.size w).alloc (Nat.le_refl _) (.cells #[.slice a m cap] 43))
  have HC0 : Hid ((w.alloc (.cells #[.slice a m cap] 43)).cell? ⟨w.heap.size, 0, none⟩ = some (.slice a m cap)) := (Blk.new rfl).cell 0
  clear hN
  by_cases h0 : 0 ≤ i
  · have hge : ¬ i < 0 := by omega
    by_cases h1 : i < (m : Int)
    · have hqv : q = true := by rw [← hq]; exact decide_eq_true ⟨h0, h1⟩
      subst hqv
      go_enter Try.func33, Try.ntmps33
      go_wp2_with (first
        | ((with_reducible refine at_load (.tmp 9) ?_); refine wpList_load_1 41 (.tmp 9) rfl w.heap.size 0 (.slice a m cap) HC0.out rfl _ Try.underlying41 rfl rfl ?_))
      go_ret
      exact ⟨rfl, HBA.out⟩
    · have hqv : q = false := by rw [← hq]; exact decide_eq_false (fun h => h1 h.2)
      subst hqv
      go_enter Try.func33, Try.ntmps33
      go_wp2_with (first
        | ((with_reducible refine at_load (.tmp 9) ?_); refine wpList_load_1 41 (.tmp 9) rfl w.heap.size 0 (.slice a m cap) HC0.out rfl _ Try.underlying41 rfl rfl ?_))
      go_ret
      exact ⟨rfl, HBA.out⟩
  · have hqv : q = false := by rw [← hq]; exact decide_eq_false (fun h => h0 h.1)
    subst hqv
    have h0' : (0 ≤ i) = False := eq_false h0
    clear h0
    go_enter Try.func33, Try.ntmps33
    go_wp2_with fail
    go_ret
    exact ⟨rfl, HBA.out⟩
end

/-! TrM -/
section
set_option linter.unusedVariables false
set_option linter.unusedSimpArgs false
open Go.RowKit

set_option maxRecDepth 100000

/-- The amount of the boost (P15.1) and the error. -/
def amtN (spe bp total : Int) : Int × Int :=
  if spe < 1 ∨ 64 < spe ∨ 100 < bp ∨ 4611686018427387904 < total then (0, 3) else (total / spe / 100 * bp + total / spe % 100 * bp / 100, 0)

theorem amt_rng {spe bp total : Int} (h1 : 1 ≤ spe) (h2 : bp ≤ 100) (h0 : 0 ≤ bp) (h3 : total ≤ 4611686018427387904) (h4 : 0 ≤ total) :
    (0 ≤ total / spe ∧ total / spe ≤ 4611686018427387904) ∧ (0 ≤ total / spe / 100 * bp ∧ total / spe / 100 * bp ≤ 4611686018427387904) ∧ (0 ≤ total / spe % 100 * bp ∧ total / spe % 100 * bp ≤ 9900) := by
  have hq0 : 0 ≤ total / spe := Int.ediv_nonneg h4 (by omega)
  have hq1 : total / spe ≤ total := Int.ediv_le_self _ h4
  generalize total / spe = q at *
  have a0 : 0 ≤ q / 100 := by omega
  have b0 : 0 ≤ q % 100 := by omega
  have b1 : q % 100 ≤ 99 := by omega
  have c1 : q / 100 * bp ≤ q / 100 * 100 := Int.mul_le_mul_of_nonneg_left h2 a0
  have c2 : q % 100 * bp ≤ q % 100 * 100 := Int.mul_le_mul_of_nonneg_left h2 b0
  exact ⟨⟨hq0, by omega⟩, ⟨Int.mul_nonneg a0 h0, by omega⟩, ⟨Int.mul_nonneg b0 h0, by omega⟩⟩

theorem u64_in {x : Int} (h0 : 0 ≤ x) (h1 : x ≤ 18446744073709551615) : IntKind.u64.wrap x = x := by
  simp [IntKind.wrap, IntKind.u64, IntKind.bits, IntKind.signed]; omega

set_option maxHeartbeats 4000000 in
theorem amt_any (C : Array Value) (spe bp total : Int) (w : World) (h6 : C[6]? = some (.int .u64 spe)) (h7 : C[7]? = some (.int .u64 bp)) (hs : 0 ≤ spe ∧ spe ≤ 18446744073709551615) (hb : 0 ≤ bp ∧ bp ≤ 18446744073709551615) (ht : 0 ≤ total ∧ total ≤ 18446744073709551615) :
    Calls Try.prog 8 #[.agg C, .int .u64 total] w fun e w' => e = .returned (.tuple #[.int .u64 (amtN spe bp total).1, .int .i64 (amtN spe bp total).2]) ∧ Below w.heap.size w w' := by
  have S0 := Lib.hid (pas_new w C 31)
  have H6 : Hid (∀ u, PaS w C u → u.cell? ⟨w.heap.size, 6, none⟩ = some (.int .u64 spe)) := fun u hu => by rw [hu.t.cell]; exact h6
  have H7 : Hid (∀ u, PaS w C u → u.cell? ⟨w.heap.size, 7, none⟩ = some (.int .u64 bp)) := fun u hu => by rw [hu.t.cell]; exact h7
  have c6 := H6.out _ S0.out
  have c7 := H7.out _ S0.out
  clear h6 h7 H6 H7
  obtain ⟨R, hR⟩ : ∃ R, Hid (amtN spe bp total = R) := ⟨_, Lib.hid rfl⟩
  rw [hR.out]
  have e1 : decide (spe < 1) = true ∨ decide (spe < 1) = false := by cases decide (spe < 1) <;> simp
  by_cases k1 : spe < 1
  · have hr : R = (0, 3) := by rw [← hR.out]; unfold amtN; rw [if_pos (.inl k1)]
    subst hr
    go_enter Try.func8, Try.ntmps8
    go_wp2_with fail
    go_ret2
    exact ⟨rfl, S0.out.b⟩
  by_cases k2 : 64 < spe
  · have hr : R = (0, 3) := by rw [← hR.out]; unfold amtN; rw [if_pos (.inr (.inl k2))]
    subst hr
    go_enter Try.func8, Try.ntmps8
    go_wp2_with fail
    go_ret2
    exact ⟨rfl, S0.out.b⟩
  by_cases k3 : 100 < bp
  · have hr : R = (0, 3) := by rw [← hR.out]; unfold amtN; rw [if_pos (.inr (.inr (.inl k3)))]
    subst hr
    go_enter Try.func8, Try.ntmps8
    go_wp2_with fail
    go_ret2
    exact ⟨rfl, S0.out.b⟩
  by_cases k4 : 4611686018427387904 < total
  · have hr : R = (0, 3) := by rw [← hR.out]; unfold amtN; rw [if_pos (.inr (.inr (.inr k4)))]
    subst hr
    go_enter Try.func8, Try.ntmps8
    go_wp2_with fail
    go_ret2
    exact ⟨rfl, S0.out.b⟩
  have hr : R = (total / spe / 100 * bp + total / spe % 100 * bp / 100, 0) := by rw [← hR.out]; unfold amtN; rw [if_neg (by omega)]
  subst hr
  obtain ⟨⟨r1, r2⟩, ⟨r3, r4⟩, ⟨r5, r6⟩⟩ := amt_rng (spe := spe) (bp := bp) (total := total) (by omega) (by omega) hb.1 (by omega) ht.1
  have w1 : IntKind.u64.wrap (total / spe) = total / spe := u64_in r1 (by omega)
  have w2 : IntKind.u64.wrap (total / spe / 100 * bp) = total / spe / 100 * bp := u64_in r3 (by omega)
  have w3 : IntKind.u64.wrap (total / spe % 100 * bp) = total / spe % 100 * bp := u64_in r5 (by omega)
  have w4 : IntKind.u64.wrap (total / spe / 100 * bp + total / spe % 100 * bp / 100) = total / spe / 100 * bp + total / spe % 100 * bp / 100 := u64_in (by omega) (by omega)
  have w5 : IntKind.u64.wrap (total / spe % 100 * bp / 100) = total / spe % 100 * bp / 100 := u64_in (by omega) (by omega)
  have w0 : IntKind.u64.wrap (total / spe / 100) = total / spe / 100 := u64_in (by omega) (by omega)
  have t1 : (total / spe).tdiv 100 = total / spe / 100 := Int.tdiv_eq_ediv_of_nonneg r1
  have t2 : (total / spe).tmod 100 = total / spe % 100 := Int.tmod_eq_emod_of_nonneg r1
  have t3 : (total / spe % 100 * bp).tdiv 100 = total / spe % 100 * bp / 100 := Int.tdiv_eq_ediv_of_nonneg r5
  have HW : Hid (IntKind.u64.wrap (IntKind.u64.wrap (IntKind.u64.wrap ((total / spe).tdiv 100) * bp) + IntKind.u64.wrap ((IntKind.u64.wrap ((total / spe).tmod 100 * bp)).tdiv 100)) = total / spe / 100 * bp + total / spe % 100 * bp / 100) := by
    show _ = _
    rw [t1, w0, w2, t2, w3, t3, w5, w4]
  clear r1 r2 r3 r4 r5 r6 w2 w3 w4 w5 w0 t1 t2 t3
  go_enter Try.func8, Try.ntmps8
  go_wp2_with fail
  go_ret2
  exact ⟨by rw [← HW.out]; rfl, S0.out.b⟩
end

/-! BsA -/
section
set_option linter.unusedVariables false
set_option linter.unusedSimpArgs false
open Go.RowKit

set_option maxRecDepth 100000

set_option maxHeartbeats 4000000 in
theorem camt_any (C : Array Value) (spe bp total : Int) (w : World) (h6 : C[6]? = some (.int .u64 spe)) (h7 : C[7]? = some (.int .u64 bp)) (hs : 0 ≤ spe ∧ spe ≤ 18446744073709551615) (hb : 0 ≤ bp ∧ bp ≤ 18446744073709551615) (ht : 0 ≤ total ∧ total ≤ 18446744073709551615) :
    Calls Try.prog 7 #[.agg C, .int .u64 total] w fun e w' => e = .returned (.tuple #[.int .u64 (amtN spe bp total).1, .int .i64 (amtN spe bp total).2]) ∧ Below w.heap.size w w' := by
  have S0 := Lib.hid (pas_new w C 31)
  have H6 : Hid (∀ u, PaS w C u → u.cell? ⟨w.heap.size, 6, none⟩ = some (.int .u64 spe)) := fun u hu => by rw [hu.t.cell]; exact h6
  have H7 : Hid (∀ u, PaS w C u → u.cell? ⟨w.heap.size, 7, none⟩ = some (.int .u64 bp)) := fun u hu => by rw [hu.t.cell]; exact h7
  have c6 := H6.out _ S0.out
  have c7 := H7.out _ S0.out
  clear h6 h7 H6 H7
  obtain ⟨R, hR⟩ : ∃ R, Hid (amtN spe bp total = R) := ⟨_, Lib.hid rfl⟩
  rw [hR.out]
  by_cases k1 : spe < 1
  · have hr : R = (0, 3) := by rw [← hR.out]; unfold amtN; rw [if_pos (.inl k1)]
    subst hr
    go_enter Try.func7, Try.ntmps7
    go_wp2_with fail
    go_ret2
    exact ⟨rfl, S0.out.b⟩
  by_cases k2 : 64 < spe
  · have hr : R = (0, 3) := by rw [← hR.out]; unfold amtN; rw [if_pos (.inr (.inl k2))]
    subst hr
    go_enter Try.func7, Try.ntmps7
    go_wp2_with fail
    go_ret2
    exact ⟨rfl, S0.out.b⟩
  by_cases k3 : 100 < bp
  · have hr : R = (0, 3) := by rw [← hR.out]; unfold amtN; rw [if_pos (.inr (.inr (.inl k3)))]
    subst hr
    go_enter Try.func7, Try.ntmps7
    go_wp2_with fail
    go_ret2
    exact ⟨rfl, S0.out.b⟩
  by_cases k4 : 4611686018427387904 < total
  · have hr : R = (0, 3) := by rw [← hR.out]; unfold amtN; rw [if_pos (.inr (.inr (.inr k4)))]
    subst hr
    go_enter Try.func7, Try.ntmps7
    go_wp2_with fail
    go_ret2
    exact ⟨rfl, S0.out.b⟩
  have hr : R = (total / spe / 100 * bp + total / spe % 100 * bp / 100, 0) := by rw [← hR.out]; unfold amtN; rw [if_neg (by omega)]
  subst hr
  obtain ⟨⟨r1, r2⟩, ⟨r3, r4⟩, ⟨r5, r6⟩⟩ := amt_rng (spe := spe) (bp := bp) (total := total) (by omega) (by omega) hb.1 (by omega) ht.1
  have w1 : IntKind.u64.wrap (total / spe) = total / spe := u64_in r1 (by omega)
  have w2 : IntKind.u64.wrap (total / spe / 100 * bp) = total / spe / 100 * bp := u64_in r3 (by omega)
  have w3 : IntKind.u64.wrap (total / spe % 100 * bp) = total / spe % 100 * bp := u64_in r5 (by omega)
  have w4 : IntKind.u64.wrap (total / spe / 100 * bp + total / spe % 100 * bp / 100) = total / spe / 100 * bp + total / spe % 100 * bp / 100 := u64_in (by omega) (by omega)
  have w5 : IntKind.u64.wrap (total / spe % 100 * bp / 100) = total / spe % 100 * bp / 100 := u64_in (by omega) (by omega)
  have w0 : IntKind.u64.wrap (total / spe / 100) = total / spe / 100 := u64_in (by omega) (by omega)
  have t1 : (total / spe).tdiv 100 = total / spe / 100 := Int.tdiv_eq_ediv_of_nonneg r1
  have t2 : (total / spe).tmod 100 = total / spe % 100 := Int.tmod_eq_emod_of_nonneg r1
  have t3 : (total / spe % 100 * bp).tdiv 100 = total / spe % 100 * bp / 100 := Int.tdiv_eq_ediv_of_nonneg r5
  have HW : Hid (IntKind.u64.wrap (IntKind.u64.wrap (IntKind.u64.wrap ((total / spe).tdiv 100) * bp) + IntKind.u64.wrap ((IntKind.u64.wrap ((total / spe).tmod 100 * bp)).tdiv 100)) = total / spe / 100 * bp + total / spe % 100 * bp / 100) := by
    show _ = _
    rw [t1, w0, w2, t2, w3, t3, w5, w4]
  clear r1 r2 r3 r4 r5 r6 w2 w3 w4 w5 w0 t1 t2 t3
  go_enter Try.func7, Try.ntmps7
  go_wp2_with fail
  go_ret2
  exact ⟨by rw [← HW.out]; rfl, S0.out.b⟩

/-- A configuration whose epoch has spe slots and whose boost is bp per cent, and nothing else. -/
def cfS (spe bp : Int) : Array Value := ([.int .i64 0, .int .i64 0, .int .i64 0, .int .i64 0, .int .i64 0, .int .u64 0, .int .u64 spe, .int .u64 bp, .int .u64 0, .int .u64 0, .int .u64 0, .int .u64 0] ++ bytesL zeroR ++ [.slice none 0 0] : List Value).toArray

theorem build_cfs (spe bp : Int) (u : World) : (Instr.build 31 #[(1, .int .u64 spe), (2, .int .u64 bp)]).run Try.prog u = .ok (.agg (cfS spe bp)) u := by kernel_rfl

theorem cfS_6 (spe bp : Int) : (cfS spe bp)[6]? = some (.int .u64 spe) := rfl

theorem cfS_7 (spe bp : Int) : (cfS spe bp)[7]? = some (.int .u64 bp) := rfl

theorem cfS_size (spe bp : Int) : (cfS spe bp).size = 45 := by kernel_rfl

theorem cfS_one (spe bp : Int) : ∀ v ∈ (cfS spe bp).toList, v.oneCell' = true := by
  intro v hv
  simp only [cfS, List.mem_append, List.mem_cons, List.not_mem_nil, or_false] at hv
  rcases hv with ((rfl | rfl | rfl | rfl | rfl | rfl | rfl | rfl | rfl | rfl | rfl | rfl) | hv) | rfl
  all_goals first | rfl | exact bytesL_one _ v hv

theorem camt_cfs (spe bp total : Int) (w : World) (hs : 0 ≤ spe ∧ spe ≤ 18446744073709551615) (hb : 0 ≤ bp ∧ bp ≤ 18446744073709551615) (ht : 0 ≤ total ∧ total ≤ 18446744073709551615) :
    Calls Try.prog 7 #[.agg (cfS spe bp), .int .u64 total] w fun e w' => e = .returned (.tuple #[.int .u64 (amtN spe bp total).1, .int .i64 (amtN spe bp total).2]) ∧ Below w.heap.size w w' :=
  camt_any _ spe bp total w (cfS_6 _ _) (cfS_7 _ _) hs hb ht

theorem amt_cfs (spe bp total : Int) (w : World) (hs : 0 ≤ spe ∧ spe ≤ 18446744073709551615) (hb : 0 ≤ bp ∧ bp ≤ 18446744073709551615) (ht : 0 ≤ total ∧ total ≤ 18446744073709551615) :
    Calls Try.prog 8 #[.agg (cfS spe bp), .int .u64 total] w fun e w' => e = .returned (.tuple #[.int .u64 (amtN spe bp total).1, .int .i64 (amtN spe bp total).2]) ∧ Below w.heap.size w w' :=
  amt_any _ spe bp total w (cfS_6 _ _) (cfS_7 _ _) hs hb ht

theorem awake15_any (w : World) : Calls Try.prog 9 #[] w fun e w' => e = .returned (.bool true) ∧ Below w.heap.size w w' := by
  have HA : Hid (∀ u, Calls Try.prog 7 #[.agg (cfS 4 40), .int .u64 1000] u fun e w' => e = .returned (.tuple #[.int .u64 100, .int .i64 0]) ∧ Below u.heap.size u w') := fun u => by
    have h := camt_cfs 4 40 1000 u (by omega) (by omega) (by omega)
    rw [show amtN 4 40 1000 = (100, 0) from by kernel_rfl] at h
    exact h
  have HB := Lib.hid (build_cfs 4 40)
  obtain ⟨C, hC⟩ : ∃ C, cfS 4 40 = C := ⟨_, rfl⟩
  rw [hC] at HA HB
  clear hC
  go_enter Try.func9, Try.ntmps9
  go_wp2_with (first
    | ((with_reducible refine at_build (some 4) ?_); refine wpList_build_g 31 _ rfl #[(1, .int .u64 4), (2, .int .u64 40)] (by simp [Act.eval, Act.put]) (.agg C) (HB.out _) rfl ?_)
    | (go_at_call 7; refine (HA.out _).mono ?_; rintro e w1 ⟨rfl, hb1⟩))
  go_ret
  exact ⟨rfl, hb1⟩
end

/-! OwM -/
section
set_option linter.unusedVariables false
set_option linter.unusedSimpArgs false
open Go.RowKit

/-- Numbers as cells of a row. -/
def numL (k : IntKind) (xs : List Int) : List (List Value) := xs.map fun x => [Value.int k x]

theorem numL_sz (k : IntKind) (xs : List Int) : ∀ L ∈ numL k xs, L.length = 1 := fun L hL => by
  obtain ⟨x, _, rfl⟩ := List.mem_map.1 hL
  rfl

theorem numL_flat (k : IntKind) (xs : List Int) : (numL k xs).flatten = xs.map (Value.int k) := by
  induction xs with
  | nil => rfl
  | cons x r ih => simp only [numL, List.map_cons, List.flatten_cons] at *; rw [ih]; rfl

theorem numL_len (k : IntKind) (xs : List Int) : (numL k xs).length = xs.length := by simp [numL]

theorem OwnK.rowB {k : IntKind} {e : TypeId} {w : World} {B g n cap : Nat} {xs : List Int} (h : OwnK k e w B (.slice (some ⟨g, 0, none⟩) n cap) xs) : RowB w g (numL k xs) ∧ B ≤ g ∧ n = xs.length := by
  rcases h.2 with ⟨e, _⟩ | ⟨g', cap', cur, e, hb, hg, _, _, hcs, ht⟩
  · cases e
  · cases e
    refine ⟨⟨cur.toList.drop (xs.length * 1), e, ?_⟩, hb, rfl⟩
    have : flatP (numL k xs ++ [cur.toList.drop (xs.length * 1)]) = cur := by
      unfold flatP
      rw [List.flatten_append, numL_flat, ← ht]
      simp
    rw [this]; exact hg

/-- A cell of the row. -/
theorem RowB.num {w : World} {g : Nat} {k : IntKind} {xs : List Int} (h : RowB w g (numL k xs)) {i : Nat} (hi : i < xs.length) : w.cell? ⟨g, i, none⟩ = some (.int k (xs.getD i 0)) := by
  have h1 := h.cell (numL_sz k xs) (k := i) (j := 0) (L := [.int k (xs.getD i 0)]) (v := .int k (xs.getD i 0)) (by simp [numL, List.getD, List.getElem?_eq_getElem hi]) rfl
  rw [Nat.mul_one, Nat.add_zero] at h1
  exact h1

theorem RowB.ints {w : World} {g n c : Nat} {k : IntKind} {xs : List Int} (h : RowB w g (numL k xs)) (hn : n = xs.length) (hm : xs.length ≤ maxLen) : Ints k w (.slice (some ⟨g, 0, none⟩) n c) xs := by
  subst hn
  exact ⟨_, _, _, rfl, rfl, hm, .inr ⟨g, 0, rfl, h.lt, fun i hi => by rw [Nat.zero_add]; exact h.num hi⟩⟩

/-- A number is stored. -/
theorem wpList_store_num {P : Program} {ops : Array Oper} {rest : List Oper} {op : Oper} {a : Act} {w : World} {Q : Exit → Act → World → Prop} (hgd : op.guard = none) (ty : TypeId) (x y : Operand) (ho : op.op = .store ty x y)
    (g i : Nat) (k : IntKind) (xs : List Int) (n : Int) (hB : RowB w g (numL k xs)) (hk : i < xs.length) (hx : a.eval x = .pointer (some ⟨g, i, none⟩)) (hy : a.eval y = .int k n) (hi : (P.info? ty).map (·.size) = some 1)
    (h : ∀ w', Upd g w w' → RowB w' g (numL k (xs.set i n)) → wpList P ops Q rest (a.put op.dst undef) w') : wpList P ops Q (op :: rest) a w := by
  obtain ⟨sp, hB⟩ := hB
  have hl : i < (numL k xs).length := by rw [numL_len]; exact hk
  refine wpList_store_part1 hgd ty x y ho g (numL k xs ++ [sp]) i (.int k (xs.getD i 0)) (.int k n) hB (by rw [List.getElem?_append_left hl]; simp [numL, List.getD, List.getElem?_eq_getElem hk]) (by rw [offP_row (numL_sz k xs) sp hl, Nat.mul_one]; exact hx) hy hi rfl rfl ?_
  intro w' U B
  refine h w' U ⟨sp, ?_⟩
  rw [List.set_append_left _ _ hl] at B
  rw [show numL k (xs.set i n) = (numL k xs).set i [.int k n] from by simp [numL, List.map_set]]
  exact B
end

end Go.Proofs.Ytidimiioglgliaa
