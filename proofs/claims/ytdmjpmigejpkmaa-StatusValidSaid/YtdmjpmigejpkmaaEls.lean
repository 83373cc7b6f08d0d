/- Slices of structs: rows of elements of many cells, whatever their type; their append and their loads. -/
import Derived.Test.YtdmjpmigejpkmaaNew
import Derived.Test.YtdmjpmigejpkmaaRow2
import Derived.Test.YtdmjpmigejpkmaaLt
set_option linter.unusedVariables false

set_option linter.unusedSimpArgs false
namespace Go.Proofs.Ytdmjpmigejpkmaa
open Go.RowKit

/-- What a row asks of the words 'these cells are this element; its own slices lie where P says'. -/
structure ElOK {α : Type} (sz : Nat) (El : (Value → Prop) → World → Array Value → α → Prop) : Prop where
  size : ∀ {P w X a}, El P w X a → X.size = sz
  one : ∀ {P w X a}, El P w X a → ∀ v ∈ X, v.oneCell' = true
  mono : ∀ {P Q w X a}, El P w X a → (∀ v, P v → Q v) → El Q w X a
  grown : ∀ {P w w' X a row}, El P w X a → w.grownBy w' row → (∀ g v, row = some g → P v → Off g v) → El P w' X a
  off : ∀ {P w X a g}, El P w X a → w.heap.size ≤ g → El (fun y => P y ∧ Off g y) w X a
section
variable {α : Type} {sz : Nat} {El : (Value → Prop) → World → Array Value → α → Prop}

theorem ElOK.below (E : ElOK sz El) {P : Value → Prop} {w w' : World} {X : Array Value} {a : α} (h : El P w X a) (hb : Below w.heap.size w w') : El P w' X a :=
  E.grown h (row := none) ⟨hb.os, hb.tape, hb.output, hb.size, fun k hk _ => hb.block k hk⟩ fun g v e => by cases e

/-- The cells of a row. -/
def rowsL (Xs : List (Array Value)) : List Value := (Xs.map Array.toList).flatten

theorem rowsL_app (Xs Ys : List (Array Value)) : rowsL (Xs ++ Ys) = rowsL Xs ++ rowsL Ys := by simp [rowsL]

theorem rowsL_len {Xs : List (Array Value)} (h : ∀ X ∈ Xs, X.size = sz) : (rowsL Xs).length = Xs.length * sz := by
  induction Xs with
  | nil => simp [rowsL]
  | cons X r ih =>
    have h1 := h X (by simp)
    have h2 := ih fun Y hY => h Y (by simp [hY])
    have e : rowsL (X :: r) = X.toList ++ rowsL r := rfl
    rw [e, List.length_append, h2, Array.length_toList, h1, List.length_cons, Nat.add_mul]
    omega

theorem rowsL_at {Xs : List (Array Value)} (h : ∀ X ∈ Xs, X.size = sz) {i : Nat} (hi : i < Xs.length) {j : Nat} (hj : j < sz) : (rowsL Xs)[i * sz + j]? = Xs[i].toList[j]? := by
  induction Xs generalizing i with
  | nil => simp at hi
  | cons X r ih =>
    have h1 := h X (by simp)
    have h2 : ∀ Y ∈ r, Y.size = sz := fun Y hY => h Y (by simp [hY])
    have e : rowsL (X :: r) = X.toList ++ rowsL r := rfl
    rw [e]
    cases i with
    | zero => rw [Nat.zero_mul, Nat.zero_add, List.getElem?_append_left (by simp [h1]; omega)]; rfl
    | succ i =>
      have hs : (i + 1) * sz + j = sz + (i * sz + j) := by rw [Nat.add_mul]; omega
      rw [hs, List.getElem?_append_right (by simp [h1]), Array.length_toList, h1, Nat.add_sub_cancel_left]
      exact ih h2 (by simpa using hi)

/-- All elements. -/
def AllEl (El : (Value → Prop) → World → Array Value → α → Prop) (P : Value → Prop) (w : World) (Xs : List (Array Value)) (ds : List α) : Prop := Xs.length = ds.length ∧ ∀ p ∈ Xs.zip ds, El P w p.1 p.2

theorem AllEl.nil (P : Value → Prop) (w : World) : AllEl El P w [] [] := ⟨rfl, fun p hp => by simp at hp⟩

theorem AllEl.app {P : Value → Prop} {w : World} {Xs Ys : List (Array Value)} {ds es : List α} (h : AllEl El P w Xs ds) (h2 : AllEl El P w Ys es) : AllEl El P w (Xs ++ Ys) (ds ++ es) :=
  ⟨by rw [List.length_append, List.length_append, h.1, h2.1], fun p hp => by
    rw [List.zip_append h.1, List.mem_append] at hp
    rcases hp with hp | hp
    · exact h.2 p hp
    · exact h2.2 p hp⟩

theorem AllEl.one {P : Value → Prop} {w : World} {X : Array Value} {d : α} (h : El P w X d) : AllEl El P w [X] [d] := ⟨rfl, fun p hp => by simp at hp; subst hp; exact h⟩

theorem AllEl.imp {P Q : Value → Prop} {w w' : World} {Xs : List (Array Value)} {ds : List α} (h : AllEl El P w Xs ds) (hi : ∀ X d, El P w X d → El Q w' X d) : AllEl El Q w' Xs ds := ⟨h.1, fun p hp => hi _ _ (h.2 p hp)⟩

theorem AllEl.sizes (E : ElOK sz El) {P : Value → Prop} {w : World} {Xs : List (Array Value)} {ds : List α} (h : AllEl El P w Xs ds) : ∀ X ∈ Xs, X.size = sz := by
  intro X hX
  obtain ⟨i, hi, rfl⟩ := List.mem_iff_getElem.1 hX
  have := h.1
  have hp : (Xs.zip ds)[i]'(by rw [List.length_zip]; omega) = (Xs[i], ds[i]) := by simp
  exact E.size (h.2 (Xs[i], ds[i]) (hp ▸ List.getElem_mem _))

theorem AllEl.ones (E : ElOK sz El) {P : Value → Prop} {w : World} {Xs : List (Array Value)} {ds : List α} (h : AllEl El P w Xs ds) : ∀ v ∈ rowsL Xs, v.oneCell' = true := by
  intro v hv
  simp only [rowsL, List.mem_flatten, List.mem_map] at hv
  obtain ⟨_, ⟨X, hX, rfl⟩, hv⟩ := hv
  obtain ⟨i, hi, rfl⟩ := List.mem_iff_getElem.1 hX
  have := h.1
  have hp : (Xs.zip ds)[i]'(by rw [List.length_zip]; omega) = (Xs[i], ds[i]) := by simp
  exact E.one (h.2 (Xs[i], ds[i]) (hp ▸ List.getElem_mem _)) v (by simpa using hv)

theorem AllEl.at {P : Value → Prop} {w : World} {Xs : List (Array Value)} {ds : List α} (h : AllEl El P w Xs ds) {i : Nat} (hi : i < ds.length) : El P w (Xs[i]'(by rw [h.1]; exact hi)) ds[i] := by
  have := h.1
  have hp : (Xs.zip ds)[i]'(by rw [List.length_zip]; omega) = (Xs[i], ds[i]) := by simp
  exact h.2 (Xs[i], ds[i]) (hp ▸ List.getElem_mem _)

/-- The elements' own slices lie outside the row. -/
def OffB (v : Value) (y : Value) : Prop := ∀ g, v.ownBlock = some g → Off g y

/-- A slice of structs in a row of the call's own, from block B on. -/
def OwnEl (El : (Value → Prop) → World → Array Value → α → Prop) (e : TypeId) (sz : Nat) (w : World) (B : Nat) (v : Value) (ds : List α) : Prop :=
  ∃ Xs, w.ownsRow B e sz v ds.length (rowsL Xs) ∧ AllEl El (OffB v) w Xs ds

theorem OwnEl.nil {e : TypeId} (w : World) (B : Nat) : OwnEl El e sz w B (.slice none 0 0) [] := ⟨[], World.ownsRow_nil w B e sz, AllEl.nil _ _⟩

theorem OwnEl.lt {e : TypeId} {w : World} {B : Nat} {v : Value} {ds : List α} (h : OwnEl El e sz w B v ds) : ∀ n, v.ownBlock = some n → B ≤ n ∧ n < w.heap.size := by
  obtain ⟨Xs, h1, _⟩ := h; exact World.ownsRow.lt h1

theorem OwnEl.shape {e : TypeId} {w : World} {B : Nat} {v : Value} {ds : List α} (h : OwnEl El e sz w B v ds) : ∃ a c, v = .slice a ds.length c ∧ ds.length ≤ maxLen ∧ ds.length ≤ c ∧ c ≤ maxLen := by
  obtain ⟨Xs, h1, _⟩ := h
  rcases h1.2 with ⟨rfl, h0⟩ | ⟨g, cap, cur, rfl, _, _, h2, h3, _⟩
  · exact ⟨_, _, by rw [h0], by omega, by omega, Nat.zero_le _⟩
  · exact ⟨_, _, rfl, by omega, h2, h3⟩

theorem OwnEl.grown (E : ElOK sz El) {e : TypeId} {w w' : World} {B : Nat} {v : Value} {ds : List α} {row : Option Nat} (h : OwnEl El e sz w B v ds) (hg : w.grownBy w' row) (hne : ∀ n, v.ownBlock = some n → some n ≠ row)
    (hel : ∀ X d, El (OffB v) w X d → El (OffB v) w' X d) : OwnEl El e sz w' B v ds := by
  obtain ⟨Xs, h1, h2⟩ := h
  refine ⟨Xs, ⟨h1.1, ?_⟩, h2.imp hel⟩
  rcases h1.2 with h' | ⟨g, cap, cur, rfl, h3, h4, h5⟩
  · exact .inl h'
  · exact .inr ⟨g, cap, cur, rfl, h3, by rw [hg.block g (World.ownsRow.lt h1 g rfl).2 (hne g rfl)]; exact h4, h5⟩

theorem OwnEl.call (E : ElOK sz El) {e : TypeId} {w w' : World} {B : Nat} {v : Value} {ds : List α} (h : OwnEl El e sz w B v ds) (hb : Below w.heap.size w w') : OwnEl El e sz w' B v ds :=
  h.grown E (row := none) ⟨hb.os, hb.tape, hb.output, hb.size, fun k hk _ => hb.block k hk⟩ (fun n _ => by simp) fun X d hX => E.below hX hb

/-- One element is appended. -/
theorem run_appEl (E : ElOK sz El) {t e ty : TypeId} {z : Value} {bytes : Nat} (ht : Try.prog.underlying t = some (.slice e)) (hinfo : (Try.prog.info? e).map (fun i => (i.zero, i.size, i.bytes)) = some (some z, sz, bytes)) (hzs : z.cells.size = sz) (hsz : 0 < sz)
    (w : World) (B : Nat) (v : Value) (ds : List α) (hown : OwnEl El e sz w B v ds) (g c : Nat) (X : Array Value) (d : α) (hX : El (OffB v) w X d) (hg : w.rangeAt g 0 X.toList) (h47 : (ds.length + 1) * bytes ≤ 140737488355328) (hm : ds.length + 1 ≤ maxLen) (hB : B ≤ w.heap.size) :
    ∃ v' w', (Builtin.append_ #[t, t] ty #[v, .slice (some ⟨g, 0, none⟩) 1 c]).run Try.prog w = .ok v' w' ∧ OwnEl El e sz w' B v' (ds ++ [d]) ∧ w.grownBy w' v.ownBlock ∧ (v'.ownBlock = v.ownBlock ∨ v'.ownBlock = some w.heap.size) := by
  obtain ⟨i0, hi, hz0, hz1, hz2⟩ := info_parts hinfo
  obtain ⟨Xs, hr, hA⟩ := hown
  obtain ⟨v', w', h1, h2, h3, _, h4⟩ := run_append_own_at (P := Try.prog) w B t ty e i0 z sz bytes ht hi hz0 hz1 hz2 hzs hsz v ds.length _ hr ⟨g, 0, none⟩ 1 c X.toList (by simp [E.size hX])
    (fun j u hj => by rw [Go.WideShapes.add_plain]; simpa using hg j u hj)
    (fun u hu => E.one hX u (by simpa using hu)) hm h47 hB
  refine ⟨v', w', h1, ⟨Xs ++ [X], ?_, ?_⟩, h3, h4⟩
  · rw [rowsL_app, show rowsL [X] = X.toList by simp [rowsL], List.length_append]; exact h2
  · have hold : AllEl El (OffB v) w (Xs ++ [X]) (ds ++ [d]) := hA.app (AllEl.one hX)
    rcases h4 with h4 | h4
    · refine hold.imp fun Y b hY => E.mono (E.grown hY h3 fun g' y e hy => hy g' e) fun y hy g' e => hy g' (h4 ▸ e)
    · have hnew : AllEl El (fun y => OffB v y ∧ Off w.heap.size y) w (Xs ++ [X]) (ds ++ [d]) := hold.imp fun Y b hY => E.off hY (Nat.le_refl _)
      refine hnew.imp fun Y b hY => E.mono (E.grown hY h3 fun g' y e hy => hy.1 g' e) fun y hy g' e => by rw [h4] at e; cases e; exact hy.2

/-- .. in a walk. -/
theorem wpList_appEl (E : ElOK sz El) {t e : TypeId} {z : Value} {bytes : Nat} (ht : Try.prog.underlying t = some (.slice e)) (hinfo : (Try.prog.info? e).map (fun i => (i.zero, i.size, i.bytes)) = some (some z, sz, bytes)) (hzs : z.cells.size = sz) (hsz : 0 < sz)
    {ops : Array Oper} {rest : List Oper} {o : Oper} {a : Act} {w : World} {Q : Exit → Act → World → Prop} (s x : Operand)
    (ho : o.op = .call { callee := .builtin .append, args := #[s, x], argTypes := #[t, t] }) (hw : Region.wanted o (yielded ops a.tmps) = true)
    (B : Nat) (v : Value) (ds : List α) (hs : a.eval s = v) (hown : OwnEl El e sz w B v ds) (g c : Nat) (X : Array Value) (d : α) (hx : a.eval x = .slice (some ⟨g, 0, none⟩) 1 c) (hX : El (OffB v) w X d) (hg : w.rangeAt g 0 X.toList)
    (h47 : (ds.length + 1) * bytes ≤ 140737488355328) (hm : ds.length + 1 ≤ maxLen) (hB : B ≤ w.heap.size)
    (h : ∀ v' w', OwnEl El e sz w' B v' (ds ++ [d]) → w.grownBy w' v.ownBlock → (v'.ownBlock = v.ownBlock ∨ v'.ownBlock = some w.heap.size) → wpList Try.prog ops Q rest (a.put o.dst v') w') : wpList Try.prog ops Q (o :: rest) a w :=
  BigFrame.wpList_want hw fun _ hK => by
    obtain ⟨v', w', h1, h2, h3, h4⟩ := run_appEl E (ty := o.type) ht hinfo hzs hsz w B v ds hown g c X d hX hg h47 hm hB
    unfold Oper.wp execOp
    simp only [ho, resolve, invoke, builtin, Sem.run_bind, Sem.run_pure, Result.andThen_ok, List.map_toArray, List.map_cons, List.map_nil, hs, hx, h1]
    exact hK _ _ (h v' w' h2 h3 h4)

/-- A value that is a slice of these elements. -/
def ElV (El : (Value → Prop) → World → Array Value → α → Prop) (sz : Nat) (w : World) (v : Value) (ds : List α) : Prop :=
  ∃ a cap, v = .slice a ds.length cap ∧ ds.length ≤ maxLen ∧ (ds.length = 0 ∨ ∃ b off, a = some ⟨b, off, none⟩ ∧ b < w.heap.size ∧ ∃ Xs, w.rangeAt b off (rowsL Xs) ∧ AllEl El (fun _ => True) w Xs ds)

theorem OwnEl.elV (E : ElOK sz El) {e : TypeId} {w : World} {B : Nat} {v : Value} {ds : List α} (h : OwnEl El e sz w B v ds) : ElV El sz w v ds := by
  obtain ⟨Xs, h1, h2⟩ := h
  have hlt := World.ownsRow.lt h1
  have hcell := fun (g cap : Nat) (e : v = .slice (some ⟨g, 0, none⟩) ds.length cap) => (e ▸ h1 : w.ownsRow B _ sz (.slice (some ⟨g, 0, none⟩) ds.length cap) ds.length (rowsL Xs))
  rcases h1.2 with ⟨rfl, h0⟩ | ⟨g, cap, cur, rfl, h3, h4, h5, h6, h7, h8⟩
  · exact ⟨none, 0, by rw [h0], by omega, .inl h0⟩
  · refine ⟨_, _, rfl, by omega, .inr ⟨g, 0, rfl, (hlt g rfl).2, Xs, fun j u hj => ?_, h2.imp fun X d hX => E.mono hX fun _ _ => trivial⟩⟩
    have hj' : j < ds.length * sz := by rw [← h1.1]; exact (List.getElem?_eq_some_iff.1 hj).1
    rw [← h8, List.getElem?_take_of_lt hj'] at hj
    simp only [World.cell?, h4, Nat.zero_add]
    simpa using hj

theorem ElV.below (E : ElOK sz El) {w w' : World} {v : Value} {ds : List α} (h : ElV El sz w v ds) (hb : Below w.heap.size w w') : ElV El sz w' v ds := by
  obtain ⟨a, cap, rfl, hl, hr⟩ := h
  refine ⟨a, cap, rfl, hl, ?_⟩
  rcases hr with h0 | ⟨b, off, rfl, hlt, Xs, h1, h2⟩
  · exact .inl h0
  · exact .inr ⟨b, off, rfl, Nat.lt_of_lt_of_le hlt hb.size, Xs, fun j u hj => by rw [hb.cell (p := ⟨b, off + j, none⟩) hlt]; exact h1 j u hj, h2.imp fun X d hX => E.below hX hb⟩

/-- One element of it. -/
theorem ElV.at (E : ElOK sz El) {w : World} {a : Option Addr} {l cap : Nat} {ds : List α} (h : ElV El sz w (.slice a l cap) ds) {i : Nat} (hi : i < ds.length) :
    ∃ b off X, a = some ⟨b, off, none⟩ ∧ l = ds.length ∧ b < w.heap.size ∧ w.rangeAt b (off + i * sz) X.toList ∧ El (fun _ => True) w X ds[i] ∧ X.size = sz ∧ ∀ v ∈ X, v.oneCell' = true := by
  obtain ⟨a', cap', e, hl, hr⟩ := h
  cases e
  rcases hr with h0 | ⟨b, off, rfl, hlt, Xs, h1, h2⟩
  · omega
  · have hX := h2.at hi
    have hs := E.size hX
    refine ⟨b, off, _, rfl, rfl, hlt, fun j u hj => ?_, hX, hs, E.one hX⟩
    have hj' : j < sz := by rw [← hs, ← Array.length_toList]; exact (List.getElem?_eq_some_iff.1 hj).1
    rw [Nat.add_assoc]
    exact h1 _ _ (by rw [rowsL_at (h2.sizes E) (by rw [h2.1]; exact hi) hj']; exact hj)
end
/-! ### A slice of one struct, written out -/

theorem foldl_laidE : ∀ (xs : List Value) (n : Nat) (Z : Array Value) (i : Nat), n + xs.length ≤ Z.size → ((xs.zipIdx n).foldl (fun cs x => cs.setIfInBounds x.2 x.1) Z)[i]? = if n ≤ i ∧ i < n + xs.length then xs[i - n]? else Z[i]?
  | [], n, Z, i, _ => by rw [if_neg (by simp only [List.length_nil]; omega)]; rfl
  | x :: xs, n, Z, i, h => by
    simp only [List.length_cons] at h
    rw [List.zipIdx_cons, List.foldl_cons, foldl_laidE xs (n + 1) _ i (by simp; omega)]
    simp only [List.length_cons]
    by_cases e : i = n
    · subst e
      rw [if_neg (by omega), if_pos (by omega), Nat.sub_self, Array.getElem?_setIfInBounds, if_pos rfl, if_pos (by omega)]; rfl
    · by_cases c : n + 1 ≤ i ∧ i < n + 1 + xs.length
      · rw [if_pos c, if_pos (by omega)]
        obtain ⟨t, rfl⟩ : ∃ t, i = n + 1 + t := ⟨i - (n + 1), by omega⟩
        rw [show n + 1 + t - (n + 1) = t by omega, show n + 1 + t - n = t + 1 by omega]; rfl
      · rw [if_neg c, if_neg (by omega), Array.getElem?_setIfInBounds, if_neg (by omega)]

theorem foldl_wholeE (xs : List Value) (Z : Array Value) (h : Z.size = xs.length) : xs.zipIdx.foldl (fun cs x => cs.setIfInBounds x.2 x.1) Z = xs.toArray := by
  apply Array.ext_getElem?
  intro i
  rw [foldl_laidE xs 0 Z i (by omega)]
  by_cases c : i < xs.length
  · rw [if_pos (by omega)]; simp
  · rw [if_neg (by omega), Array.getElem?_eq_none (by omega), Array.getElem?_eq_none (by simp; omega)]

theorem foldl_wholeA (X Z : Array Value) (h : Z.size = X.size) : X.zipIdx.foldl (fun cs x => cs.setIfInBounds x.2 x.1) Z = X := by
  have e : X.zipIdx.foldl (fun cs x => cs.setIfInBounds x.2 x.1) Z = X.toList.zipIdx.foldl (fun cs x => cs.setIfInBounds x.2 x.1) Z := by
    rw [← Array.foldl_toList, Array.toList_zipIdx]
  rw [e, foldl_wholeE _ _ (by simpa using h)]

theorem foldl_wholeB (X Z : Array Value) (n : Nat) (hn : n = X.size) (h : Z.size = n) : Array.foldl (fun cs x => cs.setIfInBounds x.2 x.1) Z X.zipIdx 0 n = X := by
  have e : n = X.zipIdx.size := by rw [hn, Array.size_zipIdx]
  rw [e]
  exact foldl_wholeA X Z (by rw [h, hn])

theorem buildEl {P : Program} {t e : TypeId} {Z X : Array Value} {sz : Nat} (ht : P.underlying t = some (.slice e)) (hz : ∀ w, (zeroValue e).run P w = .ok (.agg Z) w) (hi : (P.info? e).map (·.size) = some sz) (hZ : Z.size = sz) (hX : X.size = sz) (h0 : 0 < sz) (h24 : sz ≤ 16777216) (u : World) :
    (Instr.buildSlice t 1 #[(0, .agg X)]).run P u = .ok (.slice (some ⟨u.heap.size, 0, none⟩) 1 1) (u.alloc (.cells X e)) := by
  obtain ⟨i, hi1, hi2⟩ : ∃ i, P.info? e = some i ∧ i.size = sz := by
    cases h : P.info? e with
    | none => simp [h] at hi
    | some i => exact ⟨i, rfl, by simpa [h] using hi⟩
  have hso : ∀ w, (sizeOf e).run P w = .ok sz w := fun w => by simp [sizeOf, typeInfo, hi1, hi2]
  simp [Instr.buildSlice, Instr.fill, go_sem, hz, hX, hZ, Value.cells, run_underlying ht, hso]
  rw [if_neg (by omega), if_neg (by omega), foldl_wholeB X _ sz hX.symm (by simp)]

theorem wpList_buildSliceE {P : Program} {ops : Array Oper} {rest : List Oper} {op : Oper} {a : Act} {w w' : World} {Q : Exit → Act → World → Prop} (hgd : op.guard = none) (t : TypeId) (n : Nat) (ps : Array (Nat × Operand)) (ho : op.op = .buildSlice t n ps)
    (ps' : Array (Nat × Value)) (hps : ps.map (fun (i, x) => (i, a.eval x)) = ps') (v : Value) (hr : (Instr.buildSlice t n ps').run P w = .ok v w') (h : wpList P ops Q rest (a.put op.dst v) w') : wpList P ops Q (op :: rest) a w :=
  wpList_plain hgd fun _ hK => by
    unfold Oper.wp execOp
    simp only [ho, hps, Sem.run_bind, hr, Result.andThen_ok, Sem.run_pure]
    exact hK _ _ h

theorem at_buildSliceE {P : Program} {ops : Array Oper} {Q : Exit → Act → World → Prop} (dst : Option Tmp) {ty ty' : TypeId} {n : Nat} {ps : Array (Nat × Operand)} {pos : String} {aft : Array Edge} {g : Option (Nat × Bool)} {rest : List Oper} {a : Act} {w : World}
    (h : wpList P ops Q (⟨dst, .buildSlice ty n ps, ty', pos, aft, g⟩ :: rest) a w) : wpList P ops Q (⟨dst, .buildSlice ty n ps, ty', pos, aft, g⟩ :: rest) a w := h

/-- A whole element in a region that draws its order and is walked once. -/
theorem wpQuiet_load_midE {P : Program} {ops : Array Oper} {C : World → Prop} {Q : Act → Prop} {o : Oper} {rest : List Oper} {a : Act} (ty : TypeId) (x : Operand) (ho : o.op = .load ty x) (b off : Nat) (hx : a.eval x = .pointer (some ⟨b, off, none⟩)) (cs : List Value) {d : TypeDesc}
    (hC : ∀ w, C w → w.rangeAt b off cs) (hu : P.underlying ty = some d) (hd : d.isRow = true) (hi : (P.info? ty).map (·.size) = some cs.length) (hw : Region.wanted o (yielded ops a.tmps) = true)
    (h : wpQuiet P ops C Q rest (a.put o.dst (.agg cs.toArray))) : wpQuiet P ops C Q (o :: rest) a := by
  refine BigFrame.wpQuiet_want hw fun K hK => ⟨.agg cs.toArray, fun w hw' => ?_, hK _ h⟩
  have hl := run_loadVar_mid (P := P) w b off ty cs d (hC w hw') hu hd hi
  unfold Oper.quietAt execOp
  simp only [ho, hx, Instr.loadAt, Instr.sureAddr, Sem.run_bind, Sem.run_pure, Result.andThen_ok, hl]
  exact ⟨rfl, rfl⟩

theorem belT {a b c : World} (h1 : Below a.heap.size a b) (h2 : Below b.heap.size b c) : Below a.heap.size a c := h1.trans (h2.mono h1.size)

theorem ElV.shape {α : Type} {sz : Nat} {El : (Value → Prop) → World → Array Value → α → Prop} {w : World} {v : Value} {ds : List α} (h : ElV El sz w v ds) : ∃ a c, v = .slice a ds.length c ∧ ds.length ≤ maxLen := by
  obtain ⟨a, c, e, hl, _⟩ := h; exact ⟨a, c, e, hl⟩

/-- Several structs are appended. -/
theorem run_appEls {α : Type} {sz : Nat} {El : (Value → Prop) → World → Array Value → α → Prop} (E : ElOK sz El) {t e ty : TypeId} {z : Value} {bytes : Nat} (ht : Try.prog.underlying t = some (.slice e)) (hinfo : (Try.prog.info? e).map (fun i => (i.zero, i.size, i.bytes)) = some (some z, sz, bytes)) (hzs : z.cells.size = sz) (hsz : 0 < sz)
    (w : World) (B : Nat) (v : Value) (ds : List α) (hown : OwnEl El e sz w B v ds) (a : Option Addr) (c : Nat) (es : List α) (Ys : List (Array Value)) (hy : es.length = 0 ∨ ∃ b off, a = some ⟨b, off, none⟩ ∧ w.rangeAt b off (rowsL Ys)) (hA2 : AllEl El (OffB v) w Ys es)
    (h47 : (ds.length + es.length) * bytes ≤ 140737488355328) (hm : ds.length + es.length ≤ maxLen) (hB : B ≤ w.heap.size) :
    ∃ v' w', (Builtin.append_ #[t, t] ty #[v, .slice a es.length c]).run Try.prog w = .ok v' w' ∧ OwnEl El e sz w' B v' (ds ++ es) ∧ w.grownBy w' v.ownBlock ∧ (v'.ownBlock = v.ownBlock ∨ v'.ownBlock = some w.heap.size) := by
  obtain ⟨i0, hi, hz0, hz1, hz2⟩ := info_parts hinfo
  cases a with
  | none =>
    rcases hy with h0 | ⟨b, off, e, _⟩
    · obtain rfl := List.eq_nil_of_length_eq_zero h0
      obtain ⟨Xs, hr, hA⟩ := hown
      exact ⟨v, w, run_app_nil w t ty e i0 sz ht hi v _ _ hr c, ⟨Xs, by simpa using hr, by simpa using hA⟩, World.grownBy.rfl' _ _, .inl rfl⟩
    · cases e
  | some ad =>
    obtain ⟨Xs, hr, hA⟩ := hown
    have hsz2 : ∀ X ∈ Ys, X.size = sz := hA2.sizes E
    have hln : (rowsL Ys).length = es.length * sz := by rw [rowsL_len hsz2, hA2.1]
    obtain ⟨v', w', h1, h2, h3, _, h4⟩ := run_append_own_at (P := Try.prog) w B t ty e i0 z sz bytes ht hi hz0 hz1 hz2 hzs hsz v ds.length _ hr ad es.length c (rowsL Ys) hln
      (fun j u hj => by
        rcases hy with h0 | ⟨b, off, e, hrg⟩
        · have := (List.getElem?_eq_some_iff.1 hj).1
          rw [hln, h0] at this; omega
        · cases e
          rw [Go.WideShapes.add_plain]
          exact hrg j u hj)
      (fun u hu => hA2.ones E u hu) hm h47 hB
    refine ⟨v', w', h1, ⟨Xs ++ Ys, ?_, ?_⟩, h3, h4⟩
    · rw [rowsL_app, List.length_append]; exact h2
    · have hold : AllEl El (OffB v) w (Xs ++ Ys) (ds ++ es) := hA.app hA2
      rcases h4 with h4 | h4
      · refine hold.imp fun Y b hY => E.mono (E.grown hY h3 fun g' y e hy => hy g' e) fun y hy g' e => hy g' (h4 ▸ e)
      · have hnew : AllEl El (fun y => OffB v y ∧ Off w.heap.size y) w (Xs ++ Ys) (ds ++ es) := hold.imp fun Y b hY => E.off hY (Nat.le_refl _)
        refine hnew.imp fun Y b hY => E.mono (E.grown hY h3 fun g' y e hy => hy.1 g' e) fun y hy g' e => by rw [h4] at e; cases e; exact hy.2

/-- The append of one struct, carried out so. -/
theorem wp_appEl {α : Type} {sz : Nat} {El : (Value → Prop) → World → Array Value → α → Prop} (E : ElOK sz El) {t e : TypeId} {z : Value} {bytes : Nat} (ht : Try.prog.underlying t = some (.slice e)) (hinfo : (Try.prog.info? e).map (fun i => (i.zero, i.size, i.bytes)) = some (some z, sz, bytes)) (hzs : z.cells.size = sz) (hsz : 0 < sz)
    {o : Oper} {a : Act} {w : World} {K : Act → World → Prop} {Q : Exit → Act → World → Prop} (s x : Operand)
    (ho : o.op = .call { callee := .builtin .append, args := #[s, x], argTypes := #[t, t] })
    (B : Nat) (v : Value) (ds : List α) (hs : a.eval s = v) (hown : OwnEl El e sz w B v ds) (g c : Nat) (X : Array Value) (d : α) (hx : a.eval x = .slice (some ⟨g, 0, none⟩) 1 c) (hX : El (OffB v) w X d) (hg : w.rangeAt g 0 X.toList)
    (h47 : (ds.length + 1) * bytes ≤ 140737488355328) (hm : ds.length + 1 ≤ maxLen) (hB : B ≤ w.heap.size)
    (h : ∀ v' w', OwnEl El e sz w' B v' (ds ++ [d]) → w.grownBy w' v.ownBlock → (v'.ownBlock = v.ownBlock ∨ v'.ownBlock = some w.heap.size) → K (a.put o.dst v') w') : o.wp Try.prog a w K Q := by
  obtain ⟨v', w', h1, h2, h3, h4⟩ := run_appEl E (ty := o.type) ht hinfo hzs hsz w B v ds hown g c X d hX hg h47 hm hB
  unfold Oper.wp execOp
  simp only [ho, resolve, invoke, builtin, Sem.run_bind, Sem.run_pure, Result.andThen_ok, List.map_toArray, List.map_cons, List.map_nil, hs, hx, h1]
  exact h v' w' h2 h3 h4

/-- The append of several structs, carried out in a region that draws its order. -/
theorem wp_appEls {α : Type} {sz : Nat} {El : (Value → Prop) → World → Array Value → α → Prop} (E : ElOK sz El) {t e : TypeId} {z : Value} {bytes : Nat} (ht : Try.prog.underlying t = some (.slice e)) (hinfo : (Try.prog.info? e).map (fun i => (i.zero, i.size, i.bytes)) = some (some z, sz, bytes)) (hzs : z.cells.size = sz) (hsz : 0 < sz)
    {o : Oper} {a : Act} {w : World} {K : Act → World → Prop} {Q : Exit → Act → World → Prop} (s x : Operand)
    (ho : o.op = .call { callee := .builtin .append, args := #[s, x], argTypes := #[t, t] })
    (B : Nat) (v : Value) (ds : List α) (hs : a.eval s = v) (hown : OwnEl El e sz w B v ds) (ad : Option Addr) (n c : Nat) (es : List α) (Ys : List (Array Value)) (hx : a.eval x = .slice ad n c) (hn : es.length = n) (hy : es.length = 0 ∨ ∃ b off, ad = some ⟨b, off, none⟩ ∧ w.rangeAt b off (rowsL Ys)) (hA : AllEl El (OffB v) w Ys es)
    (h47 : (ds.length + es.length) * bytes ≤ 140737488355328) (hm : ds.length + es.length ≤ maxLen) (hB : B ≤ w.heap.size)
    (h : ∀ v' w', OwnEl El e sz w' B v' (ds ++ es) → w.grownBy w' v.ownBlock → (v'.ownBlock = v.ownBlock ∨ v'.ownBlock = some w.heap.size) → K (a.put o.dst v') w') : o.wp Try.prog a w K Q := by
  subst hn
  obtain ⟨v', w', h1, h2, h3, h4⟩ := run_appEls E (ty := o.type) ht hinfo hzs hsz w B v ds hown ad c es Ys hy hA h47 hm hB
  unfold Oper.wp execOp
  simp only [ho, resolve, invoke, builtin, Sem.run_bind, Sem.run_pure, Result.andThen_ok, List.map_toArray, List.map_cons, List.map_nil, hs, hx, h1]
  exact h v' w' h2 h3 h4

/-- A slice of one struct, carried out in a region that draws its order. -/
theorem wp_buildSlice {P : Program} {o : Oper} {a : Act} {w w' : World} {K : Act → World → Prop} {Q : Exit → Act → World → Prop} (t : TypeId) (n : Nat) (ps : Array (Nat × Operand)) (ho : o.op = .buildSlice t n ps)
    (ps' : Array (Nat × Value)) (hps : ps.map (fun (i, x) => (i, a.eval x)) = ps') (v : Value) (hr : (Instr.buildSlice t n ps').run P w = .ok v w') (h : K (a.put o.dst v) w') : o.wp P a w K Q := by
  unfold Oper.wp execOp
  simp only [ho, hps, Sem.run_bind, hr, Result.andThen_ok, Sem.run_pure]
  exact h
end Go.Proofs.Ytdmjpmigejpkmaa
