/- Rows of numbers of the call's own that are written into. -/
import Derived.Test.YtdlbobpglgjhiaaOwL
set_option linter.unusedVariables false

set_option linter.unusedSimpArgs false
namespace Go.Proofs.Ytdlbobpglgjhiaa
open Go.RowKit

/-- Numbers as cells of a row. -/
def numL (k : IntKind) (xs : List Int) : List (List Value) := xs.map fun x => [Value.int k x]

theorem numL_sz (k : IntKind) (xs : List Int) : ∀ L ∈ numL k xs, L.length = 1 := fun L hL => by
  obtain ⟨x, _, rfl⟩ := List.mem_map.1 hL
  rfl

theorem numL_flat (k : IntKind) (xs : List Int) : (numL k xs).flatten = xs.map (Value.int k) := by
  induction xs with
  | nil => rfl
  | cons x r ih => simp only [numL, List.map_cons, List.flatten_cons] at *; rw [ih]; rfl

theorem numL_len (k : IntKind) (xs : List Int) : (numL k xs).length = xs.length := by simp [numL]

theorem OwnK.rowB {k : IntKind} {e : TypeId} {w : World} {B g n cap : Nat} {xs : List Int} (h : OwnK k e w B (.slice (some ⟨g, 0, none⟩) n cap) xs) : RowB w g (numL k xs) ∧ B ≤ g ∧ n = xs.length := by
  rcases h.2 with ⟨e, _⟩ | ⟨g', cap', cur, e, hb, hg, _, _, hcs, ht⟩
  · cases e
  · cases e
    refine ⟨⟨cur.toList.drop (xs.length * 1), e, ?_⟩, hb, rfl⟩
    have : flatP (numL k xs ++ [cur.toList.drop (xs.length * 1)]) = cur := by
      unfold flatP
      rw [List.flatten_append, numL_flat, ← ht]
      simp
    rw [this]; exact hg

/-- A cell of the row. -/
theorem RowB.num {w : World} {g : Nat} {k : IntKind} {xs : List Int} (h : RowB w g (numL k xs)) {i : Nat} (hi : i < xs.length) : w.cell? ⟨g, i, none⟩ = some (.int k (xs.getD i 0)) := by
  have h1 := h.cell (numL_sz k xs) (k := i) (j := 0) (L := [.int k (xs.getD i 0)]) (v := .int k (xs.getD i 0)) (by simp [numL, List.getD, List.getElem?_eq_getElem hi]) rfl
  rw [Nat.mul_one, Nat.add_zero] at h1
  exact h1

theorem RowB.ints {w : World} {g n c : Nat} {k : IntKind} {xs : List Int} (h : RowB w g (numL k xs)) (hn : n = xs.length) (hm : xs.length ≤ maxLen) : Ints k w (.slice (some ⟨g, 0, none⟩) n c) xs := by
  subst hn
  exact ⟨_, _, _, rfl, rfl, hm, .inr ⟨g, 0, rfl, h.lt, fun i hi => by rw [Nat.zero_add]; exact h.num hi⟩⟩

/-- A number is stored. -/
theorem wpList_store_num {P : Program} {ops : Array Oper} {rest : List Oper} {op : Oper} {a : Act} {w : World} {Q : Exit → Act → World → Prop} (hgd : op.guard = none) (ty : TypeId) (x y : Operand) (ho : op.op = .store ty x y)
    (g i : Nat) (k : IntKind) (xs : List Int) (n : Int) (hB : RowB w g (numL k xs)) (hk : i < xs.length) (hx : a.eval x = .pointer (some ⟨g, i, none⟩)) (hy : a.eval y = .int k n) (hi : (P.info? ty).map (·.size) = some 1)
    (h : ∀ w', Upd g w w' → RowB w' g (numL k (xs.set i n)) → wpList P ops Q rest (a.put op.dst undef) w') : wpList P ops Q (op :: rest) a w := by
  obtain ⟨sp, hB⟩ := hB
  have hl : i < (numL k xs).length := by rw [numL_len]; exact hk
  refine wpList_store_part1 hgd ty x y ho g (numL k xs ++ [sp]) i (.int k (xs.getD i 0)) (.int k n) hB (by rw [List.getElem?_append_left hl]; simp [numL, List.getD, List.getElem?_eq_getElem hk]) (by rw [offP_row (numL_sz k xs) sp hl, Nat.mul_one]; exact hx) hy hi rfl rfl ?_
  intro w' U B
  refine h w' U ⟨sp, ?_⟩
  rw [List.set_append_left _ _ hl] at B
  rw [show numL k (xs.set i n) = (numL k xs).set i [.int k n] from by simp [numL, List.map_set]]
  exact B
end Go.Proofs.Ytdlbobpglgjhiaa
