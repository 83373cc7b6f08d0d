/- Claims and slashings as data, where they lie. -/
import Derived.Test.YtdmjpmigejpkmaaLt
import Derived.Test.YtdmjpmigejpkmaaPt
set_option linter.unusedVariables false

set_option linter.unusedSimpArgs false
namespace Go.Proofs.Ytdmjpmigejpkmaa
open Go.RowKit

/-- A claim. -/
structure ClD where
  source : Int
  target : Int
  root : List Int
  v : Value

def ClD.ok (x : ClD) : Prop := (0 ≤ x.source ∧ x.source ≤ 18446744073709551615) ∧ (0 ≤ x.target ∧ x.target ≤ 18446744073709551615) ∧ IsBytes 32 x.root

def ClD.parts (x : ClD) : List (List Value) := [[.int .u64 x.source], [.int .u64 x.target], bytesL x.root, [x.v]]

def ClD.cells (x : ClD) : List Value := x.parts.flatten

theorem ClD.len {x : ClD} (h : x.ok) : x.cells.length = 35 := by simp [ClD.cells, ClD.parts, bytesL_len h.2.2]

/-- A load of several cells, whose range is known. -/
theorem wpList_load_rng {P : Program} {ops : Array Oper} {rest : List Oper} {op : Oper} {a : Act} {w : World} {Q : Exit → Act → World → Prop} (ty : TypeId) (x : Operand) (ho : op.op = .load ty x)
    (b o : Nat) (L : List Value) (hr : w.rangeAt b o L) (hx : a.eval x = .pointer (some ⟨b, o, none⟩)) (d : TypeDesc)
    (hu : P.underlying ty = some d) (hd : d.isRow = true) (hi : (P.info? ty).map (·.size) = some L.length) (hw : Region.wanted op (yielded ops a.tmps) = true)
    (h : wpList P ops Q rest (a.put op.dst (.agg L.toArray)) w) : wpList P ops Q (op :: rest) a w :=
  BigFrame.wpList_want hw fun _ hK => wp_load_mid ty x ho b o hx L d hr hu hd hi (hK _ _ h)

theorem rng_app {w : World} {b o : Nat} {L M : List Value} (h : w.rangeAt b o (L ++ M)) {n : Nat} (hn : L.length = n) : w.rangeAt b o L ∧ w.rangeAt b (o + n) M := by
  refine ⟨fun j v hj => h j v ?_, fun j v hj => ?_⟩
  · rw [List.getElem?_append_left (List.getElem?_eq_some_iff.1 hj).1]; exact hj
  · have := h (n + j) v (by rw [List.getElem?_append_right (by omega), hn, Nat.add_sub_cancel_left]; exact hj)
    rw [← Nat.add_assoc] at this; exact this

theorem rng_cons {w : World} {b o : Nat} {v : Value} {M : List Value} (h : w.rangeAt b o (v :: M)) : w.cell? ⟨b, o, none⟩ = some v ∧ w.rangeAt b (o + 1) M :=
  ⟨h 0 v rfl, (rng_app (L := [v]) h rfl).2⟩

theorem rng_one {w : World} {b o : Nat} {v : Value} (h : w.rangeAt b o [v]) : w.cell? ⟨b, o, none⟩ = some v := h 0 v rfl

theorem ClD.cells_eq (x : ClD) : x.cells = .int .u64 x.source :: .int .u64 x.target :: (bytesL x.root ++ [x.v]) := by simp [ClD.cells, ClD.parts]

theorem cl_at {w : World} {b o : Nat} {x : ClD} (h : w.rangeAt b o x.cells) (hx : x.ok) :
    w.cell? ⟨b, o, none⟩ = some (.int .u64 x.source) ∧ w.cell? ⟨b, o + 1, none⟩ = some (.int .u64 x.target) ∧ w.rangeAt b (o + 2) (bytesL x.root) ∧ w.cell? ⟨b, o + 34, none⟩ = some x.v := by
  rw [ClD.cells_eq] at h
  obtain ⟨h1, h2⟩ := rng_cons h
  obtain ⟨h3, h4⟩ := rng_cons h2
  obtain ⟨h5, h6⟩ := rng_app h4 (bytesL_len hx.2.2)
  exact ⟨h1, h3, h5, rng_one h6⟩

theorem Blk.rng {w : World} {b : Nat} {L : List Value} (h : Blk w b L.toArray) : w.rangeAt b 0 L := by
  have := h.range
  simpa using this

theorem sl_at {w : World} {b : Nat} {x y : ClD} (h : Blk w b (flatP [x.cells, y.cells])) (hx : x.ok) : w.rangeAt b 0 x.cells ∧ w.rangeAt b 35 y.cells := by
  have h1 := h.part (k := 0) rfl
  have h2 := h.part (k := 1) rfl
  have e : offP [x.cells, y.cells] 1 = 35 := by simp [offP, ClD.len hx]
  rw [e] at h2
  exact ⟨h1, h2⟩

/-- An attestation; its list is the slice v. -/
structure AtD where
  slot : Int
  root : List Int
  target : CpD
  v : Value

def AtD.ok (x : AtD) : Prop := (0 ≤ x.slot ∧ x.slot ≤ 18446744073709551615) ∧ IsBytes 32 x.root ∧ x.target.ok

def AtD.parts (x : AtD) : List (List Value) := [[.int .u64 x.slot], bytesL x.root, x.target.cells, [x.v]]

/-- A verdict. -/
structure VdD where
  tag : Int
  kind : Int
  latest : List Int

def VdD.ok (x : VdD) : Prop := (0 ≤ x.tag ∧ x.tag ≤ 18446744073709551615) ∧ (-9223372036854775808 ≤ x.kind ∧ x.kind ≤ 9223372036854775807) ∧ IsBytes 32 x.latest

def VdD.parts (x : VdD) : List (List Value) := [[.int .u64 x.tag], [.int .i64 x.kind], bytesL x.latest]
end Go.Proofs.Ytdmjpmigejpkmaa
