/- Several texts as one: VoA, VoB, VoC, VoD, VoE, VoG, TsB, TsC, TrH, TrI, TrL, OwM, AnM, BtA, AnA. -/
import Derived.Test.YtdmjpmigejpkmaaRwB
import Derived.Test.YtdmjpmigejpkmaaOwK
import Derived.Test.YtdmjpmigejpkmaaOwL
import Derived.Test.YtdmjpmigejpkmaaZ2
import Derived.Test.YtdmjpmigejpkmaaRt
import Derived.Deep.CutRange
import Derived.Deep.RegionHeld3
import Derived.Deep.MidRow
namespace Go.Proofs.Ytdmjpmigejpkmaa

/-! VoA -/
section
set_option linter.unusedVariables false
set_option linter.unusedSimpArgs false
open Go.RowKit

set_option maxRecDepth 100000

/-- A vote. -/
structure VoD where
  has : Bool
  n : Int
  r : List Int

def VoD.ok (v : VoD) : Prop := 0 ≤ v.n ∧ v.n ≤ 18446744073709551615 ∧ IsBytes 32 v.r

def VoD.cells (v : VoD) : List Value := .bool v.has :: .int .u64 v.n :: bytesL v.r

def zeV : VoD := ⟨false, 0, zeroR⟩

theorem zeV_ok : zeV.ok := ⟨by show (0 : Int) ≤ 0; omega, by show (0 : Int) ≤ _; omega, zeroR_is⟩

theorem VoD.len {v : VoD} (h : v.ok) : v.cells.length = 34 := by simp [VoD.cells, bytesL_len h.2.2]

theorem VoD.one (v : VoD) : ∀ x ∈ v.cells, x.oneCell' = true := by
  intro x hx
  rcases List.mem_cons.1 hx with rfl | hx
  · rfl
  rcases List.mem_cons.1 hx with rfl | hx
  · rfl
  · exact bytesL_one _ x hx

theorem VoD.inj {c d : VoD} (h : c.cells = d.cells) : c = d := by
  cases c; cases d
  simp only [VoD.cells, List.cons.injEq, Value.int.injEq, Value.bool.injEq, true_and] at h
  obtain ⟨h0, h1, h2⟩ := h
  cases h0
  cases h1
  cases bytesL_inj h2
  rfl

/-- An element of a slice of votes. -/
def VoEl (P : Value → Prop) (w : World) (X : Array Value) (d : VoD) : Prop := X = d.cells.toArray ∧ d.ok

theorem voOK : ElOK 34 VoEl where
  size := fun h => by rw [h.1, List.size_toArray, VoD.len h.2]
  one := fun h v hv => by rw [h.1] at hv; exact VoD.one _ v (by simpa using hv)
  mono := fun h _ => h
  grown := fun h _ _ => h
  off := fun h _ => h

/-- A slice of votes. -/
abbrev VotesV (w : World) (v : Value) (vs : List VoD) : Prop := ElV VoEl 34 w v vs

theorem VotesV.call {w w' : World} {v : Value} {vs : List VoD} (h : VotesV w v vs) (hb : Below w.heap.size w w') : VotesV w' v vs := ElV.below voOK h hb

theorem VotesV.elem {w : World} {a : Option Addr} {l cap : Nat} {vs : List VoD} (h : VotesV w (.slice a l cap) vs) {i : Nat} (hi : i < vs.length) :
    ∃ b off, a = some ⟨b, off, none⟩ ∧ l = vs.length ∧ b < w.heap.size ∧ w.rangeAt b (off + i * 34) (vs.getD i zeV).cells ∧ (vs.getD i zeV).ok := by
  obtain ⟨b, off, X, h1, h2, h3, h4, ⟨h5, h6⟩, _⟩ := ElV.at voOK h hi
  have e : vs.getD i zeV = vs[i] := by simp [List.getD, List.getElem?_eq_getElem hi]
  rw [e]
  exact ⟨b, off, h1, h2, h3, by rw [h5] at h4; exact h4, h6⟩

/-- A table of votes: its object in block b, its row in block g. -/
structure VtI (w : World) (b g : Nat) (vs : List VoD) : Prop where
  blk : Blk w b #[.slice (some ⟨g, 0, none⟩) vs.length vs.length]
  row : RowB w g (vs.map VoD.cells)
  ok : ∀ v ∈ vs, v.ok
  len : vs.length ≤ 1024
  ne : b ≠ g

theorem VtI.call {w w' : World} {b g : Nat} {vs : List VoD} (h : VtI w b g vs) (hb : Below w.heap.size w w') : VtI w' b g vs := ⟨h.blk.call hb, h.row.call hb, h.ok, h.len, h.ne⟩

theorem VtI.grown {w w' : World} {b g : Nat} {vs : List VoD} {row : Option Nat} (h : VtI w b g vs) (hg : w.grownBy w' row) (h1 : some b ≠ row) (h2 : some g ≠ row) : VtI w' b g vs := ⟨h.blk.grown hg h1, h.row.grown hg h2, h.ok, h.len, h.ne⟩

theorem cells34 {vs : List VoD} (h : ∀ v ∈ vs, v.ok) : ∀ L ∈ vs.map VoD.cells, L.length = 34 := fun L hL => by
  obtain ⟨v, hv, rfl⟩ := List.mem_map.1 hL
  exact VoD.len (h v hv)

theorem VtI.votes {w : World} {b g : Nat} {vs : List VoD} (h : VtI w b g vs) : VotesV w (.slice (some ⟨g, 0, none⟩) vs.length vs.length) vs := by
  refine ⟨_, _, rfl, by have := h.len; unfold maxLen; omega, .inr ⟨g, 0, rfl, h.row.lt, vs.map fun v => v.cells.toArray, ?_, by simp, ?_⟩⟩
  · have e : rowsL (vs.map fun v => v.cells.toArray) = (vs.map VoD.cells).flatten := by simp [rowsL, List.map_map, Function.comp_def]
    rw [e]; exact h.row.range
  · intro p hp
    obtain ⟨i, hi, rfl⟩ := List.mem_iff_getElem.1 hp
    simp only [List.length_zip, List.length_map] at hi
    simp only [List.getElem_zip, List.getElem_map]
    exact ⟨rfl, h.ok _ (List.getElem_mem _)⟩

theorem getD_ok {vs : List VoD} (h : ∀ v ∈ vs, v.ok) (i : Nat) : (vs.getD i zeV).ok := by
  by_cases hi : i < vs.length
  · have e : vs.getD i zeV = vs[i] := by simp [List.getD, List.getElem?_eq_getElem hi]
    rw [e]; exact h _ (List.getElem_mem hi)
  · have e : vs.getD i zeV = zeV := by simp [List.getD, List.getElem?_eq_none (Nat.le_of_not_lt hi)]
    rw [e]; exact zeV_ok

theorem getD_cells {vs : List VoD} {i : Nat} (hi : i < vs.length) : (vs.map VoD.cells)[i]? = some (vs.getD i zeV).cells := by
  rw [List.getElem?_map]; simp [List.getD, List.getElem?_eq_getElem hi]

/-- The cells of one vote of a row. -/
theorem row_cells {w : World} {g : Nat} {vs : List VoD} (h : RowB w g (vs.map VoD.cells)) (ho : ∀ v ∈ vs, v.ok) {i : Nat} (hi : i < vs.length) :
    w.cell? ⟨g, i * 34, none⟩ = some (.bool (vs.getD i zeV).has) ∧ w.cell? ⟨g, i * 34 + 1, none⟩ = some (.int .u64 (vs.getD i zeV).n) :=
by
  have hc := getD_cells hi
  generalize vs.getD i zeV = d at hc ⊢
  have h0 := h.cell (cells34 ho) hc (j := 0) (v := .bool d.has) rfl
  have h1 := h.cell (cells34 ho) hc (j := 1) (v := .int .u64 d.n) rfl
  rw [Nat.add_zero] at h0
  exact ⟨h0, h1⟩
/-! ### What Cast does -/

/-- One validator's turn. -/
def castI (e : Int) (r : List Int) (s : List VoD × Int) (i : Int) : List VoD × Int :=
  if (s.1.getD i.toNat zeV).has = true ∧ e ≤ (s.1.getD i.toNat zeV).n then s else (s.1.set i.toNat ⟨true, e, r⟩, s.2 + 1)

def castK (vs : List VoD) (e : Int) (r : List Int) (l : List Int) (k : Nat) : List VoD × Int := (l.take k).foldl (castI e r) (vs, 0)

theorem castK_zero (vs : List VoD) (e : Int) (r l : List Int) : castK vs e r l 0 = (vs, 0) := rfl

theorem castK_succ {vs : List VoD} {e : Int} {r l : List Int} {k : Nat} (hk : k < l.length) : castK vs e r l (k + 1) = castI e r (castK vs e r l k) (l.getD k 0) := by
  unfold castK
  rw [List.take_add_one, List.foldl_append]
  simp [List.getD, List.getElem?_eq_getElem hk]

theorem castI_len (e : Int) (r : List Int) (s : List VoD × Int) (i : Int) : (castI e r s i).1.length = s.1.length := by
  unfold castI; split <;> simp

theorem castK_len (vs : List VoD) (e : Int) (r l : List Int) : ∀ k, k ≤ l.length → (castK vs e r l k).1.length = vs.length
  | 0, _ => rfl
  | k + 1, h => by rw [castK_succ (by omega), castI_len]; exact castK_len vs e r l k (by omega)

theorem castI_ok {e : Int} {r : List Int} {s : List VoD × Int} (i : Int) (hs : ∀ v ∈ s.1, v.ok) (he : 0 ≤ e ∧ e ≤ 18446744073709551615) (hr : IsBytes 32 r) : ∀ v ∈ (castI e r s i).1, v.ok := by
  unfold castI; split
  · exact hs
  · intro v hv
    rcases List.mem_or_eq_of_mem_set hv with h | rfl
    · exact hs v h
    · exact ⟨he.1, he.2, hr⟩

theorem castK_ok {vs : List VoD} {e : Int} {r l : List Int} (hs : ∀ v ∈ vs, v.ok) (he : 0 ≤ e ∧ e ≤ 18446744073709551615) (hr : IsBytes 32 r) : ∀ k, k ≤ l.length → ∀ v ∈ (castK vs e r l k).1, v.ok
  | 0, _ => hs
  | k + 1, h => by rw [castK_succ (by omega)]; exact castI_ok _ (castK_ok hs he hr k (by omega)) he hr

theorem castI_cnt (e : Int) (r : List Int) (s : List VoD × Int) (i : Int) : s.2 ≤ (castI e r s i).2 ∧ (castI e r s i).2 ≤ s.2 + 1 := by
  unfold castI; split
  · omega
  · show s.2 ≤ s.2 + 1 ∧ s.2 + 1 ≤ s.2 + 1; omega

theorem castK_cnt (vs : List VoD) (e : Int) (r l : List Int) : ∀ k : Nat, k ≤ l.length → 0 ≤ (castK vs e r l k).2 ∧ (castK vs e r l k).2 ≤ k
  | 0, _ => by rw [castK_zero]; simp
  | k + 1, h => by
    have h1 := castK_cnt vs e r l k (by omega)
    have h2 := castI_cnt e r (castK vs e r l k) (l.getD k 0)
    rw [castK_succ (by omega)]
    omega

/-- All of it. -/
def castR (vs : List VoD) (e : Int) (r l : List Int) : List VoD × Int := if vlE l vs.length = 0 then castK vs e r l l.length else (vs, 0)

theorem VotesV.grownOff {w w' : World} {v : Value} {vs : List VoD} {g : Nat} (h : VotesV w v vs) (hg : w.grownBy w' (some g)) (ho : Off g v) : VotesV w' v vs := by
  obtain ⟨a, cap, rfl, hl, hr⟩ := h
  refine ⟨a, cap, rfl, hl, ?_⟩
  rcases hr with h0 | ⟨b, off, rfl, hlt, Xs, h1, h2⟩
  · exact .inl h0
  · by_cases h0 : vs.length = 0
    · exact .inl h0
    have hne : some b ≠ some g := fun e => ho _ _ _ rfl (by omega) (by cases e; rfl)
    exact .inr ⟨b, off, rfl, Nat.lt_of_lt_of_le hlt hg.size, Xs, fun j u hj => by rw [hg.cell_far ⟨b, off + j, none⟩ hlt hne]; exact h1 j u hj, h2.imp fun X d hX => hX⟩
end

/-! VoB -/
section
set_option linter.unusedVariables false
set_option linter.unusedSimpArgs false
open Go.RowKit

set_option maxRecDepth 100000

/-- The vote of a validator. -/
def voteV (vs : List VoD) (i : Int) : VoD := if i < 0 then zeV else vs.getD i.toNat zeV

theorem voteV_neg {vs : List VoD} {i : Int} (h : i < 0) : voteV vs i = zeV := by unfold voteV; rw [if_pos h]

theorem voteV_far {vs : List VoD} {i : Int} (h : vs.length ≤ i) : voteV vs i = zeV := by
  unfold voteV; split
  · rfl
  · simp [List.getD, List.getElem?_eq_none (show vs.length ≤ i.toNat by omega)]

theorem voteV_nat {vs : List VoD} (k : Nat) : voteV vs k = vs.getD k zeV := by unfold voteV; rw [if_neg (by omega)]; simp
end

/-! VoC -/
section
set_option linter.unusedVariables false
set_option linter.unusedSimpArgs false
open Go.RowKit

set_option maxRecDepth 100000

/-- The supporters of a root among the first k validators. -/
def suppK (vs : List VoD) (r : List Int) : Nat → List Int
  | 0 => []
  | k + 1 => suppK vs r k ++ if (vs.getD k zeV).has = true ∧ (vs.getD k zeV).r = r then [(k : Int)] else []

theorem suppK_len (vs : List VoD) (r : List Int) : ∀ k, (suppK vs r k).length ≤ k
  | 0 => Nat.le_refl _
  | k + 1 => by
    have := suppK_len vs r k
    unfold suppK
    split <;> simp <;> omega

theorem suppK_rng (vs : List VoD) (r : List Int) : ∀ k, ∀ x ∈ suppK vs r k, 0 ≤ x ∧ x < k
  | 0, x, h => by cases h
  | k + 1, x, h => by
    unfold suppK at h
    rcases List.mem_append.1 h with h | h
    · have := suppK_rng vs r k x h; omega
    · split at h
      · rw [List.mem_singleton.1 h]; omega
      · cases h

theorem suppK_yes {vs : List VoD} {r : List Int} {k : Nat} (h1 : (vs.getD k zeV).has = true) (h2 : (vs.getD k zeV).r = r) : suppK vs r (k + 1) = suppK vs r k ++ [(k : Int)] := by
  rw [suppK, if_pos ⟨h1, h2⟩]

theorem suppK_no {vs : List VoD} {r : List Int} {k : Nat} (h : ¬ ((vs.getD k zeV).has = true ∧ (vs.getD k zeV).r = r)) : suppK vs r (k + 1) = suppK vs r k := by
  rw [suppK, if_neg h, List.append_nil]

def SuppI (w : World) (vs : List VoD) (r : List Int) (X : Array Value) (v i : Value) (wr : World) : Prop :=
  ∃ k : Nat, k ≤ vs.length ∧ i = .int .i64 k ∧ OwnK .i64 3 wr (w.heap.size + 1) v (suppK vs r k) ∧ Blk wr w.heap.size X ∧ Below w.heap.size w wr

theorem eq_rootL {xs ys : List Int} (hx : IsBytes 32 xs) (hy : IsBytes 32 ys) (w : World) : Sem.run Try.prog (Op.equalIn 10000 31 (.agg (bytesL xs).toArray) (.agg (bytesL ys).toArray)) w = .ok (decide (xs = ys)) w := eq_root hx hy w
end

/-! VoD -/
section
set_option linter.unusedVariables false
set_option linter.unusedSimpArgs false
open Go.RowKit

set_option maxRecDepth 100000

/-- What Cast promises. -/
def CastE (b g : Nat) (vs : List VoD) (ep : Int) (r l : List Int) (w : World) (e : Ending) (w' : World) : Prop :=
  e = .returned (.tuple #[.int .i64 (castR vs ep r l).2, .int .i64 (vlE l vs.length)]) ∧ VtI w' b g (castR vs ep r l).1 ∧ w.grownBy w' (some g)

def CastI (w : World) (b g : Nat) (vs : List VoD) (ep : Int) (r l : List Int) (X : Array Value) (c i : Value) (wr : World) : Prop :=
  ∃ k : Nat, k ≤ l.length ∧ i = .int .i64 k ∧ c = .int .i64 (castK vs ep r l k).2 ∧ VtI wr b g (castK vs ep r l k).1 ∧ Blk wr w.heap.size X ∧ w.grownBy wr (some g)

theorem grown_below {w a u : World} {row : Option Nat} (h : w.grownBy a row) (hb : Below w.heap.size a u) : w.grownBy u row :=
  ⟨hb.os.trans h.os, hb.tape.trans h.tape, hb.output.trans h.output, Nat.le_trans h.size hb.size, fun k hk hne => (hb.block k hk).trans (h.block k hk hne)⟩

theorem grown_upd {w a u : World} {g : Nat} (h : w.grownBy a (some g)) (hu : Upd g a u) : w.grownBy u (some g) :=
  ⟨hu.os.trans h.os, hu.tape.trans h.tape, hu.output.trans h.output, by rw [hu.size]; exact h.size, fun k hk hne => (hu.block k (fun e => hne (by rw [e]))).trans (h.block k hk hne)⟩

theorem below_grown' {w a : World} (row : Option Nat) (h : Below w.heap.size w a) : w.grownBy a row := ⟨h.os, h.tape, h.output, h.size, fun k hk _ => h.block k hk⟩

theorem VtI.set {w w' : World} {b g : Nat} {vs : List VoD} (h : VtI w b g vs) {j : Nat} {v : VoD} (hv : v.ok) (hu : Upd g w w') (hr : RowB w' g ((vs.map VoD.cells).set j v.cells)) : VtI w' b g (vs.set j v) where
  blk := by rw [List.length_set]; exact hu.blk h.blk h.ne
  row := by rw [List.map_set]; exact hr
  ok := fun x hx => by
    rcases List.mem_or_eq_of_mem_set hx with h' | rfl
    · exact h.ok x h'
    · exact hv
  len := by rw [List.length_set]; exact h.len
  ne := h.ne

theorem castI_same {e : Int} {r : List Int} {T : List VoD} {n : Int} {j : Nat} (h1 : (T.getD j zeV).has = true) (h2 : e ≤ (T.getD j zeV).n) : castI e r (T, n) j = (T, n) := by
  unfold castI; rw [if_pos (by simpa using ⟨h1, h2⟩)]

theorem castI_new {e : Int} {r : List Int} {T : List VoD} {n : Int} {j : Nat} (h : ¬ ((T.getD j zeV).has = true ∧ e ≤ (T.getD j zeV).n)) : castI e r (T, n) j = (T.set j ⟨true, e, r⟩, n + 1) := by
  unfold castI; rw [if_neg (by simpa using h)]; rfl

theorem castR_no {vs : List VoD} {e : Int} {r l : List Int} (h : vlE l vs.length ≠ 0) : castR vs e r l = (vs, 0) := by unfold castR; rw [if_neg h]

theorem castR_yes {vs : List VoD} {e : Int} {r l : List Int} (h : vlE l vs.length = 0) : castR vs e r l = castK vs e r l l.length := by unfold castR; rw [if_pos h]
end

/-! VoE -/
section
set_option linter.unusedVariables false
set_option linter.unusedSimpArgs false
open Go.RowKit

set_option maxRecDepth 100000

/-- A field of a struct that is an array or a struct itself, and one that is not. -/
theorem run_field_row {P : Program} {t : TypeId} {fs : Array Field} {f : Field} {d : TypeDesc} {i n : Nat} (hu : P.underlying t = some (.struct fs)) (hf : fs[i]? = some f) (hd : P.underlying f.type = some d) (hr : d.isRow = true) (hi : (P.info? f.type).map (·.size) = some n) (cs : Array Value) (w : World) :
    (Instr.field t (.agg cs) i).run P w = .ok (.agg (cs.extract f.offset (f.offset + n))) w := by
  have hagg : (isAgg f.type).run P w = .ok true w := by
    unfold isAgg
    rw [Sem.run_bind, run_underlying hd w]
    cases d <;> simp_all [TypeDesc.isRow]
  obtain ⟨ti, hi1, hi2⟩ := Option.map_eq_some_iff.1 hi
  have hso : (sizeOf f.type).run P w = .ok n w := by simp [sizeOf, typeInfo, hi1, hi2]
  simp [Instr.field, run_underlying hu, hf, part, hagg, hso, asAgg]

theorem run_field_one {P : Program} {t : TypeId} {fs : Array Field} {f : Field} {d : TypeDesc} {i : Nat} (hu : P.underlying t = some (.struct fs)) (hf : fs[i]? = some f) (hd : P.underlying f.type = some d) (hr : d.isRow = false) (cs : Array Value) {v : Value} (hv : cs[f.offset]? = some v) (w : World) :
    (Instr.field t (.agg cs) i).run P w = .ok v w := by
  have hagg : (isAgg f.type).run P w = .ok false w := by
    unfold isAgg
    rw [Sem.run_bind, run_underlying hd w]
    cases d <;> simp_all [TypeDesc.isRow]
  simp [Instr.field, run_underlying hu, hf, part, hagg, hv, asAgg]

theorem ints_two {w : World} {g : Nat} {x y : Int} {k : Nat} (h : Blk w g #[.int .i64 x, .int .i64 y]) (hx : -9223372036854775808 ≤ x ∧ x ≤ 9223372036854775807) (hy : -9223372036854775808 ≤ y ∧ y ≤ 9223372036854775807) : IntsV w (.slice (some ⟨g, 0, none⟩) 2 k) [x, y] := by
  refine ⟨⟨_, 2, _, rfl, rfl, by unfold maxLen; omega, .inr ⟨g, 0, rfl, h.lt, fun i hi => ?_⟩⟩, fun z hz => by simp at hz; rcases hz with rfl | rfl; exact hx; exact hy⟩
  rw [Nat.zero_add, h.cell]
  rcases i with _ | _ | i
  · rfl
  · rfl
  · omega

theorem ints_1 {w : World} {g : Nat} {x : Int} {k : Nat} (h : Blk w g #[.int .i64 x]) (hx : -9223372036854775808 ≤ x ∧ x ≤ 9223372036854775807) : IntsV w (.slice (some ⟨g, 0, none⟩) 1 k) [x] := by
  refine ⟨⟨_, 1, _, rfl, rfl, by unfold maxLen; omega, .inr ⟨g, 0, rfl, h.lt, fun i hi => ?_⟩⟩, fun z hz => by simp at hz; rcases hz with rfl; exact hx⟩
  rw [Nat.zero_add, h.cell]
  rcases i with _ | i
  · rfl
  · omega

theorem off_new {g a l c : Nat} (h : a ≠ g) : Off g (.slice (some ⟨a, 0, none⟩) l c) := fun z l' c' e _ => by cases e; exact h

def thirdV (r1 r2 : List Int) : List VoD := [⟨true, 3, r1⟩, ⟨true, 3, r1⟩, ⟨true, 3, r2⟩]

theorem cast_first (r : List Int) : castR (List.replicate 3 zeV) 3 r [0, 1] = ([⟨true, 3, r⟩, ⟨true, 3, r⟩, zeV], 2) ∧ vlE [0, 1] (List.replicate 3 zeV).length = 0 := ⟨rfl, rfl⟩

theorem cast_second (r r2 : List Int) : castR [⟨true, 3, r⟩, ⟨true, 3, r⟩, zeV] 3 r2 [1, 2] = (thirdV r r2, 1) ∧ vlE [1, 2] [⟨true, 3, r⟩, ⟨true, 3, r⟩, zeV].length = 0 := ⟨rfl, rfl⟩

theorem below_row {N g : Nat} {w0 w w' : World} (h : Below N w0 w) (hg : w.grownBy w' (some g)) (hN : N ≤ g) (hs : N ≤ w.heap.size) : Below N w0 w' :=
  ⟨hg.os.trans h.os, hg.tape.trans h.tape, hg.output.trans h.output, Nat.le_trans h.size hg.size, fun k hk => (hg.block k (by omega) (by simp; omega)).trans (h.block k hk)⟩
end

/-! VoG -/
section
set_option linter.unusedVariables false
set_option linter.unusedSimpArgs false
open Go.RowKit

set_option maxRecDepth 100000

/-- Several structs are appended, in a walk. -/
theorem wpList_appEls {α : Type} {sz : Nat} {El : (Value → Prop) → World → Array Value → α → Prop} (E : ElOK sz El) {t e : TypeId} {z : Value} {bytes : Nat} (ht : Try.prog.underlying t = some (.slice e)) (hinfo : (Try.prog.info? e).map (fun i => (i.zero, i.size, i.bytes)) = some (some z, sz, bytes)) (hzs : z.cells.size = sz) (hsz : 0 < sz)
    {ops : Array Oper} {rest : List Oper} {o : Oper} {a : Act} {w : World} {Q : Exit → Act → World → Prop} (s x : Operand)
    (ho : o.op = .call { callee := .builtin .append, args := #[s, x], argTypes := #[t, t] }) (hw : Region.wanted o (yielded ops a.tmps) = true)
    (B : Nat) (v : Value) (ds : List α) (hs : a.eval s = v) (hown : OwnEl El e sz w B v ds) (y : Value) (es : List α) (hx : a.eval x = y) (hy : ElV El sz w y es) (hAll : ∀ {P : Value → Prop} {X d}, El (fun _ => True) w X d → El P w X d)
    (h47 : (ds.length + es.length) * bytes ≤ 140737488355328) (hm : ds.length + es.length ≤ maxLen) (hB : B ≤ w.heap.size)
    (h : ∀ v' w', OwnEl El e sz w' B v' (ds ++ es) → w.grownBy w' v.ownBlock → wpList Try.prog ops Q rest (a.put o.dst v') w') : wpList Try.prog ops Q (o :: rest) a w :=
  BigFrame.wpList_want hw fun _ hK => by
    obtain ⟨ya, yc, rfl, _, hr⟩ := hy
    obtain ⟨v', w', h1, h2, h3, h4⟩ : ∃ v' w', (Builtin.append_ #[t, t] o.type #[v, .slice ya es.length yc]).run Try.prog w = .ok v' w' ∧ OwnEl El e sz w' B v' (ds ++ es) ∧ w.grownBy w' v.ownBlock ∧ (v'.ownBlock = v.ownBlock ∨ v'.ownBlock = some w.heap.size) := by
      rcases hr with h0 | ⟨b, off, rfl, _, Xs, h5, h6⟩
      · have : es = [] := List.eq_nil_of_length_eq_zero h0
        subst this
        exact run_appEls E (ty := o.type) ht hinfo hzs hsz w B v ds hown ya yc [] [] (.inl rfl) (AllEl.nil _ _) h47 hm hB
      · exact run_appEls E (ty := o.type) ht hinfo hzs hsz w B v ds hown _ yc es Xs (.inr ⟨b, off, rfl, h5⟩) (h6.imp fun X d hX => hAll hX) h47 hm hB
    unfold Oper.wp execOp
    simp only [ho, resolve, invoke, builtin, Sem.run_bind, Sem.run_pure, Result.andThen_ok, List.map_toArray, List.map_cons, List.map_nil, hs, hx, h1]
    exact hK _ _ (h v' w' h2 h3)

theorem row_votes {w : World} {g cap : Nat} {vs : List VoD} (h : RowB w g (vs.map VoD.cells)) (ho : ∀ v ∈ vs, v.ok) (hl : vs.length ≤ maxLen) : VotesV w (.slice (some ⟨g, 0, none⟩) vs.length cap) vs := by
  refine ⟨_, _, rfl, hl, .inr ⟨g, 0, rfl, h.lt, vs.map fun v => v.cells.toArray, ?_, by simp, ?_⟩⟩
  · have e : rowsL (vs.map fun v => v.cells.toArray) = (vs.map VoD.cells).flatten := by simp [rowsL, List.map_map, Function.comp_def]
    rw [e]; exact h.range
  · intro p hp
    obtain ⟨i, hi, rfl⟩ := List.mem_iff_getElem.1 hp
    simp only [List.length_zip, List.length_map] at hi
    simp only [List.getElem_zip, List.getElem_map]
    exact ⟨rfl, ho _ (List.getElem_mem _)⟩

theorem VotesV.oks {w : World} {v : Value} {vs : List VoD} (h : VotesV w v vs) : ∀ d ∈ vs, d.ok := by
  obtain ⟨a, c, rfl, _, hr⟩ := h
  rcases hr with h0 | ⟨b, off, _, _, Xs, _, h2⟩
  · rw [List.eq_nil_of_length_eq_zero h0]; simp
  · intro d hd
    obtain ⟨i, hi, rfl⟩ := List.mem_iff_getElem.1 hd
    exact (h2.at hi).2

def RCastI (w : World) (g : Nat) (vs : List VoD) (ep : Int) (r l : List Int) (X : Array Value) (c i : Value) (wr : World) : Prop :=
  ∃ k : Nat, k ≤ l.length ∧ i = .int .i64 k ∧ c = .int .i64 (castK vs ep r l k).2 ∧ RowB wr g ((castK vs ep r l k).1.map VoD.cells) ∧ Blk wr w.heap.size X ∧ Below w.heap.size w wr

/-- A row that is the call's own. -/
def VNew (w : World) (N : Nat) (v : Value) (vs : List VoD) : Prop := VotesV w v vs ∧ New N v
end

/-! TsB -/
section
set_option linter.unusedVariables false
set_option linter.unusedSimpArgs false
open Go.RowKit

set_option maxRecDepth 100000

/-- One cell of a part is written, by an operation of a region. -/
theorem wp_store_part1B {P : Program} {op : Oper} {a : Act} {w : World} {K : Act → World → Prop} {Q : Exit → Act → World → Prop} (ty : TypeId) (x y : Operand) (ho : op.op = .store ty x y)
    (b : Nat) (ps : List (List Value)) (k : Nat) (v u : Value) (hB : Blk w b (flatP ps)) (hk : ps[k]? = some [v]) (hx : a.eval x = .pointer (some ⟨b, offP ps k, none⟩)) (hy : a.eval y = u)
    (hi : (P.info? ty).map (·.size) = some 1) (hu : u.cells = #[u]) (h1 : u.oneCell' = true)
    (h : ∀ w', Upd b w w' → Blk w' b (flatP (ps.set k [u])) → K (a.put op.dst undef) w') : op.wp P a w K Q := by
  have hth := hB.partThere hk
  obtain ⟨g1, g2⟩ := hB.setPart (q := [u]) hk rfl
  have hr := run_storeCells_cells (P := P) b (offP ps k) [u] 0 w (fun j hj => by simpa using (hth j (by simpa using hj)).1) (fun j hj => by simpa using (hth j (by simpa using hj)).2) (fun z hz => by rw [List.mem_singleton.1 hz]; exact h1)
  unfold Oper.wp execOp
  cases hq : P.info? ty with
  | none => simp [hq] at hi
  | some i =>
    have hs : i.size = 1 := by simpa [hq] using hi
    simp only [Nat.add_zero] at hr
    have hsv : (storeVar ty ⟨b, offP ps k, none⟩ u).run P w = .ok () (w.setCells b (offP ps k) [u]) := by
      simp [storeVar, sizeOf, typeInfo, hq, hu, hs, hr]
    simp only [ho, hx, hy, Instr.storeAt, Instr.sureAddr, Sem.run_bind, Sem.run_pure, Result.andThen_ok, hsv]
    exact h _ g1 g2

/-- Nodes in three parts each. -/
def ndP (us : List NdD) : List (List Value) := us.flatMap fun d => [d.b.parts.flatten, [.int .i64 d.up], [.int .i64 d.st]]

theorem ndP_cons (d : NdD) (us : List NdD) : ndP (d :: us) = d.b.parts.flatten :: [.int .i64 d.up] :: [.int .i64 d.st] :: ndP us := rfl

theorem ndP_flat : ∀ us : List NdD, (ndP us).flatten = (us.map NdD.cells).flatten
  | [] => rfl
  | d :: us => by rw [ndP_cons, List.map_cons, List.flatten_cons, List.flatten_cons, List.flatten_cons, List.flatten_cons, ndP_flat us]; simp [NdD.cells]

theorem ndP_at : ∀ {us : List NdD} {j : Nat} (hj : j < us.length) (sp : List Value), (ndP us ++ [sp])[3 * j + 2]? = some [.int .i64 us[j].st]
  | d :: us, 0, _, sp => rfl
  | d :: us, j + 1, hj, sp => by
    rw [ndP_cons, show 3 * (j + 1) + 2 = (3 * j + 2) + 1 + 1 + 1 by omega]
    simpa using ndP_at (us := us) (j := j) (by simpa using hj) sp

theorem ndP_set : ∀ {us : List NdD} {j : Nat} (hj : j < us.length) (sp : List Value) (s : Int), (ndP us ++ [sp]).set (3 * j + 2) [.int .i64 s] = ndP (us.set j ⟨us[j].b, us[j].up, s⟩) ++ [sp]
  | d :: us, 0, _, sp, s => rfl
  | d :: us, j + 1, hj, sp, s => by
    have h := ndP_set (us := us) (j := j) (by simpa using hj) sp s
    rw [ndP_cons, show 3 * (j + 1) + 2 = (3 * j + 2) + 1 + 1 + 1 by omega]
    simp only [List.cons_append, List.set_cons_succ, List.getElem_cons_succ, ndP_cons]
    rw [h]

theorem ndP_off : ∀ {us : List NdD} (ho : ∀ d ∈ us, d.ok) {j : Nat} (hj : j < us.length) (sp : List Value), offP (ndP us ++ [sp]) (3 * j + 2) = j * 240 + 239
  | d :: us, ho, 0, _, sp => by
    have := BkD.flen (ho d (by simp)).1
    simp [ndP_cons, offP, this]
  | d :: us, ho, j + 1, hj, sp => by
    have h := ndP_off (us := us) (fun x hx => ho x (by simp [hx])) (j := j) (by simpa using hj) sp
    have h2 := BkD.flen (ho d (by simp)).1
    rw [ndP_cons, show 3 * (j + 1) + 2 = (3 * j + 2) + 1 + 1 + 1 by omega]
    unfold offP at h ⊢
    simp only [List.cons_append, List.take_succ_cons, List.flatten_cons, List.length_append, h, h2, List.length_cons, List.length_nil]
    omega

/-- A row of nodes, in parts. -/
theorem row_nodes {w : World} {g cap : Nat} {us : List NdD} {sp : List Value} (h : Blk w g (flatP (ndP us ++ [sp]))) (ho : ∀ v ∈ us, v.ok) (hl : us.length ≤ maxLen) : NodesV w (.slice (some ⟨g, 0, none⟩) us.length cap) us := by
  have h' : RowB w g (us.map NdD.cells) := ⟨sp, h.to (by unfold flatP; rw [List.flatten_append, List.flatten_append, ndP_flat])⟩
  refine ⟨_, _, rfl, hl, .inr ⟨g, 0, rfl, h'.lt, us.map fun v => v.cells.toArray, ?_, by simp, ?_⟩⟩
  · have e : rowsL (us.map fun v => v.cells.toArray) = (us.map NdD.cells).flatten := by simp [rowsL, List.map_map, Function.comp_def]
    rw [e]; exact h'.range
  · intro p hp
    obtain ⟨i, hi, rfl⟩ := List.mem_iff_getElem.1 hp
    simp only [List.length_zip, List.length_map] at hi
    simp only [List.getElem_zip, List.getElem_map]
    exact ⟨rfl, ho _ (List.getElem_mem _)⟩

theorem own_row {w : World} {B g n cap : Nat} {us : List NdD} (h : OwnEl NdEl 41 240 w B (.slice (some ⟨g, 0, none⟩) n cap) us) : ∃ sp, Blk w g (flatP (ndP us ++ [sp])) ∧ B ≤ g := by
  obtain ⟨⟨sp, h1⟩, h2, _⟩ := h.rowB ndOK (enc := NdD.cells) (fun h => h.1)
  exact ⟨sp, h1.to (by unfold flatP; rw [List.flatten_append, List.flatten_append, ndP_flat]), h2⟩

/-- The numbers of a list's first k. -/
def pkT (l : List Int) (k j : Nat) : Bool := decide ((j : Int) ∈ l.take k)

theorem pK_succ {l : List Int} {k x : Nat} (hk : k < l.length) (hx : l.getD k 0 = x) : pkT l (k + 1) = fun j => pkT l k j || decide (j = x) := by
  funext j
  unfold pkT
  rw [List.take_succ_eq_append_getElem hk]
  rw [getD_at hk] at hx
  rw [hx, Bool.eq_iff_iff]
  simp only [List.mem_append, List.mem_singleton, Bool.or_eq_true, decide_eq_true_eq]
  constructor
  · rintro (h | h)
    · exact .inl h
    · exact .inr (by omega)
  · rintro (h | h)
    · exact .inl h
    · exact .inr (by rw [h])

/-- None of these nodes has status f. -/
def freeS (ns : List NdD) (l : List Int) (f : Int) : Prop := ∀ x ∈ l, (ndN ns x.toNat).st ≠ f

structure SeS (w : World) (bt g cap n : Nat) (sp : List Value) (lv : Value) (l : List Int) (us : List NdD) (u : World) : Prop where
  r : Blk u (w.heap.size + 1) #[.slice none 0 0]
  v : Blk u bt #[.slice (some ⟨g, 0, none⟩) n cap]
  n : Blk u g (flatP (ndP us ++ [sp]))
  l : IntsV u lv l
  b : Below w.heap.size w u

theorem SeS.setS {w : World} {bt g cap n : Nat} {sp : List Value} {lv : Value} {l : List Int} {us us' : List NdD} {u u' : World} (h : SeS w bt g cap n sp lv l us u) (h1 : bt ≠ g) (h2 : w.heap.size + 1 < g) (ho : Off g lv) (U : Upd g u u') (B : Blk u' g (flatP (ndP us' ++ [sp]))) : SeS w bt g cap n sp lv l us' u' :=
  ⟨U.blk h.r (by omega), U.blk h.v h1, B, ⟨h.l.1.grownOff (upd_grown U) (fun g' e => by cases e; exact ho), h.l.2⟩, U.below h.b (by omega)⟩

theorem stN_oks {ns : List NdD} (h : ∀ d ∈ ns, d.ok) (p : Nat → Bool) {s : Int} (hs : -9223372036854775808 ≤ s ∧ s ≤ 9223372036854775807) : ∀ d ∈ stN ns p s, d.ok := by
  intro d hd
  obtain ⟨j, hj, rfl⟩ := List.mem_iff_getElem.1 hd
  have hj' : j < ns.length := by rw [stN_len] at hj; exact hj
  rw [stN_at ns p s hj' hj]
  have := h _ (List.getElem_mem hj')
  split
  · exact ⟨this.1, this.2.1, hs⟩
  · exact this

theorem SeS.drewN {w : World} {bt g cap n : Nat} {sp : List Value} {lv : Value} {l : List Int} {us : List NdD} {u : World} (h : SeS w bt g cap n sp lv l us u) (k : Nat) : SeS w bt g cap n sp lv l us (u.drewN k) :=
  ⟨h.r.drewN, h.v.drewN, h.n.drewN, ⟨h.l.1.below (Below.drewN (Below.refl _ u)), h.l.2⟩, Below.drewN h.b⟩

set_option maxHeartbeats 16000000 in
theorem set_any (ns : List NdD) (h0 : 0 < ns.length) (hlen : ns.length ≤ 100000) (v lv : Value) (l : List Int) (s f : Int) (hsf : s ≠ f) (hl : ∀ x ∈ l, 0 ≤ x ∧ x < ns.length) (hs : -9223372036854775808 ≤ s ∧ s ≤ 9223372036854775807) (hf : -9223372036854775808 ≤ f ∧ f ≤ 9223372036854775807) (w : World) (hN : NodesV w v ns) (hI : IntsV w lv l) :
    Calls Try.prog 44 #[.agg #[v], lv, .int .i64 s, .int .i64 f] w fun e w' => ∃ (v' : Value) (q : Bool), e = .returned (.tuple #[.agg #[v'], .bool q]) ∧ (∃ a n c, v' = .slice a n c) ∧ (q = true ↔ freeS ns l f) ∧ (q = true → NodesV w' v' (stN ns (pkT l l.length) s) ∧ CapOK v' ∧ New w.heap.size v') ∧ Below w.heap.size w w' := by
  have hi1 : (Try.prog.info? 25).map (·.size) = some 1 := by kernel_rfl
  have hiI : (Try.prog.info? 3).map (·.size) = some 1 := by kernel_rfl
  have HOKS := Lib.hid hN.oks
  have HN := Lib.hid hN
  have HI := Lib.hid hI
  have HL := Lib.hid hl
  obtain ⟨a, c, rfl, hmx⟩ := hN.shape
  obtain ⟨la, lm, lc, rfl⟩ := ints_shape' hI.1
  have HLM := Lib.hid hI.len
  have hlm := hI.len.2
  unfold maxLen at hlm
  obtain ⟨m, hm⟩ : ∃ m, Hid (ns.length = m) := ⟨_, Lib.hid rfl⟩
  rw [hm.out] at HN HL h0 hlen hmx ⊢
  have S0 := Lib.hid (pas_new w #[.slice a m c] 25)
  have S1 : Hid (PaS w #[.slice a m c] ((w.alloc (.cells #[.slice a m c] 25)).alloc (.cells #[.slice none 0 0] 25)) ∧ Blk ((w.alloc (.cells #[.slice a m c] 25)).alloc (.cells #[.slice none 0 0] 25)) (w.heap.size + 1) #[.slice none 0 0]) := ⟨⟨S0.out.t.alloc _, S0.out.b.alloc S0.out.b.size _⟩, Blk.new (by simp)⟩
  clear hN hI hl S0
  go_enter Try.func44, Try.ntmps44
  go_wp2_with (first
    | ((with_reducible refine at_load (.tmp 12) ?_); refine wpList_load_1 23 (.tmp 12) rfl w.heap.size 0 (.slice a m c) (S1.out.1.t.cell 0) rfl _ Try.underlying23 rfl rfl ?_)
    | ((with_reducible refine at_app (.const (.slice none 0 0)) (.tmp 13) ?_); refine wpList_appEls ndOK Try.underlying23 info_node (by rfl) (by omega) (.const (.slice none 0 0)) (.tmp 13) rfl rfl (w.heap.size + 2) (.slice none 0 0) [] rfl (OwnEl.nil _ _) (.slice a m c) ns rfl (ElV.below ndOK HN.out S1.out.1.b) (fun h => h) (by rw [hm.out]; simp; omega) (by rw [hm.out]; unfold maxLen; simp; omega) (by simp) ?_; intro v3 w3 h3 g3; rw [List.nil_append] at h3; have S3 : Hid (Blk w3 (w.heap.size + 1) #[.slice none 0 0] ∧ Below w.heap.size w w3) := ⟨S1.out.2.grown g3 (by intro e; cases e), S1.out.1.b.grown g3 S1.out.1.b.size (fun j hj => by cases hj)⟩; have HO3 := Lib.hid h3; have hsh3 := h3.shape; obtain ⟨xa, xc, rfl, _, hxc, _⟩ := hsh3; rw [hm.out] at HO3 hxc; clear h3 g3)
    | ((with_reducible refine at_build (some 15) ?_); refine wpList_build_g 25 _ rfl #[(0, .slice xa m xc)] (by simp [Act.eval, Act.put, hm.out]) (.agg #[.slice xa m xc]) (b_tree _ _ _ _) rfl ?_)
    | ((with_reducible refine at_store (.tmp 10) ?_); refine wpList_store_blk rfl 25 (.tmp 10) _ rfl w3.heap.size #[.slice xa m xc] rfl rfl #[.slice none 0 0] (Blk.new rfl) rfl hi1 (by simp [Value.oneCell']) ?_; intro w4 U4 B4; have HV4 := Lib.hid B4; have HU4 := Lib.hid U4; have HB34 := Lib.hid (U4.below ((Below.refl w3.heap.size w3).alloc (Nat.le_refl _) (.cells #[.slice none 0 0] 25)) (Nat.le_refl _)); clear U4 B4)
    | fail)
  obtain ⟨g, hg, hgb⟩ : ∃ g, xa = some ⟨g, 0, none⟩ ∧ w.heap.size + 2 ≤ g ∧ g < w3.heap.size := by
    obtain ⟨Xs, h1, _⟩ := HO3.out
    rcases h1.2 with ⟨e, h'⟩ | ⟨g, cap, cur, e, hb, _⟩
    · rw [hm.out] at h'; omega
    · have hlt := HO3.out.lt g (by rw [e]; rfl)
      injection e with e1 _ _
      exact ⟨g, e1, hlt⟩
  subst hg
  obtain ⟨sp, hrow, _⟩ := own_row HO3.out
  have HB4 := Lib.hid (S3.out.2.trans (HB34.out.mono S3.out.2.size))
  have SE0 : Hid (SeS w w3.heap.size g xc m sp (.slice la lm lc) l (stN ns (pkT l 0) s) w4) := by
    have e : stN ns (pkT l 0) s = ns := by
      rw [show pkT l 0 = fun _ => false from by funext j; simp [pkT]]; exact stN_none ns s
    rw [e]
    exact ⟨S3.out.1.call HB34.out, HV4.out, hrow.call HB34.out, ⟨HI.out.1.below HB4.out, HI.out.2⟩, HB4.out⟩
  have HIO : Hid (Off g (.slice la lm lc)) := fun z l' c' e h' => by
    obtain ⟨a', n', c'', e', _, _, hr⟩ := HI.out.1
    cases e; cases e'
    rcases hr with h | ⟨b, o, e2, hb, _⟩
    · omega
    · cases e2; show b ≠ g; omega
  clear S1 S3 HO3 HV4 HU4 HB34 HB4 hrow
  go_loopw [11] (fun j wr => ∃ k : Nat, k ≤ lm ∧ j = .int .i64 k ∧ (∀ x ∈ l.take k, (ndN ns x.toNat).st ≠ f) ∧ SeS w w3.heap.size g xc m sp (.slice la lm lc) l (stN ns (pkT l k) s) wr) (fun j _ => lm - (intOf j).toNat)
  case atStart => exact ⟨0, Nat.zero_le _, rfl, by simp, SE0.out⟩
  case round =>
    obtain ⟨k, hk, rfl, hfr, hS⟩ := hrel
    have SS := Lib.hid hS
    have HFR := Lib.hid hfr
    clear SE0 hS hfr
    by_cases hlt : k < lm
    case neg =>
      obtain rfl : k = lm := by omega
      have hall : l.take k = l := List.take_of_length_le (by rw [HLM.out.1]; exact Nat.le_refl _)
      go_wp2_with (first
        | ((with_reducible refine at_load (.tmp 10) ?_); refine wpList_load_g 25 (.tmp 10) rfl w3.heap.size rfl #[.slice (some ⟨g, 0, none⟩) m xc] _ SS.out.v Try.underlying25 rfl hi1 rfl ?_)
        | ((with_reducible refine at_store (.tmp 8) ?_); refine wpList_store_blk rfl 25 (.tmp 8) _ rfl (w.heap.size + 1) #[.slice (some ⟨g, 0, none⟩) m xc] rfl rfl #[.slice none 0 0] SS.out.r rfl hi1 (by simp [Value.oneCell']) ?_; intro w9 U9 B9; have HR9 := Lib.hid B9; have HU9 := Lib.hid U9; have HB9 := Lib.hid (U9.below SS.out.b (by omega)); clear U9 B9)
        | fail)
      refine bodyPost_ret (res_cell_tmp rfl rfl rfl HR9.out Try.underlying25 rfl hi1) rfl ⟨_, true, rfl, ⟨_, _, _, rfl⟩, ?_, ?_, HB9.out⟩
      · refine ⟨fun _ => ?_, fun _ => rfl⟩
        have := HFR.out
        rw [hall] at this
        exact this
      · intro _
        have hn := HU9.out.blk SS.out.n (by omega)
        have hu : ∀ d ∈ stN ns (pkT l k) s, d.ok := stN_oks HOKS.out _ hs
        have h9 := row_nodes (cap := xc) hn hu (by rw [stN_len, hm.out]; unfold maxLen; omega)
        rw [stN_len, hm.out] at h9
        rw [HLM.out.1]
        refine ⟨h9, ?_, ?_⟩
        · intro a n c e; cases e; exact hxc
        · intro z l' c' e _; cases e; show _ ≤ g; omega
    have hlt' : (k : Int) < lm := by omega
    have hkl : k < l.length := by rw [HLM.out.1]; exact hlt
    obtain ⟨lb, lo, rfl, hlb, hlc⟩ := SS.out.l.at hkl
    have hxr := HL.out _ (getD_mem (l := l) (k := k) hkl)
    obtain ⟨x, hx⟩ : ∃ x : Nat, l.getD k 0 = x := ⟨(l.getD k 0).toNat, by omega⟩
    rw [hx] at hlc hxr
    have hxm : x < m := by omega
    have hxm' : (x : Int) < m := by omega
    have hxn : x < ns.length := by rw [hm.out]; exact hxm
    have hxu : x < (stN ns (pkT l k) s).length := by rw [stN_len]; exact hxn
    have hu : ∀ d ∈ stN ns (pkT l k) s, d.ok := stN_oks HOKS.out _ hs
    have HSUC := Lib.hid (pK_succ hkl hx)
    have hTK : l.take (k + 1) = l.take k ++ [(x : Int)] := by rw [List.take_succ_eq_append_getElem hkl]; rw [getD_at hkl] at hx; rw [hx]
    have HTK := Lib.hid hTK
    have HAT := Lib.hid (ndP_at hxu sp)
    have HOF := Lib.hid (ndP_off hu hxu sp)
    have HST := Lib.hid (fun (d : NdD) (hd : (stN ns (pkT l k) s)[x]? = some d) => stN_set hxn hd)
    have HPS := Lib.hid (ndP_set hxu sp s)
    have hst := (stN_b ns (pkT l k) s hxn hxu).2.2
    have hcs : ((stN ns (pkT l k) s)[x].st = f ↔ ns[x].st = f) := by
      rw [hst]
      by_cases hp : pkT l k x = true
      · rw [if_pos hp]
        have hm' : (x : Int) ∈ l.take k := by unfold pkT at hp; simpa using hp
        have h2 := HFR.out _ hm'
        rw [show ((x : Int)).toNat = x from rfl, ndN_at hxn] at h2
        exact ⟨fun e => absurd e hsf, fun e => absurd e h2⟩
      · rw [if_neg hp]
    have HCS : Hid ((stN ns (pkT l k) s)[x].st = f ↔ (ndN ns (x : Int).toNat).st = f) := by
      show _ ↔ _
      rw [show ((x : Int)).toNat = x from rfl, ndN_at hxn]; exact hcs
    have HSE : Hid ((stN ns (pkT l k) s)[x]? = some (stN ns (pkT l k) s)[x]) := List.getElem?_eq_getElem hxu
    obtain ⟨d, hd⟩ : ∃ d, (stN ns (pkT l k) s)[x] = d := ⟨_, rfl⟩
    rw [hd] at HAT HPS HCS HSE
    obtain ⟨us, hus⟩ : ∃ us, stN ns (pkT l k) s = us := ⟨_, rfl⟩
    rw [hus] at SS HAT HOF HST HPS HSE
    obtain ⟨cs, hcst⟩ : ∃ z, d.st = z := ⟨_, rfl⟩
    rw [hcst] at HAT HCS
    have SD := Lib.hid (SS.out.drewN)
    have c1 : wr.cell? ⟨w3.heap.size, 0, none⟩ = some (.slice (some ⟨g, 0, none⟩) m xc) := SS.out.v.cell 0
    have c2 : wr.cell? ⟨lb, lo + k, none⟩ = some (.int .i64 x) := hlc
    have c3 : wr.cell? ⟨g, x * 240 + 239, none⟩ = some (.int .i64 cs) := by have := SS.out.n.part1 HAT.out; rw [HOF.out] at this; exact this
    have HLO : Hid (Off g (.slice (some ⟨lb, lo, none⟩) lm lc)) := HIO.out
    have HCL : Hid (∀ u, IntsV u (.slice (some ⟨lb, lo, none⟩) lm lc) l → u.cell? ⟨lb, lo + k, none⟩ = some (.int .i64 x)) := fun u hu => by
      obtain ⟨lb', lo', e, _, h⟩ := hu.at (k := k) (by rw [HLM.out.1]; exact hlt)
      cases e
      rw [h, hx]
    have HC2 : Hid (∀ n, (wr.drewN n).cell? ⟨lb, lo + k, none⟩ = some (.int .i64 x)) := fun n => hlc
    clear hd hus hcst hu hxu hst hcs hTK hx hlc hkl hxr
    by_cases hcf : cs = f
    · have hq : (cs == f) = true := beq_iff_eq.2 hcf
      have HNF : Hid (¬ freeS ns l f) := fun h => h _ (List.mem_of_mem_take (i := k + 1) (a := (x : Int)) (by rw [HTK.out]; simp)) (HCS.out.1 hcf)
      clear hcf
      go_wp2_with fail
      go_quiet (fail)
      go_wp2_with (first
        | ((with_reducible refine at_build (some 33) ?_); refine wpList_build_g 25 _ rfl #[] (by simp) (.agg #[.slice none 0 0]) (bz_tree _) rfl ?_)
        | ((with_reducible refine at_store (.tmp 8) ?_); refine wpList_store_blk rfl 25 (.tmp 8) _ rfl (w.heap.size + 1) #[.slice none 0 0] rfl rfl #[.slice none 0 0] (SD.out _).r rfl hi1 (by simp [Value.oneCell']) ?_; intro w9 U9 B9; have HR9 := Lib.hid B9; have HB9 := Lib.hid (U9.below (SD.out _).b (by omega)); clear U9 B9)
        | fail)
      exact bodyPost_ret (res_cell_tmp rfl rfl rfl HR9.out Try.underlying25 rfl hi1) rfl ⟨_, false, rfl, ⟨_, _, _, rfl⟩, ⟨(fun h => by cases h), (fun h => absurd h HNF.out)⟩, (fun h => by cases h), HB9.out⟩
    · have hq : (cs == f) = false := by rw [Bool.eq_false_iff]; intro h; exact hcf (beq_iff_eq.1 h)
      have HNF : Hid (∀ y ∈ l.take (k + 1), (ndN ns y.toNat).st ≠ f) := fun y hy => by
        rw [HTK.out] at hy
        rcases List.mem_append.1 hy with h | h
        · exact HFR.out y h
        · rw [List.mem_singleton.1 h]; exact fun e => hcf (HCS.out.2 e)
      clear hcf
      go_wp2_with fail
      go_quiet (fail)
      go_wp2_with fail
      have SR := Lib.hid (SD.out (nq + 1))
      refine wp_region_held_drew (S := fun u => u.cell? ⟨w3.heap.size, 0, none⟩ = some (.slice (some ⟨g, 0, none⟩) m xc) ∧ u.cell? ⟨lb, lo + k, none⟩ = some (.int .i64 x)) (by kernel_rfl) (⟨SR.out.v.cell 0, HC2.out (nq + 1)⟩) (fun _ => ?_)
      (try simp only [Act.put, List.setIfInBounds_toArray, List.set_cons_zero, List.set_cons_succ])
      refine wpAnyH_take (i := 0) (oi := ⟨some 34, _, _, _, _, _⟩) (v := .pointer (some ⟨w3.heap.size, 0, none⟩)) rfl (by kernel_rfl) (by kernel_rfl) (by kernel_rfl) (fun _ _ _ h => h) (Or.inl ⟨by rfl, fun wz hz => ?_⟩) ⟨SR.out.v.cell 0, HC2.out (nq + 1)⟩ ?_
      · clear hz; go_simp; first | done | with_reducible rfl | rfl
      (try simp only [Act.put, List.setIfInBounds_toArray, List.set_cons_zero, List.set_cons_succ])
      refine held_load1 (oi := ⟨some 35, _, _, _, _, _⟩) 1 rfl (by kernel_rfl) (by kernel_rfl) (by kernel_rfl) (fun _ _ _ _ h => h) rfl 23 (.tmp 34) rfl w3.heap.size 0 rfl (.slice (some ⟨g, 0, none⟩) m xc) _ (fun u' hu => hu.1) Try.underlying23 rfl ⟨SR.out.v.cell 0, HC2.out (nq + 1)⟩ ?_
      (try simp only [Act.put, List.setIfInBounds_toArray, List.set_cons_zero, List.set_cons_succ])
      refine wpAnyH_take (i := 2) (oi := ⟨some 36, _, _, _, _, _⟩) (v := .slice (some ⟨lb, lo, none⟩) lm lc) rfl (by kernel_rfl) (by kernel_rfl) (by kernel_rfl) (fun _ _ _ h => h) (Or.inl ⟨by rfl, fun wz hz => ?_⟩) ⟨SR.out.v.cell 0, HC2.out (nq + 1)⟩ ?_
      · clear hz; go_simp; first | done | with_reducible rfl | rfl
      (try simp only [Act.put, List.setIfInBounds_toArray, List.set_cons_zero, List.set_cons_succ])
      refine wpAnyH_take (i := 3) (oi := ⟨some 37, _, _, _, _, _⟩) (v := .int .i64 k) rfl (by kernel_rfl) (by kernel_rfl) (by kernel_rfl) (fun _ _ _ h => h) (Or.inl ⟨by rfl, fun wz hz => ?_⟩) ⟨SR.out.v.cell 0, HC2.out (nq + 1)⟩ ?_
      · clear hz; go_simp; first | done | with_reducible rfl | rfl
      (try simp only [Act.put, List.setIfInBounds_toArray, List.set_cons_zero, List.set_cons_succ])
      refine wpAnyH_take (i := 4) (oi := ⟨some 38, _, _, _, _, _⟩) (v := .pointer (some ⟨lb, lo + k, none⟩)) rfl (by kernel_rfl) (by kernel_rfl) (by kernel_rfl) (fun _ _ _ h => h) (Or.inl ⟨by rfl, fun wz hz => ?_⟩) ⟨SR.out.v.cell 0, HC2.out (nq + 1)⟩ ?_
      · clear hz; go_simp; first | done | with_reducible rfl | rfl
      (try simp only [Act.put, List.setIfInBounds_toArray, List.set_cons_zero, List.set_cons_succ])
      refine held_load1 (oi := ⟨some 39, _, _, _, _, _⟩) 5 rfl (by kernel_rfl) (by kernel_rfl) (by kernel_rfl) (fun _ _ _ _ h => h) rfl 3 (.tmp 38) rfl lb (lo + k) rfl (.int .i64 x) _ (fun u' hu => hu.2) Try.underlying3 rfl ⟨SR.out.v.cell 0, HC2.out (nq + 1)⟩ ?_
      (try simp only [Act.put, List.setIfInBounds_toArray, List.set_cons_zero, List.set_cons_succ])
      refine wpAnyH_take (i := 6) (oi := ⟨some 40, _, _, _, _, _⟩) (v := .int .i64 s) rfl (by kernel_rfl) (by kernel_rfl) (by kernel_rfl) (fun _ _ _ h => h) (Or.inl ⟨by rfl, fun wz hz => ?_⟩) ⟨SR.out.v.cell 0, HC2.out (nq + 1)⟩ ?_
      · clear hz; go_simp; first | done | with_reducible rfl | rfl
      (try simp only [Act.put, List.setIfInBounds_toArray, List.set_cons_zero, List.set_cons_succ])
      refine wpAnyH_take (i := 7) (oi := ⟨some 41, _, _, _, _, _⟩) (v := .pointer (some ⟨g, x * 240, none⟩)) rfl (by kernel_rfl) (by kernel_rfl) (by kernel_rfl) (fun _ _ _ h => h) (Or.inl ⟨by rfl, fun wz hz => ?_⟩) ⟨SR.out.v.cell 0, HC2.out (nq + 1)⟩ ?_
      · clear hz; go_simp; first | done | with_reducible rfl | rfl
      (try simp only [Act.put, List.setIfInBounds_toArray, List.set_cons_zero, List.set_cons_succ])
      refine wpAnyH_take (i := 8) (oi := ⟨some 42, _, _, _, _, _⟩) (v := .pointer (some ⟨g, x * 240 + 239, none⟩)) rfl (by kernel_rfl) (by kernel_rfl) (by kernel_rfl) (fun _ _ _ h => h) (Or.inl ⟨by rfl, fun wz hz => ?_⟩) ⟨SR.out.v.cell 0, HC2.out (nq + 1)⟩ ?_
      · clear hz; go_simp; first | done | with_reducible rfl | rfl
      (try simp only [Act.put, List.setIfInBounds_toArray, List.set_cons_zero, List.set_cons_succ])
      refine wpAnyH_ready (rs := [9]) (by kernel_rfl) (by simp) ?_
      refine AllReadyH.cons rfl (fun K hK => ?_) AllReadyH.nil
      rw [if_pos (by rfl)]
      refine wp_store_part1B 3 (.tmp 42) (.tmp 40) rfl g (ndP us ++ [sp]) (3 * x + 2) (.int .i64 cs) (.int .i64 s) SR.out.n HAT.out (by rw [HOF.out]; rfl) rfl hiI rfl rfl ?_
      intro w9 U9 B9
      have S9 := Lib.hid (SR.out.setS (by omega) (by omega) HLO.out U9 (HPS.out ▸ B9))
      have hs9 : w9.cell? ⟨w3.heap.size, 0, none⟩ = some (.slice (some ⟨g, 0, none⟩) m xc) ∧ w9.cell? ⟨lb, lo + k, none⟩ = some (.int .i64 x) := ⟨S9.out.v.cell 0, HCL.out _ S9.out.l⟩
      clear U9 B9
      refine hK.out _ _ hs9 (fun _ => ?_)
      clear hK K
      (try simp only [Act.put, List.setIfInBounds_toArray, List.set_cons_zero, List.set_cons_succ])

      refine wpAnyH_done (by kernel_rfl) ?_ _
      go_wp2_with fail
      go_roundw
      case rel => exact ⟨k + 1, by omega, by go_num, HNF.out, by rw [HSUC.out, ← HST.out _ HSE.out]; exact S9.out⟩
      case measure => simp [intOf]; omega
end

/-! TsC -/
section
set_option linter.unusedVariables false
set_option linter.unusedSimpArgs false
open Go.RowKit

set_option maxRecDepth 100000

theorem keepT_drew (w : World) : Below w.heap.size w w.drew := ⟨rfl, rfl, rfl, Nat.le_refl _, fun _ _ => rfl⟩

theorem keepT_alloc {w u : World} (h : Below w.heap.size w u) (o : Obj) : Below w.heap.size w (u.alloc o) := h.alloc h.size o

theorem keepT_call {w u v : World} (h : Below w.heap.size w u) (hb : Below u.heap.size u v) : Below w.heap.size w v := h.trans (hb.mono h.size)

theorem keepT_realloc {w u : World} {o o' : Obj} (h : Below w.heap.size w (u.alloc o)) (hs : w.heap.size ≤ u.heap.size) : Below w.heap.size w (u.alloc o') :=
  ⟨h.os, h.tape, h.output, by simp; omega, fun k hk => by rw [Below.heap_alloc _ _ _ (by omega), ← Below.heap_alloc u o _ (by omega)]; exact h.block k hk⟩

theorem below_drew0 {N : Nat} {w u : World} (h : Below N w u) : Below N w u.drew := Below.drewN (n := 1) h

theorem stN_congr (ns : List NdD) {p q : Nat → Bool} (s : Int) (h : ∀ j, p j = q j) : stN ns p s = stN ns q s := by rw [show p = q from funext h]

theorem desc_rng (ns : List NdD) (i : Int) : ∀ x ∈ descN ns i, 0 ≤ x ∧ x < ns.length := fun x hx => selK_rng _ _ x hx

theorem free_in {ns : List NdD} {l : List Int} {p : Nat → Bool} {f : Int} (hl : ∀ x ∈ l, 0 ≤ x ∧ x < ns.length) (hp : ∀ j, j < ns.length → p j = decide ((j : Int) ∈ l)) : freeS ns l f ↔ ¬ anyS ns p f := by
  unfold freeS anyS
  constructor
  · rintro h ⟨j, hj, h1, h2⟩
    rw [hp j hj] at h1
    simp only [decide_eq_true_eq] at h1
    have := h _ h1
    rw [show ((j : Int)).toNat = j from rfl, ndN_at hj] at this
    exact this h2
  · intro h x hx e
    obtain ⟨h0, h1⟩ := hl x hx
    obtain ⟨j, rfl⟩ : ∃ j : Nat, x = j := ⟨x.toNat, by omega⟩
    have hj : j < ns.length := by omega
    rw [show ((j : Int)).toNat = j from rfl, ndN_at hj] at e
    exact h ⟨j, hj, by rw [hp j hj]; simpa using hx, e⟩

theorem stN_cong2 (ns : List NdD) {p q : Nat → Bool} (s : Int) (h : ∀ j, j < ns.length → p j = q j) : stN ns p s = stN ns q s := by
  apply List.ext_getElem (by simp [stN_len])
  intro j h1 h2
  have hj : j < ns.length := by simpa [stN_len] using h1
  rw [stN_at ns p s hj h1, stN_at ns q s hj h2, h j hj]

theorem desc_intsT {ns : List NdD} {i : Int} {w : World} {B : Nat} {v : Value} (hlen : ns.length ≤ 100000) (h : OwnK .i64 3 w B v (descN ns i)) : IntsV w v (descN ns i) := by
  have hl : (descN ns i).length ≤ ns.length := selK_len _ _
  exact ⟨h.ints (by unfold maxLen; omega), fun x hx => by have := desc_rng ns i x hx; omega⟩

theorem Upd.gbT {b : Nat} {w w' : World} (h : Upd b w w') : w.grownBy w' (some b) := ⟨h.os, h.tape, h.output, by rw [h.size]; exact Nat.le_refl _, fun k _ hne => h.block k (fun e => hne (by rw [e]))⟩

theorem alloc_sz (w : World) (o : Obj) : (w.alloc o).heap.size = w.heap.size + 1 := Array.size_push ..

/-- What the copy's box and the flag hold where the ways meet: Raise's and Condemn's cut. -/
def SetR (us : List NdD) (F : Prop) (N : Nat) (w1 : World) (p q7 : Value) (wx : World) : Prop :=
  ∃ (B : Nat) (v' : Value) (q : Bool), p = .pointer (some ⟨B, 0, none⟩) ∧ q7 = .bool q ∧ Blk wx B #[v'] ∧ (q = true ↔ F) ∧ (q = true → NodesV wx v' us ∧ CapOK v' ∧ New (N + 2) v') ∧ N + 1 < B ∧ (∃ a n c, v' = .slice a n c) ∧ Below w1.heap.size w1 wx

theorem SetR.new {us : List NdD} {F : Prop} {N M : Nat} {w1 w3 : World} {q : Bool} {v : Value} {t : TypeId} (hq : q = true ↔ F) (hn : q = true → NodesV w3 v us ∧ CapOK v ∧ New M v) (hM : N + 2 ≤ M) (hs : ∃ a n c, v = .slice a n c) (hB : N + 1 < w3.heap.size) (hb : Below w1.heap.size w1 (w3.alloc (.cells #[v] t))) :
    SetR us F N w1 (.pointer (some ⟨w3.heap.size, 0, none⟩)) (.bool q) (w3.alloc (.cells #[v] t)) :=
  ⟨_, _, q, rfl, rfl, Blk.new rfl, hq, fun h => ⟨(hn h).1.call ((Below.refl _ _).alloc (Nat.le_refl _) _), (hn h).2.1, (hn h).2.2.mono hM⟩, hB, hs, hb⟩

theorem SetR.set {us : List NdD} {F : Prop} {N M B : Nat} {w1 w3 : World} {q : Bool} {v v0 : Value} (hq : q = true ↔ F) (hn : q = true → NodesV w3 v us ∧ CapOK v ∧ New M v) (hM : N + 2 ≤ M) (hs : ∃ a n c, v = .slice a n c) (hB : N + 1 < B) (hBM : B < M) (hz : Blk w3 B #[v0]) (hb : Below w1.heap.size w1 (w3.setCell ⟨B, 0, none⟩ v)) :
    SetR us F N w1 (.pointer (some ⟨B, 0, none⟩)) (.bool q) (w3.setCell ⟨B, 0, none⟩ v) :=
  ⟨_, _, q, rfl, rfl, by simpa using hz.setCell (j := 0) (v := v), hq, fun h => ⟨(hn h).1.grownOff (setCell_grown _ _ _ _) ((hn h).2.2.off hBM), (hn h).2.1, (hn h).2.2.mono hM⟩, hB, hs, hb⟩

/-- What Raise and Condemn promise. -/
def SetE (r : List NdD × Int) (w : World) (e : Ending) (w' : World) : Prop :=
  ∃ v', e = .returned (.tuple #[.agg #[v'], .int .i64 r.2]) ∧ NodesV w' v' r.1 ∧ CapOK v' ∧ New w.heap.size v' ∧ Below w.heap.size w w'

set_option maxHeartbeats 8000000 in
theorem raise_any (ns : List NdD) (hok : TrOK ns) (hlen : ns.length ≤ 100000) (i : Int) (v : Value) (w : World) (hN : NodesV w v ns) :
    Calls Try.prog 32 #[.agg #[v], .int .i64 i] w (SetE (raiN ns i) w) := by
  have hi1 : (Try.prog.info? 25).map (·.size) = some 1 := by kernel_rfl
  have S0 := Lib.hid (pas_new w #[v] 25)
  have S1 : Hid (PaS w #[v] ((w.alloc (.cells #[v] 25)).alloc (.cells #[.slice none 0 0] 25)) ∧ Blk ((w.alloc (.cells #[v] 25)).alloc (.cells #[.slice none 0 0] 25)) (w.heap.size + 1) #[.slice none 0 0]) := ⟨⟨S0.out.t.alloc _, S0.out.b.alloc S0.out.b.size _⟩, Blk.new (by simp)⟩
  have HIS := Lib.hid (fun u (hu : Below w.heap.size w u) => isn_any v ns i u (hN.call hu))
  obtain ⟨a, c, rfl, _⟩ := hN.shape
  clear S0
  by_cases hin : 0 ≤ i ∧ i < ns.length
  case neg =>
    rw [decide_eq_false hin] at HIS
    have hr : raiN ns i = ([], 10) := by unfold raiN; rw [if_pos hin]
    rw [hr]
    clear hin hr hN hok
    go_enter Try.func32, Try.ntmps32
    go_wp2_with (first
      | ((with_reducible refine at_load (.tmp 2) ?_); refine wpList_load_g 25 (.tmp 2) rfl w.heap.size rfl #[.slice a ns.length c] _ S1.out.1.t Try.underlying25 rfl hi1 rfl ?_)
      | (go_at_call 43; refine (HIS.out _ S1.out.1.b).mono ?_; rintro e w1 ⟨rfl, hb1⟩; have S2 : Hid (PaS w #[.slice a ns.length c] w1 ∧ Blk w1 (w.heap.size + 1) #[.slice none 0 0]) := ⟨S1.out.1.call hb1, S1.out.2.call hb1⟩; clear hb1)
      | ((with_reducible refine at_build (some 12) ?_); refine wpList_build_g 25 _ rfl #[] (by simp) (.agg #[.slice none 0 0]) (bz_tree _) rfl ?_)
      | ((with_reducible refine at_store (.tmp 4) ?_); refine wpList_store_blk rfl 25 (.tmp 4) _ rfl (w.heap.size + 1) #[.slice none 0 0] rfl rfl #[.slice none 0 0] S2.out.2 rfl hi1 (by simp [Value.oneCell']) ?_; intro w9 U9 B9; have HR9 := Lib.hid B9; have HB9 := Lib.hid (U9.below S2.out.1.b (by omega)); clear U9 B9)
      | fail)
    exact bodyPost_ret (res_cell_tmp rfl rfl rfl HR9.out Try.underlying25 rfl hi1) rfl ⟨_, rfl, nodes_nil _, CapOK.nil, New.nil _, HB9.out⟩
  rw [decide_eq_true hin] at HIS
  have hrng : ∀ x ∈ pathN ns i, 0 ≤ x ∧ x < ns.length := pathN_rng hok i
  have hpp : ∀ j, j < ns.length → onB ns i j = decide ((j : Int) ∈ pathN ns i) := fun j _ => rfl
  have HSUB : Hid (∀ u, Below w.heap.size w u → Calls Try.prog 39 #[.agg #[.slice a ns.length c], .int .i64 i] u fun e w' => ∃ v', e = .returned v' ∧ OwnK .i64 3 w' u.heap.size v' (pathN ns i) ∧ Below u.heap.size u w') := fun u hu => path_any ns hok hlen i (.slice a ns.length c) u (hN.call hu)
  have HSET := Lib.hid (fun lv u (hu : Below w.heap.size w u) (hI : IntsV u lv (pathN ns i)) => set_any ns hok.pos hlen (.slice a ns.length c) lv (pathN ns i) 1 2 (by omega) hrng (by omega) (by omega) u (hN.call hu) hI)
  have HINT : Hid (∀ (u : World) B x, OwnK .i64 3 u B x (pathN ns i) → IntsV u x (pathN ns i)) := fun u B x h => path_ints hok hlen h
  have HFR := Lib.hid (free_in (f := 2) hrng hpp)
  have HRS : Hid (stN ns (pkT (pathN ns i) (pathN ns i).length) 1 = stN ns (onB ns i) 1) := by
    show _ = _
    refine stN_cong2 ns 1 (fun j hj => ?_)
    rw [hpp j hj]; unfold pkT; rw [List.take_length]
  have HRN : Hid (raiN ns i = if anyS ns (onB ns i) 2 then ([], 21) else (stN ns (onB ns i) 1, 0)) := by
    show _ = _
    unfold raiN; rw [if_neg (fun h => h hin)]
  rw [HRS.out] at HSET
  obtain ⟨P, hP⟩ : ∃ P, pathN ns i = P := ⟨_, rfl⟩
  rw [hP] at HSUB HSET HINT HFR
  clear hin hN hok hrng hpp hP HRS
  go_enter Try.func32, Try.ntmps32
  go_wp2_with (first
    | ((with_reducible refine at_load (.tmp 2) ?_); refine wpList_load_g 25 (.tmp 2) rfl w.heap.size rfl #[.slice a ns.length c] _ S1.out.1.t Try.underlying25 rfl hi1 rfl ?_)
    | (go_at_call 43; refine (HIS.out _ S1.out.1.b).mono ?_; rintro e w1 ⟨rfl, hb1⟩; have S2 : Hid (PaS w #[.slice a ns.length c] w1 ∧ Blk w1 (w.heap.size + 1) #[.slice none 0 0]) := ⟨S1.out.1.call hb1, S1.out.2.call hb1⟩; clear hb1)
    | fail)
  have MK : Hid (∀ u, Below w1.heap.size w1 u → Below w1.heap.size w1 u ∧ u.cell? ⟨w.heap.size, 0, none⟩ = some (.slice a ns.length c)) := fun u hu => ⟨hu, (S2.out.1.t.call hu).cell 0⟩
  have WB : Hid (∀ u, Below w1.heap.size w1 u → Below w.heap.size w u) := fun u hu => S2.out.1.b.trans (hu.mono S2.out.1.b.size)
  clear S1
  go_cut [6, 7] from 14 to 24 (fun p6 q7 wx => SetR (stN ns (onB ns i) 1) (freeS ns P 2) w.heap.size w1 p6 q7 wx)
  case first =>
    go_region_held3 (fun u => Below w1.heap.size w1 u ∧ u.cell? ⟨w.heap.size, 0, none⟩ = some (.slice a ns.length c))
      (first | exact MK.out _ (keepT_drew _) | exact MK.out _ (keepT_alloc (And.left (by assumption)) _) | exact MK.out _ (keepT_call (And.left (by assumption)) (by assumption)) | exact MK.out _ (keepT_realloc (And.left (by assumption)) (by omega)) | exact MK.out _ (Below.setCell (And.left (by assumption)) (p := ⟨_, 0, none⟩) (by first | exact q3 | exact q2 | exact Nat.le_refl _) _) | assumption)
      ((first
        | (go_at_call 39; have hcur := And.left (by assumption : _ ∧ _); refine (HSUB.out _ (WB.out _ hcur)).mono ?_; rintro e w2 ⟨pv, rfl, ho2, hb2⟩
           have q2 : w1.heap.size ≤ w2.heap.size := (keepT_call hcur hb2).size
           have HI2 := Lib.hid (HINT.out _ _ _ ho2)
           (first | have ZB := Lib.hid (Blk.call hb2 (Blk.new rfl : Blk _ _ #[.slice none 0 0])) | skip)
           clear ho2 hcur)
        | (go_at_call 44; have hcur := And.left (by assumption : _ ∧ _); refine (HSET.out _ _ (WB.out _ hcur) (by first | exact HI2.out | exact HI2.out.below ((Below.refl _ _).alloc (Nat.le_refl _) _))).mono ?_; rintro e w3 ⟨v3, qb, rfl, ⟨xa, xn, xc, rfl⟩, hq3, hn3, hb3⟩
           have q3 : w1.heap.size ≤ w3.heap.size := (keepT_call hcur hb3).size
           (first | have ZC := Lib.hid (ZB.out.call hb3) | have ZC := Lib.hid (Blk.call hb3 (Blk.new rfl : Blk _ _ #[.slice none 0 0])) | skip)
           (first | (have z0 := ZC.out.cell 0; have z1 := ZC.out.free 0; have z2 := ZC.out.lt; simp only [List.getElem?_toArray, List.getElem?_cons_zero] at z0) | skip)
           have HQ3 := Lib.hid hq3
           have HN3 := Lib.hid hn3
           clear hq3 hn3 hcur)))
    all_goals (have hst := And.left (by assumption : _ ∧ _))
    all_goals (have HST := Lib.hid hst)
    all_goals (have LT := Lib.hid S2.out.2.lt)
    all_goals go_wp2_with fail
    all_goals go_meet
    all_goals (have lt := LT.out)
    all_goals (first
      | exact SetR.new HQ3.out HN3.out (by omega) ⟨_, _, _, rfl⟩ (by omega) HST.out
      | (have zz := ZB.out.lt; exact SetR.set HQ3.out HN3.out (by omega) ⟨_, _, _, rfl⟩ (by omega) (by omega) ZC.out HST.out)
      | exact SetR.set HQ3.out HN3.out (by rw [alloc_sz]; omega) ⟨_, _, _, rfl⟩ (by omega) (by rw [alloc_sz]; omega) ZC.out HST.out)
  case rest =>
    obtain ⟨B, v', q, rfl, rfl, hZ, hq, hn, hB, ⟨xa, xn, xc, rfl⟩, hb⟩ := hcut
    have S3 := Lib.hid (S2.out.2.call hb)
    have ZZ := Lib.hid hZ
    have HWX := Lib.hid (WB.out _ hb)
    cases q
    case false =>
      have hr : raiN ns i = ([], 21) := by
        rw [HRN.out, if_pos]
        have h1 : ¬ freeS ns P 2 := fun h => by have := hq.2 h; cases this
        rw [HFR.out] at h1
        exact Classical.not_not.mp h1
      have HRR := Lib.hid hr
      clear hq hn hr hb hZ
      go_wp2_with (first
        | ((with_reducible refine at_build (some 23) ?_); refine wpList_build_g 25 _ rfl #[] (by simp) (.agg #[.slice none 0 0]) (bz_tree _) rfl ?_)
        | ((with_reducible refine at_store (.tmp 4) ?_); refine wpList_store_blk rfl 25 (.tmp 4) _ rfl (w.heap.size + 1) #[.slice none 0 0] rfl rfl #[.slice none 0 0] S3.out rfl hi1 (by simp [Value.oneCell']) ?_; intro w9 U9 B9; have HR9 := Lib.hid B9; have HB9 := Lib.hid (U9.below HWX.out (by omega)); clear U9 B9)
        | fail)
      exact bodyPost_ret (res_cell_tmp rfl rfl rfl HR9.out Try.underlying25 rfl hi1) rfl (by rw [HRR.out]; exact ⟨_, rfl, nodes_nil _, CapOK.nil, New.nil _, HB9.out⟩)
    case true =>
      have hr : raiN ns i = (stN ns (onB ns i) 1, 0) := by
        rw [HRN.out, if_neg]
        exact HFR.out.1 (hq.1 rfl)
      have HRR := Lib.hid hr
      have HN := Lib.hid (hn rfl)
      clear hq hn hr hb hZ
      go_wp2_with (first
        | ((with_reducible refine at_load (.tmp 6) ?_); refine wpList_load_g 25 (.tmp 6) rfl B rfl #[.slice xa xn xc] _ ZZ.out Try.underlying25 rfl hi1 rfl ?_)
        | ((with_reducible refine at_store (.tmp 4) ?_); refine wpList_store_blk rfl 25 (.tmp 4) _ rfl (w.heap.size + 1) #[.slice xa xn xc] rfl rfl #[.slice none 0 0] S3.out rfl hi1 (by simp [Value.oneCell']) ?_; intro w9 U9 B9; have HR9 := Lib.hid B9; have HB9 := Lib.hid (U9.below HWX.out (by omega)); have HG := Lib.hid U9.gbT; clear U9 B9)
        | fail)
      exact bodyPost_ret (res_cell_tmp rfl rfl rfl HR9.out Try.underlying25 rfl hi1) rfl (by rw [HRR.out]; exact ⟨_, rfl, HN.out.1.grownOff HG.out (HN.out.2.2.off (by omega)), HN.out.2.1, HN.out.2.2.mono (by omega), HB9.out⟩)

set_option maxHeartbeats 8000000 in
theorem condemn_any (ns : List NdD) (hok : TrOK ns) (hlen : ns.length ≤ 100000) (i : Int) (v : Value) (w : World) (hN : NodesV w v ns) :
    Calls Try.prog 33 #[.agg #[v], .int .i64 i] w (SetE (conN ns i) w) := by
  have hi1 : (Try.prog.info? 25).map (·.size) = some 1 := by kernel_rfl
  have S0 := Lib.hid (pas_new w #[v] 25)
  have S1 : Hid (PaS w #[v] ((w.alloc (.cells #[v] 25)).alloc (.cells #[.slice none 0 0] 25)) ∧ Blk ((w.alloc (.cells #[v] 25)).alloc (.cells #[.slice none 0 0] 25)) (w.heap.size + 1) #[.slice none 0 0]) := ⟨⟨S0.out.t.alloc _, S0.out.b.alloc S0.out.b.size _⟩, Blk.new (by simp)⟩
  have HIS := Lib.hid (fun u (hu : Below w.heap.size w u) => isn_any v ns i u (hN.call hu))
  obtain ⟨a, c, rfl, _⟩ := hN.shape
  clear S0
  by_cases hin : 0 ≤ i ∧ i < ns.length
  case neg =>
    rw [decide_eq_false hin] at HIS
    have hr : conN ns i = ([], 10) := by unfold conN; rw [if_pos hin]
    rw [hr]
    clear hin hr hN hok
    go_enter Try.func33, Try.ntmps33
    go_wp2_with (first
      | ((with_reducible refine at_load (.tmp 2) ?_); refine wpList_load_g 25 (.tmp 2) rfl w.heap.size rfl #[.slice a ns.length c] _ S1.out.1.t Try.underlying25 rfl hi1 rfl ?_)
      | (go_at_call 43; refine (HIS.out _ S1.out.1.b).mono ?_; rintro e w1 ⟨rfl, hb1⟩; have S2 : Hid (PaS w #[.slice a ns.length c] w1 ∧ Blk w1 (w.heap.size + 1) #[.slice none 0 0]) := ⟨S1.out.1.call hb1, S1.out.2.call hb1⟩; clear hb1)
      | ((with_reducible refine at_build (some 12) ?_); refine wpList_build_g 25 _ rfl #[] (by simp) (.agg #[.slice none 0 0]) (bz_tree _) rfl ?_)
      | ((with_reducible refine at_store (.tmp 4) ?_); refine wpList_store_blk rfl 25 (.tmp 4) _ rfl (w.heap.size + 1) #[.slice none 0 0] rfl rfl #[.slice none 0 0] S2.out.2 rfl hi1 (by simp [Value.oneCell']) ?_; intro w9 U9 B9; have HR9 := Lib.hid B9; have HB9 := Lib.hid (U9.below S2.out.1.b (by omega)); clear U9 B9)
      | fail)
    exact bodyPost_ret (res_cell_tmp rfl rfl rfl HR9.out Try.underlying25 rfl hi1) rfl ⟨_, rfl, nodes_nil _, CapOK.nil, New.nil _, HB9.out⟩
  rw [decide_eq_true hin] at HIS
  have hrng : ∀ x ∈ descN ns i, 0 ≤ x ∧ x < ns.length := desc_rng ns i
  have hpp : ∀ j, j < ns.length → belB ns i j = decide ((j : Int) ∈ descN ns i) := fun j hj => by
    unfold belB descN
    by_cases h : i ∈ pathN ns (j : Int)
    · rw [decide_eq_true h, decide_eq_true (selK_mem.2 ⟨j, hj, rfl, by simpa using h⟩)]
    · rw [decide_eq_false h, decide_eq_false]
      intro hm; obtain ⟨j2, _, e, h2⟩ := selK_mem.1 hm; have : j2 = j := by omega
      subst this; exact h (by simpa using h2)
  have HSUB : Hid (∀ u, Below w.heap.size w u → Calls Try.prog 45 #[.agg #[.slice a ns.length c], .int .i64 i] u fun e w' => ∃ v', e = .returned v' ∧ OwnK .i64 3 w' u.heap.size v' (descN ns i) ∧ Below u.heap.size u w') := fun u hu => desc_any ns hok hlen i (.slice a ns.length c) u (hN.call hu)
  have HSET := Lib.hid (fun lv u (hu : Below w.heap.size w u) (hI : IntsV u lv (descN ns i)) => set_any ns hok.pos hlen (.slice a ns.length c) lv (descN ns i) 2 1 (by omega) hrng (by omega) (by omega) u (hN.call hu) hI)
  have HINT : Hid (∀ (u : World) B x, OwnK .i64 3 u B x (descN ns i) → IntsV u x (descN ns i)) := fun u B x h => desc_intsT hlen h
  have HFR := Lib.hid (free_in (f := 1) hrng hpp)
  have HRS : Hid (stN ns (pkT (descN ns i) (descN ns i).length) 2 = stN ns (belB ns i) 2) := by
    show _ = _
    refine stN_cong2 ns 2 (fun j hj => ?_)
    rw [hpp j hj]; unfold pkT; rw [List.take_length]
  have HRN : Hid (conN ns i = if anyS ns (belB ns i) 1 then ([], 21) else (stN ns (belB ns i) 2, 0)) := by
    show _ = _
    unfold conN; rw [if_neg (fun h => h hin)]
  rw [HRS.out] at HSET
  obtain ⟨P, hP⟩ : ∃ P, descN ns i = P := ⟨_, rfl⟩
  rw [hP] at HSUB HSET HINT HFR
  clear hin hN hok hrng hpp hP HRS
  go_enter Try.func33, Try.ntmps33
  go_wp2_with (first
    | ((with_reducible refine at_load (.tmp 2) ?_); refine wpList_load_g 25 (.tmp 2) rfl w.heap.size rfl #[.slice a ns.length c] _ S1.out.1.t Try.underlying25 rfl hi1 rfl ?_)
    | (go_at_call 43; refine (HIS.out _ S1.out.1.b).mono ?_; rintro e w1 ⟨rfl, hb1⟩; have S2 : Hid (PaS w #[.slice a ns.length c] w1 ∧ Blk w1 (w.heap.size + 1) #[.slice none 0 0]) := ⟨S1.out.1.call hb1, S1.out.2.call hb1⟩; clear hb1)
    | fail)
  have MK : Hid (∀ u, Below w1.heap.size w1 u → Below w1.heap.size w1 u ∧ u.cell? ⟨w.heap.size, 0, none⟩ = some (.slice a ns.length c)) := fun u hu => ⟨hu, (S2.out.1.t.call hu).cell 0⟩
  have WB : Hid (∀ u, Below w1.heap.size w1 u → Below w.heap.size w u) := fun u hu => S2.out.1.b.trans (hu.mono S2.out.1.b.size)
  clear S1
  go_cut [6, 7] from 14 to 24 (fun p6 q7 wx => SetR (stN ns (belB ns i) 2) (freeS ns P 1) w.heap.size w1 p6 q7 wx)
  case first =>
    go_region_held3 (fun u => Below w1.heap.size w1 u ∧ u.cell? ⟨w.heap.size, 0, none⟩ = some (.slice a ns.length c))
      (first | exact MK.out _ (keepT_drew _) | exact MK.out _ (keepT_alloc (And.left (by assumption)) _) | exact MK.out _ (keepT_call (And.left (by assumption)) (by assumption)) | exact MK.out _ (keepT_realloc (And.left (by assumption)) (by omega)) | exact MK.out _ (Below.setCell (And.left (by assumption)) (p := ⟨_, 0, none⟩) (by first | exact q3 | exact q2 | exact Nat.le_refl _) _) | assumption)
      ((first
        | (go_at_call 45; have hcur := And.left (by assumption : _ ∧ _); refine (HSUB.out _ (WB.out _ hcur)).mono ?_; rintro e w2 ⟨pv, rfl, ho2, hb2⟩
           have q2 : w1.heap.size ≤ w2.heap.size := (keepT_call hcur hb2).size
           have HI2 := Lib.hid (HINT.out _ _ _ ho2)
           (first | have ZB := Lib.hid (Blk.call hb2 (Blk.new rfl : Blk _ _ #[.slice none 0 0])) | skip)
           clear ho2 hcur)
        | (go_at_call 44; have hcur := And.left (by assumption : _ ∧ _); refine (HSET.out _ _ (WB.out _ hcur) (by first | exact HI2.out | exact HI2.out.below ((Below.refl _ _).alloc (Nat.le_refl _) _))).mono ?_; rintro e w3 ⟨v3, qb, rfl, ⟨xa, xn, xc, rfl⟩, hq3, hn3, hb3⟩
           have q3 : w1.heap.size ≤ w3.heap.size := (keepT_call hcur hb3).size
           (first | have ZC := Lib.hid (ZB.out.call hb3) | have ZC := Lib.hid (Blk.call hb3 (Blk.new rfl : Blk _ _ #[.slice none 0 0])) | skip)
           (first | (have z0 := ZC.out.cell 0; have z1 := ZC.out.free 0; have z2 := ZC.out.lt; simp only [List.getElem?_toArray, List.getElem?_cons_zero] at z0) | skip)
           have HQ3 := Lib.hid hq3
           have HN3 := Lib.hid hn3
           clear hq3 hn3 hcur)))
    all_goals (have hst := And.left (by assumption : _ ∧ _))
    all_goals (have HST := Lib.hid hst)
    all_goals (have LT := Lib.hid S2.out.2.lt)
    all_goals go_wp2_with fail
    all_goals go_meet
    all_goals (have lt := LT.out)
    all_goals (first
      | exact SetR.new HQ3.out HN3.out (by omega) ⟨_, _, _, rfl⟩ (by omega) HST.out
      | (have zz := ZB.out.lt; exact SetR.set HQ3.out HN3.out (by omega) ⟨_, _, _, rfl⟩ (by omega) (by omega) ZC.out HST.out)
      | exact SetR.set HQ3.out HN3.out (by rw [alloc_sz]; omega) ⟨_, _, _, rfl⟩ (by omega) (by rw [alloc_sz]; omega) ZC.out HST.out)
  case rest =>
    obtain ⟨B, v', q, rfl, rfl, hZ, hq, hn, hB, ⟨xa, xn, xc, rfl⟩, hb⟩ := hcut
    have S3 := Lib.hid (S2.out.2.call hb)
    have ZZ := Lib.hid hZ
    have HWX := Lib.hid (WB.out _ hb)
    cases q
    case false =>
      have hr : conN ns i = ([], 21) := by
        rw [HRN.out, if_pos]
        have h1 : ¬ freeS ns P 1 := fun h => by have := hq.2 h; cases this
        rw [HFR.out] at h1
        exact Classical.not_not.mp h1
      have HRR := Lib.hid hr
      clear hq hn hr hb hZ
      go_wp2_with (first
        | ((with_reducible refine at_build (some 23) ?_); refine wpList_build_g 25 _ rfl #[] (by simp) (.agg #[.slice none 0 0]) (bz_tree _) rfl ?_)
        | ((with_reducible refine at_store (.tmp 4) ?_); refine wpList_store_blk rfl 25 (.tmp 4) _ rfl (w.heap.size + 1) #[.slice none 0 0] rfl rfl #[.slice none 0 0] S3.out rfl hi1 (by simp [Value.oneCell']) ?_; intro w9 U9 B9; have HR9 := Lib.hid B9; have HB9 := Lib.hid (U9.below HWX.out (by omega)); clear U9 B9)
        | fail)
      exact bodyPost_ret (res_cell_tmp rfl rfl rfl HR9.out Try.underlying25 rfl hi1) rfl (by rw [HRR.out]; exact ⟨_, rfl, nodes_nil _, CapOK.nil, New.nil _, HB9.out⟩)
    case true =>
      have hr : conN ns i = (stN ns (belB ns i) 2, 0) := by
        rw [HRN.out, if_neg]
        exact HFR.out.1 (hq.1 rfl)
      have HRR := Lib.hid hr
      have HN := Lib.hid (hn rfl)
      clear hq hn hr hb hZ
      go_wp2_with (first
        | ((with_reducible refine at_load (.tmp 6) ?_); refine wpList_load_g 25 (.tmp 6) rfl B rfl #[.slice xa xn xc] _ ZZ.out Try.underlying25 rfl hi1 rfl ?_)
        | ((with_reducible refine at_store (.tmp 4) ?_); refine wpList_store_blk rfl 25 (.tmp 4) _ rfl (w.heap.size + 1) #[.slice xa xn xc] rfl rfl #[.slice none 0 0] S3.out rfl hi1 (by simp [Value.oneCell']) ?_; intro w9 U9 B9; have HR9 := Lib.hid B9; have HB9 := Lib.hid (U9.below HWX.out (by omega)); have HG := Lib.hid U9.gbT; clear U9 B9)
        | fail)
      exact bodyPost_ret (res_cell_tmp rfl rfl rfl HR9.out Try.underlying25 rfl hi1) rfl (by rw [HRR.out]; exact ⟨_, rfl, HN.out.1.grownOff HG.out (HN.out.2.2.off (by omega)), HN.out.2.1, HN.out.2.2.mono (by omega), HB9.out⟩)
end

/-! TrH -/
section
set_option linter.unusedVariables false
set_option linter.unusedSimpArgs false
open Go.RowKit

set_option maxRecDepth 100000

def upI (ns : List NdD) (k : Nat) : Int := ((ns[k]?).map NdD.up).getD 0

theorem upI_at {ns : List NdD} {k : Nat} (h : k < ns.length) : upI ns k = ns[k].up := by simp [upI, List.getElem?_eq_getElem h]

def childN (ns : List NdD) (i : Int) : List Int := if 0 ≤ i ∧ i < ns.length then selK (fun k => decide (upI ns k = i)) ns.length else []

theorem childN_len (ns : List NdD) (i : Int) : (childN ns i).length ≤ ns.length := by
  unfold childN
  split
  · exact selK_len _ _
  · simp

def leafN (ns : List NdD) : List Int := selK (fun k => decide ((childN ns (k : Int)).length = 0)) ns.length
end

/-! TrI -/
section
set_option linter.unusedVariables false
set_option linter.unusedSimpArgs false
open Go.RowKit

set_option maxRecDepth 100000

/-- The last of the first k nodes of a path whose slot is at most s. -/
def atK (ns : List NdD) (l : List Int) (s : Int) : Nat → Int
  | 0 => -1
  | k + 1 => if slotAt ns (l.getD k 0) ≤ s then l.getD k 0 else atK ns l s k

def atP (ns : List NdD) (i s : Int) : Int := atK ns (pathN ns i) s (pathN ns i).length

theorem atK_yes {ns : List NdD} {l : List Int} {s : Int} {k : Nat} (h : slotAt ns (l.getD k 0) ≤ s) : atK ns l s (k + 1) = l.getD k 0 := by
  show (if slotAt ns (l.getD k 0) ≤ s then l.getD k 0 else atK ns l s k) = _
  rw [if_pos h]

theorem atK_no {ns : List NdD} {l : List Int} {s : Int} {k : Nat} (h : ¬ slotAt ns (l.getD k 0) ≤ s) : atK ns l s (k + 1) = atK ns l s k := by
  show (if slotAt ns (l.getD k 0) ≤ s then l.getD k 0 else atK ns l s k) = _
  rw [if_neg h]

def AtI (w : World) (T : Array Value) (ns : List NdD) (l : List Int) (s : Int) (pv v i : Value) (wr : World) : Prop :=
  ∃ k : Nat, k ≤ l.length ∧ i = .int .i64 k ∧ v = .int .i64 (atK ns l s k) ∧ IntsV wr pv l ∧ PaS w T wr

/-- The number behind the first a from place k on. -/
def heirF (l : List Int) (a : Int) : Nat → Nat → Int
  | 0, _ => -1
  | f + 1, k => if k < l.length then (if l.getD (k - 1) 0 = a then l.getD k 0 else heirF l a f (k + 1)) else -1

def heirN (ns : List NdD) (a b : Int) : Int := heirF (pathN ns b) a (pathN ns b).length 1

theorem heirF_step {l : List Int} {a : Int} {k : Nat} (hk : k < l.length) : heirF l a (l.length + 1 - k) k = if l.getD (k - 1) 0 = a then l.getD k 0 else heirF l a (l.length + 1 - (k + 1)) (k + 1) := by
  rw [show l.length + 1 - k = (l.length + 1 - (k + 1)) + 1 by omega]
  show (if k < l.length then (if l.getD (k - 1) 0 = a then l.getD k 0 else heirF l a (l.length + 1 - (k + 1)) (k + 1)) else -1) = _
  rw [if_pos hk]

theorem heirF_end {l : List Int} {a : Int} {k : Nat} (hk : l.length ≤ k) (f : Nat) : heirF l a f k = -1 := by
  cases f with
  | zero => rfl
  | succ f => show (if k < l.length then _ else -1) = _; rw [if_neg (by omega)]

def HeirI (w : World) (T : Array Value) (l : List Int) (a r : Int) (pv i : Value) (wr : World) : Prop :=
  ∃ k : Nat, 1 ≤ k ∧ k ≤ l.length + 1 ∧ i = .int .i64 k ∧ heirF l a (l.length + 1 - k) k = r ∧ IntsV wr pv l ∧ PaS w T wr
end

/-! TrL -/
section
set_option linter.unusedVariables false
set_option linter.unusedSimpArgs false
open Go.RowKit

set_option maxRecDepth 100000

/-- Whether a is an ancestor of the first j of l. -/
def allK (ns : List NdD) (l : List Int) (a : Int) : Nat → Bool
  | 0 => true
  | j + 1 => allK ns l a j && decide (a ∈ pathN ns (l.getD j 0))

theorem allK_succ (ns : List NdD) (l : List Int) (a : Int) (j : Nat) : allK ns l a (j + 1) = (allK ns l a j && decide (a ∈ pathN ns (l.getD j 0))) := rfl

def comK (ns : List NdD) (l p : List Int) : Nat → Int
  | 0 => -1
  | k + 1 => if allK ns l (p.getD k 0) l.length then p.getD k 0 else comK ns l p k

theorem comK_yes {ns : List NdD} {l p : List Int} {k : Nat} (h : allK ns l (p.getD k 0) l.length = true) : comK ns l p (k + 1) = p.getD k 0 := by
  show (if allK ns l (p.getD k 0) l.length = true then p.getD k 0 else comK ns l p k) = _
  rw [if_pos h]

theorem comK_no {ns : List NdD} {l p : List Int} {k : Nat} (h : allK ns l (p.getD k 0) l.length = false) : comK ns l p (k + 1) = comK ns l p k := by
  show (if allK ns l (p.getD k 0) l.length = true then p.getD k 0 else comK ns l p k) = _
  rw [if_neg (by rw [h]; simp)]

def comN (ns : List NdD) (l : List Int) : Int :=
  if l.length = 0 then -1 else if 0 ≤ l.getD 0 0 ∧ l.getD 0 0 < ns.length then comK ns l (pathN ns (l.getD 0 0)) (pathN ns (l.getD 0 0)).length else -1
end

/-! OwM -/
section
set_option linter.unusedVariables false
set_option linter.unusedSimpArgs false
open Go.RowKit

/-- Numbers as cells of a row. -/
def numL (k : IntKind) (xs : List Int) : List (List Value) := xs.map fun x => [Value.int k x]

theorem numL_sz (k : IntKind) (xs : List Int) : ∀ L ∈ numL k xs, L.length = 1 := fun L hL => by
  obtain ⟨x, _, rfl⟩ := List.mem_map.1 hL
  rfl

theorem numL_flat (k : IntKind) (xs : List Int) : (numL k xs).flatten = xs.map (Value.int k) := by
  induction xs with
  | nil => rfl
  | cons x r ih => simp only [numL, List.map_cons, List.flatten_cons] at *; rw [ih]; rfl

theorem numL_len (k : IntKind) (xs : List Int) : (numL k xs).length = xs.length := by simp [numL]

theorem OwnK.rowB {k : IntKind} {e : TypeId} {w : World} {B g n cap : Nat} {xs : List Int} (h : OwnK k e w B (.slice (some ⟨g, 0, none⟩) n cap) xs) : RowB w g (numL k xs) ∧ B ≤ g ∧ n = xs.length := by
  rcases h.2 with ⟨e, _⟩ | ⟨g', cap', cur, e, hb, hg, _, _, hcs, ht⟩
  · cases e
  · cases e
    refine ⟨⟨cur.toList.drop (xs.length * 1), e, ?_⟩, hb, rfl⟩
    have : flatP (numL k xs ++ [cur.toList.drop (xs.length * 1)]) = cur := by
      unfold flatP
      rw [List.flatten_append, numL_flat, ← ht]
      simp
    rw [this]; exact hg

/-- A cell of the row. -/
theorem RowB.num {w : World} {g : Nat} {k : IntKind} {xs : List Int} (h : RowB w g (numL k xs)) {i : Nat} (hi : i < xs.length) : w.cell? ⟨g, i, none⟩ = some (.int k (xs.getD i 0)) := by
  have h1 := h.cell (numL_sz k xs) (k := i) (j := 0) (L := [.int k (xs.getD i 0)]) (v := .int k (xs.getD i 0)) (by simp [numL, List.getD, List.getElem?_eq_getElem hi]) rfl
  rw [Nat.mul_one, Nat.add_zero] at h1
  exact h1

theorem RowB.ints {w : World} {g n c : Nat} {k : IntKind} {xs : List Int} (h : RowB w g (numL k xs)) (hn : n = xs.length) (hm : xs.length ≤ maxLen) : Ints k w (.slice (some ⟨g, 0, none⟩) n c) xs := by
  subst hn
  exact ⟨_, _, _, rfl, rfl, hm, .inr ⟨g, 0, rfl, h.lt, fun i hi => by rw [Nat.zero_add]; exact h.num hi⟩⟩

/-- A number is stored. -/
theorem wpList_store_num {P : Program} {ops : Array Oper} {rest : List Oper} {op : Oper} {a : Act} {w : World} {Q : Exit → Act → World → Prop} (hgd : op.guard = none) (ty : TypeId) (x y : Operand) (ho : op.op = .store ty x y)
    (g i : Nat) (k : IntKind) (xs : List Int) (n : Int) (hB : RowB w g (numL k xs)) (hk : i < xs.length) (hx : a.eval x = .pointer (some ⟨g, i, none⟩)) (hy : a.eval y = .int k n) (hi : (P.info? ty).map (·.size) = some 1)
    (h : ∀ w', Upd g w w' → RowB w' g (numL k (xs.set i n)) → wpList P ops Q rest (a.put op.dst undef) w') : wpList P ops Q (op :: rest) a w := by
  obtain ⟨sp, hB⟩ := hB
  have hl : i < (numL k xs).length := by rw [numL_len]; exact hk
  refine wpList_store_part1 hgd ty x y ho g (numL k xs ++ [sp]) i (.int k (xs.getD i 0)) (.int k n) hB (by rw [List.getElem?_append_left hl]; simp [numL, List.getD, List.getElem?_eq_getElem hk]) (by rw [offP_row (numL_sz k xs) sp hl, Nat.mul_one]; exact hx) hy hi rfl rfl ?_
  intro w' U B
  refine h w' U ⟨sp, ?_⟩
  rw [List.set_append_left _ _ hl] at B
  rw [show numL k (xs.set i n) = (numL k xs).set i [.int k n] from by simp [numL, List.map_set]]
  exact B
end

/-! AnM -/
section
set_option linter.unusedVariables false
set_option linter.unusedSimpArgs false
open Go.RowKit

set_option maxRecDepth 100000

theorem up_path {ns : List NdD} (h : TrOK ns) {k : Nat} (hk : k < ns.length) : -1 ≤ ns[k].up ∧ ns[k].up < k ∧ pathN ns (k : Int) = pathN ns ns[k].up ++ [(k : Int)] := by
  by_cases h0 : k = 0
  · subst h0
    have e := h.root hk
    rw [e]
    refine ⟨by omega, by omega, ?_⟩
    rw [show ((0 : Nat) : Int) = 0 from rfl, pathN_zero hk, pathN_out (by omega)]
    rfl
  · obtain ⟨h1, h2, h3⟩ := h.upAt hk (by omega)
    rw [h3]
    exact ⟨by omega, by omega, pathN_step h hk (by omega)⟩

theorem path_le {ns : List NdD} (h : TrOK ns) {i x : Int} (hx : x ∈ pathN ns i) : 0 ≤ x ∧ x ≤ i := by
  by_cases hi : 0 ≤ i ∧ i < ns.length
  · obtain ⟨k, rfl⟩ : ∃ k : Nat, i = k := ⟨i.toNat, by omega⟩
    exact pathN_mem h k (by omega) x hx
  · rw [pathN_out hi] at hx; cases hx

theorem path_node {ns : List NdD} {i x : Int} (hx : x ∈ pathN ns i) : 0 ≤ i ∧ i < ns.length := by
  by_cases hi : 0 ≤ i ∧ i < ns.length
  · exact hi
  · rw [pathN_out hi] at hx; cases hx

theorem path_self {ns : List NdD} (h : TrOK ns) {k : Nat} (hk : k < ns.length) : (k : Int) ∈ pathN ns (k : Int) := by
  rw [(up_path h hk).2.2]; simp

theorem path_up {ns : List NdD} (h : TrOK ns) {k : Nat} (hk : k < ns.length) {x : Int} : x ∈ pathN ns (k : Int) ↔ x ∈ pathN ns ns[k].up ∨ x = k := by
  rw [(up_path h hk).2.2, List.mem_append, List.mem_singleton]

theorem path_pw {ns : List NdD} (h : TrOK ns) : ∀ i : Nat, i < ns.length → (pathN ns (i : Int)).Pairwise (· < ·) := by
  intro i
  induction i using Nat.strongRecOn with
  | ind i ih =>
    intro hi
    obtain ⟨h1, h2, h3⟩ := up_path h hi
    rw [h3, List.pairwise_append]
    refine ⟨?_, List.pairwise_singleton _ _, fun x hx y hy => ?_⟩
    · by_cases hu : 0 ≤ ns[i].up
      · obtain ⟨u, hu⟩ : ∃ u : Nat, ns[i].up = u := ⟨ns[i].up.toNat, by omega⟩
        rw [hu]
        exact ih u (by omega) (by omega)
      · rw [pathN_out (by omega)]; exact List.Pairwise.nil
    · rw [List.mem_singleton.1 hy]
      have := path_le h hx; omega

/-- An ancestor that is smaller is one of the parent. -/
theorem isan_step {ns : List NdD} (h : TrOK ns) {k : Nat} (hk : k < ns.length) {a : Int} (ha : a < k) : decide (a ∈ pathN ns (k : Int)) = decide (a ∈ pathN ns ns[k].up) := by
  apply Bool.eq_iff_iff.2
  rw [decide_eq_true_iff, decide_eq_true_iff, path_up h hk]
  exact ⟨fun h => h.resolve_right (by omega), .inl⟩

theorem isan_end {ns : List NdD} (h : TrOK ns) {b a : Int} (hb : 0 ≤ b ∧ b < ns.length) (ha : ¬ a < b) : decide (a ∈ pathN ns b) = (b == a) := by
  obtain ⟨k, rfl⟩ : ∃ k : Nat, b = k := ⟨b.toNat, by omega⟩
  apply Bool.eq_iff_iff.2
  rw [decide_eq_true_iff, beq_iff_eq]
  refine ⟨fun hx => ?_, fun e => ?_⟩
  · have := path_le h hx; omega
  · rw [← e]; exact path_self h (by omega)
/-! ### At -/

theorem atK_app (ns : List NdD) (l r : List Int) (s : Int) : ∀ j, j ≤ l.length → atK ns (l ++ r) s j = atK ns l s j
  | 0, _ => rfl
  | j + 1, h => by
    have e : (l ++ r).getD j 0 = l.getD j 0 := by simp [List.getD, List.getElem?_append_left (show j < l.length by omega)]
    show (if slotAt ns ((l ++ r).getD j 0) ≤ s then (l ++ r).getD j 0 else atK ns (l ++ r) s j) = (if slotAt ns (l.getD j 0) ≤ s then l.getD j 0 else atK ns l s j)
    rw [e, atK_app ns l r s j (by omega)]

theorem atP_out {ns : List NdD} {i s : Int} (h : ¬ (0 ≤ i ∧ i < ns.length)) : atP ns i s = -1 := by
  unfold atP; rw [pathN_out h]; rfl

theorem atP_step {ns : List NdD} (h : TrOK ns) {k : Nat} (hk : k < ns.length) (s : Int) : atP ns (k : Int) s = if ns[k].b.slot ≤ s then (k : Int) else atP ns ns[k].up s := by
  unfold atP
  rw [(up_path h hk).2.2, List.length_append]
  have e : (pathN ns ns[k].up ++ [(k : Int)]).getD (pathN ns ns[k].up).length 0 = k := by simp [List.getD]
  have es : slotAt ns (k : Int) = ns[k].b.slot := by simp [slotAt, List.getElem?_eq_getElem hk]
  show (if slotAt ns ((pathN ns ns[k].up ++ [(k : Int)]).getD (pathN ns ns[k].up).length 0) ≤ s then _ else atK ns _ s _) = _
  rw [e, es, atK_app _ _ _ _ _ (Nat.le_refl _)]
/-! ### Heir -/

theorem getD_app_l {l : List Int} {b : Int} {k : Nat} (h : k < l.length) : (l ++ [b]).getD k 0 = l.getD k 0 := by
  simp [List.getD, List.getElem?_append_left h]

theorem heirF_no {l : List Int} {a : Int} : ∀ f k, 1 ≤ k → (∀ j, k ≤ j → j < l.length → l.getD (j - 1) 0 ≠ a) → heirF l a f k = -1
  | 0, _, _, _ => rfl
  | f + 1, k, h1, h2 => by
    show (if k < l.length then (if l.getD (k - 1) 0 = a then l.getD k 0 else heirF l a f (k + 1)) else -1) = -1
    by_cases hk : k < l.length
    · rw [if_pos hk, if_neg (h2 k (Nat.le_refl _) hk)]
      exact heirF_no f (k + 1) (by omega) (fun j h3 h4 => h2 j (by omega) h4)
    · rw [if_neg hk]

theorem heirF_app {l : List Int} {a b : Int} : ∀ f k, 1 ≤ k → (∃ j, k ≤ j ∧ j < l.length ∧ l.getD (j - 1) 0 = a) → l.length ≤ f + k → ∀ g, l.length ≤ g + k → heirF (l ++ [b]) a f k = heirF l a g k
  | 0, k, _, ⟨j, h1, h2, _⟩, h3, _, _ => by omega
  | f + 1, k, h0, ⟨j, h1, h2, h4⟩, h3, g, h5 => by
    obtain ⟨g, rfl⟩ : ∃ x, g = x + 1 := ⟨g - 1, by omega⟩
    have hk : k < l.length := by omega
    show (if k < (l ++ [b]).length then (if (l ++ [b]).getD (k - 1) 0 = a then (l ++ [b]).getD k 0 else heirF (l ++ [b]) a f (k + 1)) else -1) = (if k < l.length then (if l.getD (k - 1) 0 = a then l.getD k 0 else heirF l a g (k + 1)) else -1)
    rw [if_pos (by rw [List.length_append]; omega), if_pos hk, getD_app_l hk, getD_app_l (by omega)]
    by_cases he : l.getD (k - 1) 0 = a
    · rw [if_pos he, if_pos he]
    · rw [if_neg he, if_neg he]
      have hjk : j ≠ k := fun e => he (by rw [← e]; exact h4)
      exact heirF_app f (k + 1) (by omega) ⟨j, by omega, h2, h4⟩ (by omega) g (by omega)

theorem heirF_last {l : List Int} {a b : Int} : ∀ f k, 1 ≤ k → k ≤ l.length → (∀ j, k ≤ j → j < l.length → l.getD (j - 1) 0 ≠ a) → l.getD (l.length - 1) 0 = a → l.length < f + k → heirF (l ++ [b]) a f k = b
  | 0, k, _, _, _, _, h => by omega
  | f + 1, k, h0, h1, h2, h3, h4 => by
    show (if k < (l ++ [b]).length then (if (l ++ [b]).getD (k - 1) 0 = a then (l ++ [b]).getD k 0 else heirF (l ++ [b]) a f (k + 1)) else -1) = b
    rw [if_pos (by rw [List.length_append]; simp; omega), getD_app_l (by omega)]
    by_cases hk : k = l.length
    · subst hk
      rw [if_pos h3]
      simp [List.getD]
    · rw [if_neg (h2 k (Nat.le_refl _) (by omega))]
      exact heirF_last f (k + 1) (by omega) (by omega) (fun j h5 h6 => h2 j (by omega) h6) h3 (by omega)

theorem heirN_no {ns : List NdD} (h : TrOK ns) {k : Nat} (hk : k < ns.length) {a : Int} (ha : a ∉ pathN ns ns[k].up) : heirN ns a (k : Int) = -1 := by
  unfold heirN
  rw [(up_path h hk).2.2]
  refine heirF_no _ _ (Nat.le_refl _) fun j h1 h2 => ?_
  rw [List.length_append, List.length_singleton] at h2
  rw [getD_app_l (by omega)]
  exact fun e => ha (by rw [← e]; exact getD_mem (by omega))

theorem heirN_out {ns : List NdD} {a b : Int} (hb : ¬ (0 ≤ b ∧ b < ns.length)) : heirN ns a b = -1 := by unfold heirN; rw [pathN_out hb]; rfl

theorem heirN_up {ns : List NdD} (h : TrOK ns) {k : Nat} (hk : k < ns.length) {a : Int} (ha : a ∈ pathN ns ns[k].up) : heirN ns a (k : Int) = if ns[k].up = a then (k : Int) else heirN ns a ns[k].up := by
  obtain ⟨h1, h2, h3⟩ := up_path h hk
  have hr := path_node ha
  obtain ⟨u, hu⟩ : ∃ u : Nat, ns[k].up = u := ⟨ns[k].up.toNat, by omega⟩
  rw [hu] at ha h3 hr ⊢
  have hul : u < ns.length := by omega
  obtain ⟨g1, g2, g3⟩ := up_path h hul
  unfold heirN
  rw [h3]
  by_cases e : (u : Int) = a
  · rw [if_pos e]
    have hpl : 0 < (pathN ns (u : Int)).length := List.length_pos_of_mem ha
    refine heirF_last _ _ (Nat.le_refl _) hpl (fun j h4 h5 => ?_) ?_ (by rw [List.length_append, List.length_singleton]; omega)
    · rw [g3, List.length_append, List.length_singleton] at h5
      rw [g3, getD_app_l (by omega), ← e]
      intro e2
      have := path_le h (getD_mem (show j - 1 < (pathN ns ns[u].up).length by omega))
      omega
    · rw [g3, ← e]; simp [List.getD]
  · rw [if_neg e]
    rw [path_up h hul] at ha
    have ha := ha.resolve_right (fun x => e x.symm)
    obtain ⟨i, hi, hx⟩ := List.mem_iff_getElem.1 ha
    refine heirF_app _ _ (Nat.le_refl _) ⟨i + 1, by omega, ?_, ?_⟩ (by rw [List.length_append]; omega) _ (by omega)
    · rw [g3, List.length_append]; simp; omega
    · rw [g3, Nat.add_sub_cancel, getD_app_l hi, ← hx]; simp [List.getD, hi]
/-! ### Common -/

theorem allK_iff {ns : List NdD} {l : List Int} {a : Int} : ∀ {j : Nat}, allK ns l a j = true ↔ ∀ i, i < j → a ∈ pathN ns (l.getD i 0)
  | 0 => by simp [allK]
  | j + 1 => by
    rw [allK_succ, Bool.and_eq_true, allK_iff, decide_eq_true_iff]
    constructor
    · rintro ⟨h1, h2⟩ i hi
      by_cases e : i = j
      · rw [e]; exact h2
      · exact h1 i (by omega)
    · exact fun h => ⟨fun i hi => h i (by omega), h j (by omega)⟩

theorem allK_mem {ns : List NdD} {l : List Int} {a : Int} : allK ns l a l.length = true ↔ ∀ y ∈ l, a ∈ pathN ns y := by
  rw [allK_iff]
  constructor
  · intro h y hy
    obtain ⟨i, hi, rfl⟩ := List.mem_iff_getElem.1 hy
    have := h i hi
    rwa [show l.getD i 0 = l[i] by simp [List.getD, hi]] at this
  · exact fun h i hi => h _ (getD_mem hi)

theorem comK_spec (ns : List NdD) (l p : List Int) : ∀ k, (comK ns l p k = -1 ∧ ∀ j, j < k → allK ns l (p.getD j 0) l.length = false) ∨ ∃ j, j < k ∧ comK ns l p k = p.getD j 0 ∧ allK ns l (p.getD j 0) l.length = true ∧ ∀ i, j < i → i < k → allK ns l (p.getD i 0) l.length = false
  | 0 => .inl ⟨rfl, fun j hj => by omega⟩
  | k + 1 => by
    cases h : allK ns l (p.getD k 0) l.length
    · rw [comK_no h]
      rcases comK_spec ns l p k with ⟨h1, h2⟩ | ⟨j, h1, h2, h3, h4⟩
      · refine .inl ⟨h1, fun j hj => ?_⟩
        by_cases e : j = k
        · rw [e]; exact h
        · exact h2 j (by omega)
      · refine .inr ⟨j, by omega, h2, h3, fun i h5 h6 => ?_⟩
        by_cases e : i = k
        · rw [e]; exact h
        · exact h4 i h5 (by omega)
    · rw [comK_yes h]
      exact .inr ⟨k, by omega, rfl, h, fun i h5 h6 => by omega⟩

theorem comN_of {ns : List NdD} (hok : TrOK ns) {l : List Int} (hl : 0 < l.length) {c : Nat} (hc : c < ns.length) (h : ∀ x, x ∈ pathN ns (c : Int) ↔ ∀ y ∈ l, x ∈ pathN ns y) : comN ns l = c := by
  have hself := (h _).1 (path_self hok hc)
  have h0 := hself _ (getD_mem hl)
  have hr := path_node h0
  unfold comN
  rw [if_neg (by omega), if_pos hr]
  obtain ⟨z, hz⟩ : ∃ z : Nat, l.getD 0 0 = z := ⟨(l.getD 0 0).toNat, by omega⟩
  rw [hz] at h0 hr ⊢
  have hpw := path_pw hok z (by omega)
  obtain ⟨P, hP⟩ : ∃ P, pathN ns (z : Int) = P := ⟨_, rfl⟩
  rw [hP] at h0 hpw ⊢
  obtain ⟨i0, hi0, hx0⟩ := List.mem_iff_getElem.1 h0
  have hg0 : P.getD i0 0 = c := by rw [← hx0]; simp [List.getD, hi0]
  rcases comK_spec ns l P P.length with ⟨_, h2⟩ | ⟨j, h1, h2, h3, h4⟩
  · have := h2 i0 hi0
    rw [hg0, allK_mem.2 hself] at this; cases this
  · rw [h2]
    have hmem := path_le hok ((h _).2 (allK_mem.1 h3))
    rcases Nat.lt_trichotomy i0 j with hlt | he | hgt
    · have := List.pairwise_iff_getElem.1 hpw i0 j hi0 h1 hlt
      have e2 : P.getD j 0 = P[j] := by simp [List.getD, h1]
      rw [e2] at hmem
      omega
    · rw [← he]; exact hg0
    · have := h4 i0 hgt hi0
      rw [hg0, allK_mem.2 hself] at this; cases this

theorem comN_nil (ns : List NdD) : comN ns [] = -1 := by unfold comN; rw [if_pos (by rfl)]

theorem comN_bad {ns : List NdD} {l : List Int} {y : Int} (hy : y ∈ l) (hb : ¬ (0 ≤ y ∧ y < ns.length)) : comN ns l = -1 := by
  unfold comN
  split
  · rfl
  · split
    · rcases comK_spec ns l (pathN ns (l.getD 0 0)) (pathN ns (l.getD 0 0)).length with ⟨h1, _⟩ | ⟨j, h1, h2, h3, h4⟩
      · exact h1
      · have := allK_mem.1 h3 y hy
        rw [pathN_out hb] at this; cases this
    · rfl

theorem mem_take_succ {l : List Int} {k : Nat} (hk : k < l.length) {y : Int} : y ∈ l.take (k + 1) ↔ y ∈ l.take k ∨ y = l.getD k 0 := by
  rw [List.take_add_one, List.mem_append, List.getElem?_eq_getElem hk]
  simp [List.getD, hk]
/-! ### Descendants -/

theorem selK_none {p : Nat → Bool} : ∀ {k : Nat}, (∀ j, j < k → p j = false) → selK p k = []
  | 0, _ => rfl
  | k + 1, h => by rw [selK_no (h k (by omega)), selK_none (fun j hj => h j (by omega))]

theorem desc_out {ns : List NdD} (h : TrOK ns) {i : Int} (hi : ¬ (0 ≤ i ∧ i < ns.length)) : descN ns i = [] := by
  unfold descN
  refine selK_none fun j hj => decide_eq_false fun hx => hi ?_
  have := pathN_rng h _ _ hx
  omega

/-- The marks up to place k. -/
def undL (ns : List NdD) (i : Int) (m k : Nat) : List Bool := (List.range m).map fun j => decide (j < k) && decide (i ∈ pathN ns (j : Int))

theorem undL_len (ns : List NdD) (i : Int) (m k : Nat) : (undL ns i m k).length = m := by simp [undL]

theorem undL_get {ns : List NdD} {i : Int} {m k j : Nat} (h : j < m) (hk : j < k) : (undL ns i m k).getD j false = decide (i ∈ pathN ns (j : Int)) := by
  simp [undL, List.getD, h, hk]

theorem undL_no {ns : List NdD} {i : Int} {m k : Nat} (h : decide (i ∈ pathN ns (k : Int)) = false) : undL ns i m (k + 1) = undL ns i m k := by
  refine List.map_congr_left fun j hj => ?_
  by_cases e : j = k
  · subst e; rw [h]; simp
  · have : decide (j < k + 1) = decide (j < k) := by apply Bool.eq_iff_iff.2; simp; omega
    rw [this]

theorem undL_set {ns : List NdD} {i : Int} {m k : Nat} (h : decide (i ∈ pathN ns (k : Int)) = true) : (undL ns i m k).set k true = undL ns i m (k + 1) := by
  apply List.ext_getElem?
  intro j
  rw [List.getElem?_set, undL_len]
  by_cases hj : j < m
  · have e1 : (undL ns i m (k + 1))[j]? = some (decide (j < k + 1) && decide (i ∈ pathN ns (j : Int))) := by simp [undL, hj]
    have e2 : (undL ns i m k)[j]? = some (decide (j < k) && decide (i ∈ pathN ns (j : Int))) := by simp [undL, hj]
    rw [e1, e2]
    by_cases e : k = j
    · subst e; simp [hj, h]
    · have : decide (j < k + 1) = decide (j < k) := by apply Bool.eq_iff_iff.2; simp; omega
      rw [if_neg e, this]
  · rw [List.getElem?_eq_none (by rw [undL_len]; omega), List.getElem?_eq_none (by rw [undL_len]; omega)]
    by_cases e : k = j
    · subst e; simp [hj]
    · simp [e]

theorem undL_zero (ns : List NdD) (i : Int) (m : Nat) : List.replicate m false = undL ns i m 0 := by
  apply List.ext_getElem?
  intro j
  simp only [undL, List.getElem?_replicate, List.getElem?_map, List.getElem?_range']
  by_cases h : j < m
  · simp [h]
  · simp [h]

theorem undL_skip {ns : List NdD} (hok : TrOK ns) {i : Nat} (m : Nat) : ∀ {k : Nat}, k ≤ i → undL ns (i : Int) m k = undL ns (i : Int) m 0
  | 0, _ => rfl
  | k + 1, h => by
    rw [undL_no, undL_skip hok m (by omega)]
    exact decide_eq_false fun hx => by have := path_le hok hx; omega

theorem undL_first {ns : List NdD} (hok : TrOK ns) {i : Nat} (hi : i < ns.length) (m : Nat) : (List.replicate m false).set i true = undL ns (i : Int) m (i + 1) := by
  rw [undL_zero ns (i : Int) m, ← undL_skip hok m (Nat.le_refl i)]
  exact undL_set (decide_eq_true (path_self hok hi))

theorem selK_first {ns : List NdD} (hok : TrOK ns) {i : Nat} (hi : i < ns.length) : selK (fun k => decide ((i : Int) ∈ pathN ns (k : Int))) (i + 1) = [(i : Int)] := by
  rw [selK_yes (by exact decide_eq_true (path_self hok hi)), selK_none (fun j hj => decide_eq_false fun hx => by have := path_le hok hx; omega)]
  rfl
end

/-! BtA -/
section
set_option linter.unusedVariables false
set_option linter.unusedSimpArgs false
open Go.RowKit

set_option maxRecDepth 100000

theorem cstatus_any (n : Int) (w : World) :
    Calls Try.prog 50 #[.int .i64 n] w fun e w' => e = .returned (.bool (decide (0 ≤ n ∧ n ≤ 2))) ∧ Below w.heap.size w w' := by
  by_cases h0 : 0 ≤ n
  · by_cases h1 : n ≤ 2
    · have hq : decide (0 ≤ n ∧ n ≤ 2) = true := decide_eq_true ⟨h0, h1⟩
      rw [hq]
      clear hq
      go_enter Try.func50, Try.ntmps50
      go_wp2_with fail
      go_ret
      exact ⟨rfl, Below.refl _ _⟩
    · have hq : decide (0 ≤ n ∧ n ≤ 2) = false := decide_eq_false (fun h => h1 h.2)
      rw [hq]
      have h1' : (n ≤ 2) = False := eq_false h1
      clear hq h1
      go_enter Try.func50, Try.ntmps50
      go_wp2_with fail
      go_ret
      exact ⟨rfl, Below.refl _ _⟩
  · have hq : decide (0 ≤ n ∧ n ≤ 2) = false := decide_eq_false (fun h => h0 h.1)
    rw [hq]
    have h0' : (0 ≤ n) = False := eq_false h0
    clear hq h0
    go_enter Try.func50, Try.ntmps50
    go_wp2_with fail
    go_ret
    exact ⟨rfl, Below.refl _ _⟩

set_option maxHeartbeats 4000000 in
theorem cisn_any (v : Value) (ns : List NdD) (i : Int) (w : World) (hN : NodesV w v ns) :
    Calls Try.prog 52 #[.agg #[v], .int .i64 i] w fun e w' => e = .returned (.bool (decide (0 ≤ i ∧ i < ns.length))) ∧ Below w.heap.size w w' := by
  obtain ⟨a, cap, rfl, hmx⟩ := hN.shape
  unfold maxLen at hmx
  obtain ⟨m, hm⟩ : ∃ m, Hid (ns.length = m) := ⟨_, Lib.hid rfl⟩
  rw [hm.out] at hmx ⊢
  obtain ⟨q, hq⟩ : ∃ q : Bool, decide (0 ≤ i ∧ i < (m : Int)) = q := ⟨_, rfl⟩
  rw [hq]
  have HBA := Lib.hid ((Below.refl w.heap.size w).alloc (Nat.le_refl _) (.cells #[.slice a m cap] 25))
  have HC0 : Hid ((w.alloc (.cells #[.slice a m cap] 25)).cell? ⟨w.heap.size, 0, none⟩ = some (.slice a m cap)) := (Blk.new rfl).cell 0
  clear hN
  by_cases h0 : 0 ≤ i
  · have hge : ¬ i < 0 := by omega
    by_cases h1 : i < (m : Int)
    · have hqv : q = true := by rw [← hq]; exact decide_eq_true ⟨h0, h1⟩
      subst hqv
      go_enter Try.func52, Try.ntmps52
      go_wp2_with (first
        | ((with_reducible refine at_load (.tmp 9) ?_); refine wpList_load_1 23 (.tmp 9) rfl w.heap.size 0 (.slice a m cap) HC0.out rfl _ Try.underlying23 rfl rfl ?_))
      go_ret
      exact ⟨rfl, HBA.out⟩
    · have hqv : q = false := by rw [← hq]; exact decide_eq_false (fun h => h1 h.2)
      subst hqv
      go_enter Try.func52, Try.ntmps52
      go_wp2_with (first
        | ((with_reducible refine at_load (.tmp 9) ?_); refine wpList_load_1 23 (.tmp 9) rfl w.heap.size 0 (.slice a m cap) HC0.out rfl _ Try.underlying23 rfl rfl ?_))
      go_ret
      exact ⟨rfl, HBA.out⟩
  · have hqv : q = false := by rw [← hq]; exact decide_eq_false (fun h => h0 h.1)
    subst hqv
    have h0' : (0 ≤ i) = False := eq_false h0
    clear h0
    go_enter Try.func52, Try.ntmps52
    go_wp2_with fail
    go_ret
    exact ⟨rfl, HBA.out⟩

def upOK (up : Int) (k : Nat) : Prop := (k = 0 ∧ up = -1) ∨ (0 < k ∧ 0 ≤ up ∧ up < k)
instance (up : Int) (k : Nat) : Decidable (upOK up k) := by unfold upOK; exact inferInstance

theorem cup_any (up : Int) (k : Nat) (w : World) :
    Calls Try.prog 51 #[.int .i64 up, .int .i64 (k : Int)] w fun e w' => e = .returned (.bool (decide (upOK up k))) ∧ Below w.heap.size w w' := by
  by_cases h0 : k = 0
  · subst h0
    obtain ⟨q, hq⟩ : ∃ q : Bool, (up == -1) = q := ⟨_, rfl⟩
    have hd : decide (upOK up 0) = q := by
      rw [← hq, Bool.eq_iff_iff, decide_eq_true_iff]
      unfold upOK
      simp
    rw [hd]
    clear hd
    go_enter Try.func51, Try.ntmps51
    go_wp2_with fail
    go_ret
    exact ⟨rfl, Below.refl _ _⟩
  · have hz : ((k : Int) == 0) = false := by simp; omega
    by_cases h1 : 0 ≤ up
    · obtain ⟨q, hq⟩ : ∃ q : Bool, decide (up < (k : Int)) = q := ⟨_, rfl⟩
      have hd : decide (upOK up k) = q := by
        rw [← hq, Bool.eq_iff_iff, decide_eq_true_iff, decide_eq_true_iff]
        unfold upOK
        omega
      rw [hd]
      clear hd
      go_enter Try.func51, Try.ntmps51
      go_wp2_with fail
      go_ret
      exact ⟨rfl, Below.refl _ _⟩
    · have h1' : (0 ≤ up) = False := eq_false h1
      have hd : decide (upOK up k) = false := by
        refine decide_eq_false ?_
        unfold upOK
        omega
      rw [hd]
      clear hd h1
      go_enter Try.func51, Try.ntmps51
      go_wp2_with fail
      go_ret
      exact ⟨rfl, Below.refl _ _⟩
end

/-! AnA -/
section
set_option linter.unusedVariables false
set_option linter.unusedSimpArgs false
open Go.RowKit

set_option maxRecDepth 100000

set_option maxHeartbeats 4000000 in
theorem ani_any (v : Value) (ns : List NdD) (i : Int) (w : World) (hN : NodesV w v ns) :
    Calls Try.prog 49 #[.agg #[v], .int .i64 i] w fun e w' => e = .returned (.bool (decide (0 ≤ i ∧ i < ns.length))) ∧ Below w.heap.size w w' := by
  obtain ⟨a, cap, rfl, hmx⟩ := hN.shape
  unfold maxLen at hmx
  obtain ⟨m, hm⟩ : ∃ m, Hid (ns.length = m) := ⟨_, Lib.hid rfl⟩
  rw [hm.out] at hmx ⊢
  obtain ⟨q, hq⟩ : ∃ q : Bool, decide (0 ≤ i ∧ i < (m : Int)) = q := ⟨_, rfl⟩
  rw [hq]
  have HBA := Lib.hid ((Below.refl w.heap.size w).alloc (Nat.le_refl _) (.cells #[.slice a m cap] 25))
  have HC0 : Hid ((w.alloc (.cells #[.slice a m cap] 25)).cell? ⟨w.heap.size, 0, none⟩ = some (.slice a m cap)) := (Blk.new rfl).cell 0
  clear hN
  by_cases h0 : 0 ≤ i
  · have hge : ¬ i < 0 := by omega
    by_cases h1 : i < (m : Int)
    · have hqv : q = true := by rw [← hq]; exact decide_eq_true ⟨h0, h1⟩
      subst hqv
      go_enter Try.func49, Try.ntmps49
      go_wp2_with (first
        | ((with_reducible refine at_load (.tmp 9) ?_); refine wpList_load_1 23 (.tmp 9) rfl w.heap.size 0 (.slice a m cap) HC0.out rfl _ Try.underlying23 rfl rfl ?_))
      go_ret
      exact ⟨rfl, HBA.out⟩
    · have hqv : q = false := by rw [← hq]; exact decide_eq_false (fun h => h1 h.2)
      subst hqv
      go_enter Try.func49, Try.ntmps49
      go_wp2_with (first
        | ((with_reducible refine at_load (.tmp 9) ?_); refine wpList_load_1 23 (.tmp 9) rfl w.heap.size 0 (.slice a m cap) HC0.out rfl _ Try.underlying23 rfl rfl ?_))
      go_ret
      exact ⟨rfl, HBA.out⟩
  · have hqv : q = false := by rw [← hq]; exact decide_eq_false (fun h => h0 h.1)
    subst hqv
    have h0' : (0 ≤ i) = False := eq_false h0
    clear h0
    go_enter Try.func49, Try.ntmps49
    go_wp2_with fail
    go_ret
    exact ⟨rfl, HBA.out⟩
/-! ### IsAncestor -/

/-- The answer is that of the node where the walk stands. -/
def IsaI (w : World) (T : Array Value) (ns : List NdD) (a : Int) (r : Bool) (b : Value) (wr : World) : Prop :=
  ∃ k : Nat, k < ns.length ∧ b = .int .i64 k ∧ decide (a ∈ pathN ns (k : Int)) = r ∧ PaS w T wr
end

end Go.Proofs.Ytdmjpmigejpkmaa
