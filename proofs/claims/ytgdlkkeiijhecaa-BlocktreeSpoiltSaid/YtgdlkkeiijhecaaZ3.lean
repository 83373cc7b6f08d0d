/- Several texts as one: L11s. -/
import Derived.Test.YtgdlkkeiijhecaaZ1
namespace Go.Proofs.Ytgdlkkeiijhecaa

/-! L11s -/
section
set_option linter.unusedVariables false
set_option linter.unusedSimpArgs false
open Go.RowKit

set_option maxRecDepth 100000

theorem and_low (b : Nat) (hb : b ≤ 16) (n : Int) : bits .and .i64 n (((2 ^ b - 1 : Nat) : Nat) : Int) = n % ((2 ^ b : Nat) : Int) := by
  have h1 : 2 ^ b ≤ 2 ^ 16 := Nat.pow_le_pow_right (by omega) hb
  have h0 : 0 < 2 ^ b := Nat.pow_pos (by omega)
  have h3 : (BitVec.ofInt 64 (((2 ^ b - 1 : Nat) : Nat) : Int)).toNat = 2 ^ b - 1 := by
    rw [BitVec.toNat_ofInt]
    omega
  have key : (BitVec.ofInt 64 n &&& BitVec.ofInt 64 (((2 ^ b - 1 : Nat) : Nat) : Int)).toNat = (n % ((2 ^ 64 : Nat) : Int)).toNat % 2 ^ b := by
    rw [BitVec.toNat_and, BitVec.toNat_ofInt, h3, Nat.and_two_pow_sub_one_eq_mod]
  show IntKind.i64.wrap ((BitVec.ofInt 64 n &&& BitVec.ofInt 64 (((2 ^ b - 1 : Nat) : Nat) : Int)).toNat : Nat) = n % ((2 ^ b : Nat) : Int)
  rw [key, IntKind.wrap_i64]
  have hd : (2 ^ b : Nat) ∣ 2 ^ 64 := Nat.pow_dvd_pow 2 (by omega)
  have e1 : (((n % ((2 ^ 64 : Nat) : Int)).toNat % 2 ^ b : Nat) : Int) = n % ((2 ^ b : Nat) : Int) := by
    have hp : 0 ≤ n % ((2 ^ 64 : Nat) : Int) := Int.emod_nonneg _ (by omega)
    rw [Int.natCast_emod, Int.toNat_of_nonneg hp]
    exact Int.emod_emod_of_dvd n (Int.natCast_dvd_natCast.2 hd)
  rw [e1]
  have hr1 : 0 ≤ n % ((2 ^ b : Nat) : Int) := Int.emod_nonneg _ (by omega)
  have hr2 : n % ((2 ^ b : Nat) : Int) < ((2 ^ b : Nat) : Int) := Int.emod_lt_of_pos _ (by omega)
  omega

theorem and_nat (b : Nat) (hb : b ≤ 16) (n : Int) : ∃ m : Nat, m < 2 ^ b ∧ bits .and .i64 n (((2 ^ b - 1 : Nat) : Nat) : Int) = m := by
  have h0 : 0 < 2 ^ b := Nat.pow_pos (by omega)
  have hr1 : 0 ≤ n % ((2 ^ b : Nat) : Int) := Int.emod_nonneg _ (by omega)
  have hr2 : n % ((2 ^ b : Nat) : Int) < ((2 ^ b : Nat) : Int) := Int.emod_lt_of_pos _ (by omega)
  exact ⟨(n % ((2 ^ b : Nat) : Int)).toNat, by omega, by rw [and_low b hb]; omega⟩

/-- A part of an element of a row that may be written. -/
theorem rowB_part {w : World} {g sz : Nat} {Ls : List (List Value)} (h : RowB w g Ls) (hs : ∀ L ∈ Ls, L.length = sz) {k : Nat} (hk : k < Ls.length) {A p C : List Value} (hL : Ls[k] = A ++ (p ++ C)) :
    ∃ D E, Blk w g (flatP [D, p, E]) ∧ D.length = k * sz + A.length ∧ ∀ q w', Blk w' g (flatP [D, q, E]) → RowB w' g (Ls.set k (A ++ (q ++ C))) := by
  obtain ⟨sp, hB⟩ := h
  have hkk : Ls[k]? = some Ls[k] := List.getElem?_eq_getElem hk
  have e1 := flatP_split hkk
  refine ⟨(Ls.take k).flatten ++ A, C ++ ((Ls.drop (k + 1)).flatten ++ sp), ?_, ?_, fun q w' hB' => ⟨sp, ?_⟩⟩
  · have e : flatP (Ls ++ [sp]) = flatP [(Ls.take k).flatten ++ A, p, C ++ ((Ls.drop (k + 1)).flatten ++ sp)] := by
      unfold flatP
      rw [List.flatten_append, e1, hL]
      simp
    rw [← e]; exact hB
  · rw [List.length_append, flat_len (sz := sz) (fun L hL => hs L (List.mem_of_mem_take hL)), List.length_take, Nat.min_eq_left (by omega)]
  · have e : flatP (Ls.set k (A ++ (q ++ C)) ++ [sp]) = flatP [(Ls.take k).flatten ++ A, q, C ++ ((Ls.drop (k + 1)).flatten ++ sp)] := by
      unfold flatP
      rw [List.flatten_append, flatP_set hkk]
      simp
    rw [e]; exact hB'

theorem cells_sz {ns : List NdD} (h : ∀ d ∈ ns, d.ok) : ∀ L ∈ ns.map NdD.cells, L.length = 240 := by
  intro L hL
  obtain ⟨d, hd, rfl⟩ := List.mem_map.1 hL
  exact NdD.len (h d hd)

theorem rows_of (ns : List NdD) : rowsL (ns.map fun d => d.cells.toArray) = (ns.map NdD.cells).flatten := by simp [rowsL, List.map_map, Function.comp_def]

theorem rowB_nodes {w : World} {g c : Nat} {ns : List NdD} (h : RowB w g (ns.map NdD.cells)) (ho : ∀ d ∈ ns, d.ok) (hm : ns.length ≤ maxLen) : NodesV w (.slice (some ⟨g, 0, none⟩) ns.length c) ns := by
  refine ⟨_, _, rfl, hm, .inr ⟨g, 0, rfl, h.lt, ns.map fun d => d.cells.toArray, ?_, by simp, ?_⟩⟩
  · rw [rows_of]; exact h.range
  · intro p hp
    obtain ⟨i, hi, rfl⟩ := List.mem_iff_getElem.1 hp
    have hi' : i < ns.length := by simpa using hi
    simp only [List.getElem_zip, List.getElem_map]
    exact ⟨rfl, ho _ (List.getElem_mem _)⟩

theorem rowB_drop {w : World} {g c : Nat} {ns : List NdD} (h : RowB w g (ns.map NdD.cells)) (ho : ∀ d ∈ ns, d.ok) (hm : ns.length ≤ maxLen) (h1 : 1 ≤ ns.length) (hc : ns.length ≤ c) : NodesV w (.slice (if c = 1 then some ⟨g, 0, none⟩ else (some (⟨g, 0, none⟩ : Addr)).map (·.add (1 * 240))) (ns.length - 1) (c - 1)) (ns.drop 1) := by
  refine ⟨_, _, by rw [List.length_drop], by rw [List.length_drop]; omega, ?_⟩
  by_cases e : c = 1
  · exact .inl (by rw [List.length_drop]; omega)
  · rw [if_neg e]
    refine .inr ⟨g, 240, by simp [Go.WideShapes.add_plain], h.lt, (ns.drop 1).map fun d => d.cells.toArray, ?_, by simp, ?_⟩
    · rw [rows_of]
      intro j v hj
      have hr := h.range (j := 240 + j) (v := v)
      rw [Nat.zero_add] at hr
      refine hr ?_
      cases ns with
      | nil => simp at h1
      | cons d r =>
        have hl := NdD.len (ho d (by simp))
        rw [List.map_cons, List.flatten_cons, List.getElem?_append_right (by omega), hl, Nat.add_sub_cancel_left]
        exact hj
    · intro p hp
      obtain ⟨i, hi, rfl⟩ := List.mem_iff_getElem.1 hp
      have hi' : i < (ns.drop 1).length := by simpa using hi
      simp only [List.getElem_zip, List.getElem_map]
      exact ⟨rfl, ho _ (List.mem_of_mem_drop (List.getElem_mem hi'))⟩

/-- The copy's variable and its row. -/
structure SpS (w : World) (bu g n c : Nat) (ns : List NdD) (u : World) : Prop where
  t : Blk u bu #[.slice (some ⟨g, 0, none⟩) n c]
  r : RowB u g (ns.map NdD.cells)
  o : ∀ d ∈ ns, d.ok
  b : Below w.heap.size w u
  len : n = ns.length ∧ 1 ≤ n ∧ n ≤ 9 ∧ n ≤ c
  lt : w.heap.size ≤ g ∧ w.heap.size ≤ bu ∧ bu ≠ g

theorem SpS.call {w u u' : World} {bu g n c : Nat} {ns : List NdD} (h : SpS w bu g n c ns u) (hb : Below u.heap.size u u') : SpS w bu g n c ns u' := ⟨h.t.call hb, h.r.call hb, h.o, h.b.trans (hb.mono h.b.size), h.len, h.lt⟩

theorem SpS.put {w u u' : World} {bu g n c : Nat} {ns : List NdD} (h : SpS w bu g n c ns u) (U : Upd g u u') {k : Nat} {d : NdD} (hr : RowB u' g ((ns.map NdD.cells).set k d.cells)) (hd : d.ok) : SpS w bu g n c (ns.set k d) u' :=
  ⟨U.blk h.t h.lt.2.2, by rw [List.map_set]; exact hr, fun x hx => by rcases List.mem_or_eq_of_mem_set hx with e | e; exact h.o x e; rw [e]; exact hd, U.below h.b h.lt.1, by rw [List.length_set]; exact h.len, h.lt⟩

def SpR (w : World) (bu : Nat) (u : World) : Prop := ∃ (a : Option Addr) (n c : Nat) (ns : List NdD), Blk u bu #[.slice a n c] ∧ NodesV u (.slice a n c) ns ∧ n ≤ c ∧ Below w.heap.size w u

theorem SpS.out {w u : World} {bu g n c : Nat} {ns : List NdD} (h : SpS w bu g n c ns u) : SpR w bu u := by
  obtain ⟨h1, h2, h3, h4⟩ := h.len
  refine ⟨_, n, c, ns, h.t, ?_, h4, h.b⟩
  rw [h1]
  exact rowB_nodes h.r h.o (by unfold maxLen; omega)

theorem SpS.up {w u : World} {bu g n c j : Nat} {ns : List NdD} (h : SpS w bu g n c ns u) (hj : j < ns.length) : ∃ D E, Blk u g (flatP [D, [Value.int .i64 ns[j].up], E]) ∧ offP [D, [Value.int .i64 ns[j].up], E] 1 = j * 240 + 238 ∧ ∀ (V : Int) u' (hV : -9223372036854775808 ≤ V ∧ V ≤ 9223372036854775807), Upd g u u' → Blk u' g (flatP [D, [Value.int .i64 V], E]) → SpR w bu u' := by
  have hd : ns[j].ok := h.o _ (List.getElem_mem _)
  have hLj : (ns.map NdD.cells)[j]'(by simpa using hj) = ns[j].b.parts.flatten ++ ([Value.int .i64 ns[j].up] ++ [Value.int .i64 ns[j].st]) := by
    rw [List.getElem_map]
    simp [NdD.cells, BkD.parts]
  obtain ⟨D, E, h1, h2, h3⟩ := rowB_part h.r (cells_sz h.o) (k := j) (by simpa using hj) hLj
  refine ⟨D, E, h1, ?_, fun V u' hV U hB => ?_⟩
  · have e : offP [D, [Value.int .i64 ns[j].up], E] 1 = D.length := by simp [offP]
    have hf := BkD.flen hd.1
    have k1 := CpD.len hd.1.1
    have k2 := CpD.len hd.1.2.1
    have k3 := bytesL_len hd.1.2.2.2.1
    rw [e, h2]
    simp only [List.length_append, List.length_cons, List.length_nil, hf, k1, k2, k3]
  · have hr := h3 ([Value.int .i64 V]) u' hB
    have e : ns[j].b.parts.flatten ++ (([Value.int .i64 V]) ++ [Value.int .i64 ns[j].st]) = ({ns[j] with up := V} : NdD).cells := by simp [NdD.cells, BkD.parts]
    rw [e] at hr
    exact (h.put U hr ⟨hd.1, hV, hd.2.2⟩).out

theorem SpS.st {w u : World} {bu g n c j : Nat} {ns : List NdD} (h : SpS w bu g n c ns u) (hj : j < ns.length) : ∃ D E, Blk u g (flatP [D, [Value.int .i64 ns[j].st], E]) ∧ offP [D, [Value.int .i64 ns[j].st], E] 1 = j * 240 + 239 ∧ ∀ (V : Int) u' (hV : -9223372036854775808 ≤ V ∧ V ≤ 9223372036854775807), Upd g u u' → Blk u' g (flatP [D, [Value.int .i64 V], E]) → SpR w bu u' := by
  have hd : ns[j].ok := h.o _ (List.getElem_mem _)
  have hLj : (ns.map NdD.cells)[j]'(by simpa using hj) = (ns[j].b.parts.flatten ++ [Value.int .i64 ns[j].up]) ++ ([Value.int .i64 ns[j].st] ++ []) := by
    rw [List.getElem_map]
    simp [NdD.cells, BkD.parts]
  obtain ⟨D, E, h1, h2, h3⟩ := rowB_part h.r (cells_sz h.o) (k := j) (by simpa using hj) hLj
  refine ⟨D, E, h1, ?_, fun V u' hV U hB => ?_⟩
  · have e : offP [D, [Value.int .i64 ns[j].st], E] 1 = D.length := by simp [offP]
    have hf := BkD.flen hd.1
    have k1 := CpD.len hd.1.1
    have k2 := CpD.len hd.1.2.1
    have k3 := bytesL_len hd.1.2.2.2.1
    rw [e, h2]
    simp only [List.length_append, List.length_cons, List.length_nil, hf, k1, k2, k3]
  · have hr := h3 ([Value.int .i64 V]) u' hB
    have e : (ns[j].b.parts.flatten ++ [Value.int .i64 ns[j].up]) ++ (([Value.int .i64 V]) ++ []) = ({ns[j] with st := V} : NdD).cells := by simp [NdD.cells, BkD.parts]
    rw [e] at hr
    exact (h.put U hr ⟨hd.1, hd.2.1, hV⟩).out

theorem SpS.root {w u : World} {bu g n c j : Nat} {ns : List NdD} (h : SpS w bu g n c ns u) (hj : j < ns.length) : ∃ D E, Blk u g (flatP [D, bytesL ns[j].b.root, E]) ∧ offP [D, bytesL ns[j].b.root, E] 1 = j * 240 + 67 ∧ ∀ (V : List Int) u' (hV : IsBytes 32 V), Upd g u u' → Blk u' g (flatP [D, bytesL V, E]) → SpR w bu u' := by
  have hd : ns[j].ok := h.o _ (List.getElem_mem _)
  have hLj : (ns.map NdD.cells)[j]'(by simpa using hj) = (ns[j].b.pj.cells ++ (ns[j].b.pf.cells ++ [Value.int .u64 ns[j].b.slot])) ++ (bytesL ns[j].b.root ++ (bytesL ns[j].b.parent ++ (bytesL ns[j].b.payload ++ (wideL ns[j].b.d ++ (wideL ns[j].b.pd ++ (ns[j].b.j.cells ++ (ns[j].b.f.cells ++ [Value.bool ns[j].b.t, Value.int .i64 ns[j].up, Value.int .i64 ns[j].st]))))))) := by
    rw [List.getElem_map]
    simp [NdD.cells, BkD.parts]
  obtain ⟨D, E, h1, h2, h3⟩ := rowB_part h.r (cells_sz h.o) (k := j) (by simpa using hj) hLj
  refine ⟨D, E, h1, ?_, fun V u' hV U hB => ?_⟩
  · have e : offP [D, bytesL ns[j].b.root, E] 1 = D.length := by simp [offP]
    have hf := BkD.flen hd.1
    have k1 := CpD.len hd.1.1
    have k2 := CpD.len hd.1.2.1
    have k3 := bytesL_len hd.1.2.2.2.1
    rw [e, h2]
    simp only [List.length_append, List.length_cons, List.length_nil, hf, k1, k2, k3]
  · have hr := h3 (bytesL V) u' hB
    have e : (ns[j].b.pj.cells ++ (ns[j].b.pf.cells ++ [Value.int .u64 ns[j].b.slot])) ++ ((bytesL V) ++ (bytesL ns[j].b.parent ++ (bytesL ns[j].b.payload ++ (wideL ns[j].b.d ++ (wideL ns[j].b.pd ++ (ns[j].b.j.cells ++ (ns[j].b.f.cells ++ [Value.bool ns[j].b.t, Value.int .i64 ns[j].up, Value.int .i64 ns[j].st]))))))) = ({ns[j] with b := {ns[j].b with root := V}} : NdD).cells := by simp [NdD.cells, BkD.parts]
    rw [e] at hr
    exact (h.put U hr ⟨(by obtain ⟨o1, o2, o3, _, o5⟩ := hd.1; exact ⟨o1, o2, o3, hV, o5⟩), hd.2⟩).out

theorem SpS.parent {w u : World} {bu g n c j : Nat} {ns : List NdD} (h : SpS w bu g n c ns u) (hj : j < ns.length) : ∃ D E, Blk u g (flatP [D, bytesL ns[j].b.parent, E]) ∧ offP [D, bytesL ns[j].b.parent, E] 1 = j * 240 + 99 ∧ ∀ (V : List Int) u' (hV : IsBytes 32 V), Upd g u u' → Blk u' g (flatP [D, bytesL V, E]) → SpR w bu u' := by
  have hd : ns[j].ok := h.o _ (List.getElem_mem _)
  have hLj : (ns.map NdD.cells)[j]'(by simpa using hj) = (ns[j].b.pj.cells ++ (ns[j].b.pf.cells ++ (Value.int .u64 ns[j].b.slot :: bytesL ns[j].b.root))) ++ (bytesL ns[j].b.parent ++ (bytesL ns[j].b.payload ++ (wideL ns[j].b.d ++ (wideL ns[j].b.pd ++ (ns[j].b.j.cells ++ (ns[j].b.f.cells ++ [Value.bool ns[j].b.t, Value.int .i64 ns[j].up, Value.int .i64 ns[j].st])))))) := by
    rw [List.getElem_map]
    simp [NdD.cells, BkD.parts]
  obtain ⟨D, E, h1, h2, h3⟩ := rowB_part h.r (cells_sz h.o) (k := j) (by simpa using hj) hLj
  refine ⟨D, E, h1, ?_, fun V u' hV U hB => ?_⟩
  · have e : offP [D, bytesL ns[j].b.parent, E] 1 = D.length := by simp [offP]
    have hf := BkD.flen hd.1
    have k1 := CpD.len hd.1.1
    have k2 := CpD.len hd.1.2.1
    have k3 := bytesL_len hd.1.2.2.2.1
    rw [e, h2]
    simp only [List.length_append, List.length_cons, List.length_nil, hf, k1, k2, k3]
  · have hr := h3 (bytesL V) u' hB
    have e : (ns[j].b.pj.cells ++ (ns[j].b.pf.cells ++ (Value.int .u64 ns[j].b.slot :: bytesL ns[j].b.root))) ++ ((bytesL V) ++ (bytesL ns[j].b.payload ++ (wideL ns[j].b.d ++ (wideL ns[j].b.pd ++ (ns[j].b.j.cells ++ (ns[j].b.f.cells ++ [Value.bool ns[j].b.t, Value.int .i64 ns[j].up, Value.int .i64 ns[j].st])))))) = ({ns[j] with b := {ns[j].b with parent := V}} : NdD).cells := by simp [NdD.cells, BkD.parts]
    rw [e] at hr
    exact (h.put U hr ⟨(by obtain ⟨o1, o2, o3, o4, _, o6⟩ := hd.1; exact ⟨o1, o2, o3, o4, hV, o6⟩), hd.2⟩).out

theorem SpS.slot {w u : World} {bu g n c j : Nat} {ns : List NdD} (h : SpS w bu g n c ns u) (hj : j < ns.length) : ∃ D E, Blk u g (flatP [D, [Value.int .u64 ns[j].b.slot], E]) ∧ offP [D, [Value.int .u64 ns[j].b.slot], E] 1 = j * 240 + 66 ∧ ∀ (V : Int) u' (hV : 0 ≤ V ∧ V ≤ 18446744073709551615), Upd g u u' → Blk u' g (flatP [D, [Value.int .u64 V], E]) → SpR w bu u' := by
  have hd : ns[j].ok := h.o _ (List.getElem_mem _)
  have hLj : (ns.map NdD.cells)[j]'(by simpa using hj) = (ns[j].b.pj.cells ++ ns[j].b.pf.cells) ++ ([Value.int .u64 ns[j].b.slot] ++ (bytesL ns[j].b.root ++ (bytesL ns[j].b.parent ++ (bytesL ns[j].b.payload ++ (wideL ns[j].b.d ++ (wideL ns[j].b.pd ++ (ns[j].b.j.cells ++ (ns[j].b.f.cells ++ [Value.bool ns[j].b.t, Value.int .i64 ns[j].up, Value.int .i64 ns[j].st])))))))) := by
    rw [List.getElem_map]
    simp [NdD.cells, BkD.parts]
  obtain ⟨D, E, h1, h2, h3⟩ := rowB_part h.r (cells_sz h.o) (k := j) (by simpa using hj) hLj
  refine ⟨D, E, h1, ?_, fun V u' hV U hB => ?_⟩
  · have e : offP [D, [Value.int .u64 ns[j].b.slot], E] 1 = D.length := by simp [offP]
    have hf := BkD.flen hd.1
    have k1 := CpD.len hd.1.1
    have k2 := CpD.len hd.1.2.1
    have k3 := bytesL_len hd.1.2.2.2.1
    rw [e, h2]
    simp only [List.length_append, List.length_cons, List.length_nil, hf, k1, k2, k3]
  · have hr := h3 ([Value.int .u64 V]) u' hB
    have e : (ns[j].b.pj.cells ++ ns[j].b.pf.cells) ++ (([Value.int .u64 V]) ++ (bytesL ns[j].b.root ++ (bytesL ns[j].b.parent ++ (bytesL ns[j].b.payload ++ (wideL ns[j].b.d ++ (wideL ns[j].b.pd ++ (ns[j].b.j.cells ++ (ns[j].b.f.cells ++ [Value.bool ns[j].b.t, Value.int .i64 ns[j].up, Value.int .i64 ns[j].st])))))))) = ({ns[j] with b := {ns[j].b with slot := V}} : NdD).cells := by simp [NdD.cells, BkD.parts]
    rw [e] at hr
    exact (h.put U hr ⟨(by obtain ⟨o1, o2, _, o4⟩ := hd.1; exact ⟨o1, o2, hV, o4⟩), hd.2⟩).out

theorem wpList_slLo {ops : Array Oper} {rest : List Oper} {op : Oper} {a : Act} {w : World} {Q : Exit → Act → World → Prop} (hgd : op.guard = none) (t : TypeId) (x y : Operand) (ho : op.op = .slice t x (some y) none none) (xv yv v : Value) (hx : a.eval x = xv) (hy : a.eval y = yv)
    (hr : (Instr.sliceAt t xv (some yv) none none).run Try.prog w = .ok v w) (h : wpList Try.prog ops Q rest (a.put op.dst v) w) : wpList Try.prog ops Q (op :: rest) a w :=
  wpList_plain hgd fun _ hK => by
    unfold Oper.wp execOp
    simp only [ho, hx, hy, Option.map_some, Option.map_none, Sem.run_bind, hr, Result.andThen_ok, Sem.run_pure]
    exact hK _ _ h

theorem at_sl {P : Program} {ops : Array Oper} {Q : Exit → Act → World → Prop} (dst : Option Tmp) {t ty' : TypeId} {x : Operand} {l h m : Option Operand} {pos : String} {aft : Array Edge} {g : Option (Nat × Bool)} {rest : List Oper} {a : Act} {w : World}
    (h' : wpList P ops Q (⟨dst, .slice t x l h m, ty', pos, aft, g⟩ :: rest) a w) : wpList P ops Q (⟨dst, .slice t x l h m, ty', pos, aft, g⟩ :: rest) a w := h'

set_option maxHeartbeats 32000000 in
theorem walk_BlocktreeSpoilt (a0 : Option Addr) (len0 cap0 : Nat) (z0 : List Int) (a1 a2 a3 : Int) (w : World) (w0 : IsRow .i64 w a0 len0 cap0 z0) (w1 : (Lit.int .i64 a1).wf = true) (w2 : (Lit.int .i64 a2).wf = true) (w3 : (Lit.int .i64 a3).wf = true) :
    Calls Try.prog 4 #[.slice a0 len0 cap0, .int .i64 a1, .int .i64 a2, .int .i64 a3] w fun e w' => e = .returned (.bool true) ∧ Below w.heap.size w w' := by
  have HTR := Lib.hid (fun u (hu : Below w.heap.size w u) => tree_any (.slice a0 len0 cap0) _ u ((rowInts w0).below hu))
  have HAW := Lib.hid awake11_any
  obtain ⟨K1, hK1, hA1⟩ : ∃ m : Nat, m < 256 ∧ bits .and .i64 a1 255 = m := and_nat 8 (by omega) a1
  obtain ⟨K2, hK2, hA2⟩ : ∃ m : Nat, m < 65536 ∧ bits .and .i64 a2 65535 = m := and_nat 16 (by omega) a2
  obtain ⟨N4, hN4, hA3⟩ : ∃ m : Nat, m < 16 ∧ bits .and .i64 a3 15 = m := and_nat 4 (by omega) a3
  obtain ⟨N3, hN3, hA4⟩ : ∃ m : Nat, m < 8 ∧ bits .and .i64 a3 7 = m := and_nat 3 (by omega) a3
  obtain ⟨N5, hN5, hA5⟩ : ∃ m : Nat, m < 32 ∧ bits .and .i64 a3 31 = m := and_nat 5 (by omega) a3
  obtain ⟨z, hz⟩ : ∃ z, K1 % 6 = z := ⟨_, rfl⟩
  have hz6 : z < 6 := by omega
  have hrz : Int.tmod (K1 : Int) 6 = (z : Int) := by rw [Int.tmod_eq_emod_of_nonneg (by omega), ← hz]; rfl
  have hi1 : (Try.prog.info? 24).map (·.size) = some 1 := by kernel_rfl
  have hiI : (Try.prog.info? 3).map (·.size) = some 1 := by kernel_rfl
  have hiU : (Try.prog.info? 32).map (·.size) = some 1 := by kernel_rfl
  have hiNS : (Try.prog.info? 22).map (·.size) = some 1 := by kernel_rfl
  obtain ⟨hz1, hst1⟩ := zero_array (P := Try.prog) (t := 24) (n := 1) #[.slice none 0 0] (by kernel_rfl) rfl (by kernel_rfl)
  have hne0 : ((0 : Int) != 0) = false := by simp
  clear w0 w1 w2 w3 hst1 hz
  go_enter Try.func4, Try.ntmps4
  go_upto_region 4 with (first
    | (go_at_call 12; refine (HTR.out _ (Below.refl _ _)).mono ?_; rintro e w1 ⟨v1, ns, rfl, hn1, hc1, hok, hl9, hb1⟩; obtain ⟨va, vc, rfl, _⟩ := hn1.shape; have HN1 := Lib.hid hn1; have HOK := Lib.hid hok; have HL9 := Lib.hid hl9; have HB1 := Lib.hid hb1; have HVZ : Hid (∀ u, NodesV u (.slice va ns.length vc) ns → Calls Try.prog 10 #[.agg #[.slice va ns.length vc]] u fun e w' => e = .returned (.int .i64 0) ∧ Below u.heap.size u w') := (fun u hu => by have h := cvtree_any (.slice va ns.length vc) ns u hu; rw [vtE_ok hok (by omega)] at h; exact h); clear hn1 hc1 hok hl9 hb1)
    | ((with_reducible refine at_store (.tmp 9) ?_); refine wpList_store_blk rfl 24 (.tmp 9) _ rfl w1.heap.size #[.slice va ns.length vc] rfl rfl #[.slice none 0 0] (Blk.new rfl) rfl hi1 (by simp [Value.oneCell']) ?_; intro w2 U2 B2; have hb2 := U2.below ((Below.refl w1.heap.size w1).alloc (Nat.le_refl _) (.cells #[.slice none 0 0] 24)) (Nat.le_refl _); have S2 : Hid (TvS w w1.heap.size (.slice va ns.length vc) ns w2) := ⟨B2, HN1.out.call hb2, HB1.out.trans (hb2.mono HB1.out.size)⟩; clear U2 B2 hb2)
    | ((with_reducible refine at_load (.tmp 9) ?_); refine wpList_load_g 24 (.tmp 9) rfl w1.heap.size rfl #[.slice va ns.length vc] _ S2.out.t Try.underlying24 rfl hi1 rfl ?_)
    | (go_at_call 10; refine (HVZ.out _ S2.out.n).mono ?_; rintro e w3 ⟨rfl, hb3⟩; have S3 := Lib.hid (S2.out.call hb3); clear hb3))
  have HG1 : Hid (w.heap.size ≤ w1.heap.size) := HB1.out.size
  obtain ⟨bt, hbt⟩ : ∃ x, w1.heap.size = x := ⟨_, rfl⟩
  obtain ⟨Ys, hAY, hrow⟩ := HN1.out.row
  have HAY := Lib.hid hAY
  have hrow3 := S3.out.n.row
  have HPOS := Lib.hid HOK.out.pos
  clear hrow hAY HAY Ys
  obtain ⟨Ys, hAY, hrow⟩ := hrow3
  have HAY := Lib.hid hAY
  have HRW := Lib.hid hrow
  rw [hbt] at S3 HG1 ⊢
  obtain ⟨m, hm⟩ : ∃ m, Hid (ns.length = m) := ⟨_, Lib.hid rfl⟩
  rw [hm.out] at S3 HL9 HPOS HRW ⊢
  have hm9 : m ≤ 9 := HL9.out
  have hm1 : 1 ≤ m := HPOS.out
  clear hbt HN1 HB1 S2 HVZ hAY hrow
  (try simp only [Act.put])
  go_upto_region 5 with (first
    | ((with_reducible refine at_load (.tmp 17) ?_); refine wpList_load_1 22 (.tmp 17) rfl bt 0 (.slice va m vc) (S3.out.t.cell 0) rfl _ Try.underlying22 rfl rfl ?_)
    | ((with_reducible refine at_app (.const (.slice none 0 0)) (.tmp 18) ?_); refine wpList_appEls ndOK Try.underlying22 info_node (by rfl) (by omega) (.const (.slice none 0 0)) (.tmp 18) rfl rfl w.heap.size (.slice none 0 0) [] rfl (OwnEl.nil _ _) va m vc ns Ys rfl hm.out (by rcases HRW.out with h | ⟨b, off, e, _, hr⟩; exact .inl (by rw [hm.out]; exact h); exact .inr ⟨b, off, e, hr⟩) (HAY.out _ _) (by simp [hm.out]; omega) (by simp [hm.out]; unfold maxLen; omega) S3.out.b.size ?_; intro v4 w4 h4 g4 o4; rw [List.nil_append] at h4; have H4 := Lib.hid h4; have HB4 : Hid (Below w.heap.size w w4) := S3.out.b.grown g4 S3.out.b.size (fun k hk => by cases hk); have hsh := h4.shape; obtain ⟨ga, gc, rfl, _, hgc, _⟩ := hsh; rw [hm.out] at H4 hgc ⊢; have HGC := Lib.hid hgc; clear h4 g4 o4 hgc)
    | ((with_reducible refine at_build (some 20) ?_); refine wpList_build_g 24 _ rfl #[(0, .slice ga m gc)] (by simp [Act.eval, Act.put]) (.agg #[.slice ga m gc]) (b_tree _ _ _ _) rfl ?_)
    | ((with_reducible refine at_store (.tmp 10) ?_); refine wpList_store_blk rfl 24 (.tmp 10) _ rfl w4.heap.size #[.slice ga m gc] rfl rfl #[.slice none 0 0] (Blk.new rfl) rfl hi1 (by simp [Value.oneCell']) ?_; intro w5 U5 B5; have hb5 := U5.below ((Below.refl w4.heap.size w4).alloc (Nat.le_refl _) (.cells #[.slice none 0 0] 24)) (Nat.le_refl _); have HB5 := Lib.hid B5; have H5 := Lib.hid (H4.out.call ndOK hb5); have HL5 := Lib.hid (HB4.out.trans (hb5.mono HB4.out.size)); clear U5 B5 hb5))
  obtain ⟨g, rfl⟩ : ∃ g, ga = some ⟨g, 0, none⟩ := by
    obtain ⟨Xs, h1, _⟩ := H4.out
    rcases h1.2 with ⟨e, _⟩ | ⟨g, cap, cur, e, _⟩
    · injection e with e1 e2 e3; omega
    · injection e with e1 e2 e3; exact ⟨g, e1⟩
  have hrb := H5.out.rowB ndOK (enc := NdD.cells) (fun h => h.1)
  have hgl := (H4.out.lt g rfl)
  have S5 : Hid (SpS w w4.heap.size g m gc ns w5) := ⟨HB5.out, hrb.1, (by obtain ⟨h1, h2, _⟩ := H5.out.elV ndOK; exact NodesV.oks (v := .slice (some ⟨g, 0, none⟩) m gc) (H5.out.elV ndOK)), HL5.out, ⟨hm.out.symm, hm1, hm9, HGC.out⟩, ⟨hgl.1, HB4.out.size, by omega⟩⟩
  obtain ⟨bu, hbu⟩ : ∃ x, w4.heap.size = x := ⟨_, rfl⟩
  rw [hbu] at S5 ⊢
  obtain ⟨j, hj⟩ : ∃ j, K2 % m = j := ⟨_, rfl⟩
  have hjm : j < m := by rw [← hj]; exact Nat.mod_lt _ (by omega)
  have hjm' : (j : Int) < (m : Int) := by omega
  have hm0 : ((m : Int) == 0) = false := beq_false_of_ne (by omega)
  have hm0' : ¬ (m : Int) = 0 := by omega
  have hm0n : ¬ m = 0 := by omega
  have hrem : Int.tmod (K2 : Int) (m : Int) = (j : Int) := by rw [Int.tmod_eq_emod_of_nonneg (by omega), ← hj]; rfl
  have HJN : Hid (j < ns.length) := by show j < ns.length; rw [hm.out]; exact hjm
  clear hrb hgl hbu hj H4 H5 HB4 HB5 HL5
  (try simp only [Act.put])
  refine wp_region_fam2 (by kernel_rfl) (by kernel_rfl) ?_
  intro T F hT hF hG
  have c0 : ∀ t, (F t).cell? ⟨bu, 0, none⟩ = some (.slice (some ⟨g, 0, none⟩) m gc) := fun t => (S5.out.call (hF t)).t.cell 0
  repeat (go_big_quiet_step (fail))
  refine wpQuiet_nil ?_
  rintro _ ⟨t, rfl⟩
  have S6 := Lib.hid (S5.out.call (hF t))
  obtain ⟨w6, hw6⟩ : ∃ z, F t = z := ⟨_, rfl⟩
  rw [hw6] at S6 ⊢
  clear c0 hG hw6 hF hT
  clear t F T
  go_upto_region 8 with fail
  rcases (show z = 0 ∨ z = 1 ∨ z = 2 ∨ z = 3 ∨ z = 4 ∨ z = 5 by omega) with rfl | rfl | rfl | rfl | rfl | rfl
  · skip
    obtain ⟨D, E, hB, hoff, hput⟩ := S6.out.up HJN.out
    obtain ⟨ov, hov⟩ : ∃ z, (ns[j]'(HJN.out)).up = z := ⟨_, rfl⟩
    rw [hov] at hB hoff
    clear hov
    have HB := Lib.hid hB
    have HOF := Lib.hid hoff
    have HPUT := Lib.hid hput
    clear hB hoff hput
    go_upto_region 18 with (first
      | ((with_reducible refine at_store (.tmp 44) ?_); refine wpList_store_part1 rfl 3 (.tmp 44) _ rfl g [D, [.int .i64 ov], E] 1 (.int .i64 ov) (.int .i64 ((N4 : Int) - 2)) HB.out rfl (by rw [HOF.out]; rfl) rfl hiI rfl rfl ?_; intro w7 U7 B7; have R7 := Lib.hid (HPUT.out ((N4 : Int) - 2) w7 (by omega) U7 B7); clear U7 B7))
    obtain ⟨va, n7, c7, ns7, hb7, hn7, hc7, hl7⟩ := R7.out
    have HT7 := Lib.hid hb7
    have HL7 := Lib.hid hl7
    have HC := Lib.hid (fun u (hu : Below w7.heap.size w7 u) => cvtree_any _ ns7 u (hn7.call hu))
    have HR := Lib.hid (fun u (hu : Below w7.heap.size w7 u) => vtree_any _ ns7 u (hn7.call hu) (fun a n c e => by cases e; exact hc7))
    obtain ⟨q, hq⟩ : ∃ q, vtE ns7 = q := ⟨_, rfl⟩
    rw [hq] at HC HR
    have hqq : (q == q) = true := by simp
    clear hb7 hn7 hc7 hl7 hq
    refine wp_region_fam2 (by kernel_rfl) (by kernel_rfl) ?_
    intro T F hT hF hG
    have CT := Lib.hid (show ∀ u, (∃ t, u = F t) → Blk u bu #[.slice va n7 c7] by rintro _ ⟨t, rfl⟩; exact HT7.out.call (hF t))
    repeat (first
      | ((with_reducible refine at_qload (.tmp 10) ?_); refine wpQuiet_load 24 _ rfl bu rfl #[.slice va n7 c7] CT.out Try.underlying24 rfl hi1 (by kernel_rfl) ?_; simp only [Act.put, List.setIfInBounds_toArray, List.set_cons_succ, List.set_cons_zero])
      | (go_big_quiet_step ((first
          | (go_at_call 10; exact fam_call hF hG (Nat.le_refl _) (HC.out _ (hF _)))
          | (go_at_call 11; exact fam_call hF hG (Nat.le_refl _) (HR.out _ (hF _)))
          | (go_at_call 9; exact fam_call hF hG (Nat.le_refl _) (HAW.out _))))))
    refine wpQuiet_nil ?_
    rintro _ ⟨t, rfl⟩
    have HB9 := Lib.hid (HL7.out.trans ((hF t).mono HL7.out.size))
    go_wp2_with fail
    go_ret
    exact ⟨rfl, HB9.out⟩
  · skip
    obtain ⟨D, E, hB, hoff, hput⟩ := S6.out.st HJN.out
    obtain ⟨ov, hov⟩ : ∃ z, (ns[j]'(HJN.out)).st = z := ⟨_, rfl⟩
    rw [hov] at hB hoff
    clear hov
    have HB := Lib.hid hB
    have HOF := Lib.hid hoff
    have HPUT := Lib.hid hput
    clear hB hoff hput
    go_upto_region 18 with (first
      | ((with_reducible refine at_store (.tmp 52) ?_); refine wpList_store_part1 rfl 3 (.tmp 52) _ rfl g [D, [.int .i64 ov], E] 1 (.int .i64 ov) (.int .i64 ((N3 : Int) - 1)) HB.out rfl (by rw [HOF.out]; rfl) rfl hiI rfl rfl ?_; intro w7 U7 B7; have R7 := Lib.hid (HPUT.out ((N3 : Int) - 1) w7 (by omega) U7 B7); clear U7 B7))
    obtain ⟨va, n7, c7, ns7, hb7, hn7, hc7, hl7⟩ := R7.out
    have HT7 := Lib.hid hb7
    have HL7 := Lib.hid hl7
    have HC := Lib.hid (fun u (hu : Below w7.heap.size w7 u) => cvtree_any _ ns7 u (hn7.call hu))
    have HR := Lib.hid (fun u (hu : Below w7.heap.size w7 u) => vtree_any _ ns7 u (hn7.call hu) (fun a n c e => by cases e; exact hc7))
    obtain ⟨q, hq⟩ : ∃ q, vtE ns7 = q := ⟨_, rfl⟩
    rw [hq] at HC HR
    have hqq : (q == q) = true := by simp
    clear hb7 hn7 hc7 hl7 hq
    refine wp_region_fam2 (by kernel_rfl) (by kernel_rfl) ?_
    intro T F hT hF hG
    have CT := Lib.hid (show ∀ u, (∃ t, u = F t) → Blk u bu #[.slice va n7 c7] by rintro _ ⟨t, rfl⟩; exact HT7.out.call (hF t))
    repeat (first
      | ((with_reducible refine at_qload (.tmp 10) ?_); refine wpQuiet_load 24 _ rfl bu rfl #[.slice va n7 c7] CT.out Try.underlying24 rfl hi1 (by kernel_rfl) ?_; simp only [Act.put, List.setIfInBounds_toArray, List.set_cons_succ, List.set_cons_zero])
      | (go_big_quiet_step ((first
          | (go_at_call 10; exact fam_call hF hG (Nat.le_refl _) (HC.out _ (hF _)))
          | (go_at_call 11; exact fam_call hF hG (Nat.le_refl _) (HR.out _ (hF _)))
          | (go_at_call 9; exact fam_call hF hG (Nat.le_refl _) (HAW.out _))))))
    refine wpQuiet_nil ?_
    rintro _ ⟨t, rfl⟩
    have HB9 := Lib.hid (HL7.out.trans ((hF t).mono HL7.out.size))
    go_wp2_with fail
    go_ret
    exact ⟨rfl, HB9.out⟩
  · skip
    obtain ⟨D, E, hB, hoff, hput⟩ := S6.out.root HJN.out
    have HPUT := Lib.hid hput
    have HOF := Lib.hid hoff
    have HRS := Lib.hid (root_k (N5 : Int) w6)
    have hris := rootK_is (N5 : Int)
    have HRI := Lib.hid hris
    have hiR : (Try.prog.info? 34).map (·.size) = some (bytesL (rootK (N5 : Int))).length := by rw [bytesL_len hris]; kernel_rfl
    have hold : (bytesL ns[j].b.root).length = 32 := bytesL_len (by have := (S6.out.o ns[j] (List.getElem_mem _)).1; obtain ⟨_, _, _, o4, o5, _⟩ := this; exact o4)
    have HLQ : Hid ((bytesL (rootK (N5 : Int))).length = (bytesL ns[j].b.root).length) := by show _ = _; rw [hold, bytesL_len hris]
    have HO1 := Lib.hid (bytesL_one (rootK (N5 : Int)))
    have HRE : Hid (rootK (N5 : Int) = rootK (N5 : Int)) := rfl
    obtain ⟨R, hR⟩ : ∃ R, bytesL (rootK (N5 : Int)) = R := ⟨_, rfl⟩
    have HR := Lib.hid hR
    rw [hR] at HRS hiR HLQ HO1
    have HBX : Hid (∀ u, Below w6.heap.size w6 u → ∃ D E, Blk u g (flatP [D, bytesL ns[j].b.root, E]) ∧ offP [D, bytesL ns[j].b.root, E] 1 = j * 240 + 67 ∧ ∀ (V : List Int) u' (hV : IsBytes 32 V), Upd g u u' → Blk u' g (flatP [D, bytesL V, E]) → SpR w bu u') := fun u hu => (S6.out.call hu).root HJN.out
    clear hB hoff hput hris hold hR HPUT HOF
    clear D E
    go_upto_region 18 with (first
      | (go_at_call 13; refine HRS.out.mono ?_; rintro e w7 ⟨rfl, hb7⟩; obtain ⟨D, E, hB, hoff, hput⟩ := HBX.out w7 hb7; have HB := Lib.hid hB; have HOF := Lib.hid hoff; have HPUT := Lib.hid hput; clear hB hoff hput hb7)
      | ((with_reducible refine at_store (.tmp 61) ?_); refine wpList_store_part rfl 34 (.tmp 61) _ rfl g [D, bytesL ns[j].b.root, E] 1 (bytesL ns[j].b.root) R HB.out rfl (by rw [HOF.out]; rfl) rfl HLQ.out hiR HO1.out ?_; intro w8 U8 B8; have R8 := Lib.hid (HPUT.out (rootK (N5 : Int)) w8 HRI.out U8 (by rw [HR.out]; exact B8)); clear U8 B8))
    obtain ⟨va, n7, c7, ns7, hb7, hn7, hc7, hl7⟩ := R8.out
    have HT7 := Lib.hid hb7
    have HL7 := Lib.hid hl7
    have HC := Lib.hid (fun u (hu : Below w8.heap.size w8 u) => cvtree_any _ ns7 u (hn7.call hu))
    have HR := Lib.hid (fun u (hu : Below w8.heap.size w8 u) => vtree_any _ ns7 u (hn7.call hu) (fun a n c e => by cases e; exact hc7))
    obtain ⟨q, hq⟩ : ∃ q, vtE ns7 = q := ⟨_, rfl⟩
    rw [hq] at HC HR
    have hqq : (q == q) = true := by simp
    clear hb7 hn7 hc7 hl7 hq
    refine wp_region_fam2 (by kernel_rfl) (by kernel_rfl) ?_
    intro T F hT hF hG
    have CT := Lib.hid (show ∀ u, (∃ t, u = F t) → Blk u bu #[.slice va n7 c7] by rintro _ ⟨t, rfl⟩; exact HT7.out.call (hF t))
    repeat (first
      | ((with_reducible refine at_qload (.tmp 10) ?_); refine wpQuiet_load 24 _ rfl bu rfl #[.slice va n7 c7] CT.out Try.underlying24 rfl hi1 (by kernel_rfl) ?_; simp only [Act.put, List.setIfInBounds_toArray, List.set_cons_succ, List.set_cons_zero])
      | (go_big_quiet_step ((first
          | (go_at_call 10; exact fam_call hF hG (Nat.le_refl _) (HC.out _ (hF _)))
          | (go_at_call 11; exact fam_call hF hG (Nat.le_refl _) (HR.out _ (hF _)))
          | (go_at_call 9; exact fam_call hF hG (Nat.le_refl _) (HAW.out _))))))
    refine wpQuiet_nil ?_
    rintro _ ⟨t, rfl⟩
    have HB9 := Lib.hid (HL7.out.trans ((hF t).mono HL7.out.size))
    go_wp2_with fail
    go_ret
    exact ⟨rfl, HB9.out⟩
  · skip
    obtain ⟨D, E, hB, hoff, hput⟩ := S6.out.parent HJN.out
    have HPUT := Lib.hid hput
    have HOF := Lib.hid hoff
    have HRS := Lib.hid (root_k (N5 : Int) w6)
    have hris := rootK_is (N5 : Int)
    have HRI := Lib.hid hris
    have hiR : (Try.prog.info? 34).map (·.size) = some (bytesL (rootK (N5 : Int))).length := by rw [bytesL_len hris]; kernel_rfl
    have hold : (bytesL ns[j].b.parent).length = 32 := bytesL_len (by have := (S6.out.o ns[j] (List.getElem_mem _)).1; obtain ⟨_, _, _, o4, o5, _⟩ := this; exact o5)
    have HLQ : Hid ((bytesL (rootK (N5 : Int))).length = (bytesL ns[j].b.parent).length) := by show _ = _; rw [hold, bytesL_len hris]
    have HO1 := Lib.hid (bytesL_one (rootK (N5 : Int)))
    have HRE : Hid (rootK (N5 : Int) = rootK (N5 : Int)) := rfl
    obtain ⟨R, hR⟩ : ∃ R, bytesL (rootK (N5 : Int)) = R := ⟨_, rfl⟩
    have HR := Lib.hid hR
    rw [hR] at HRS hiR HLQ HO1
    have HBX : Hid (∀ u, Below w6.heap.size w6 u → ∃ D E, Blk u g (flatP [D, bytesL ns[j].b.parent, E]) ∧ offP [D, bytesL ns[j].b.parent, E] 1 = j * 240 + 99 ∧ ∀ (V : List Int) u' (hV : IsBytes 32 V), Upd g u u' → Blk u' g (flatP [D, bytesL V, E]) → SpR w bu u') := fun u hu => (S6.out.call hu).parent HJN.out
    clear hB hoff hput hris hold hR HPUT HOF
    clear D E
    go_upto_region 18 with (first
      | (go_at_call 13; refine HRS.out.mono ?_; rintro e w7 ⟨rfl, hb7⟩; obtain ⟨D, E, hB, hoff, hput⟩ := HBX.out w7 hb7; have HB := Lib.hid hB; have HOF := Lib.hid hoff; have HPUT := Lib.hid hput; clear hB hoff hput hb7)
      | ((with_reducible refine at_store (.tmp 70) ?_); refine wpList_store_part rfl 34 (.tmp 70) _ rfl g [D, bytesL ns[j].b.parent, E] 1 (bytesL ns[j].b.parent) R HB.out rfl (by rw [HOF.out]; rfl) rfl HLQ.out hiR HO1.out ?_; intro w8 U8 B8; have R8 := Lib.hid (HPUT.out (rootK (N5 : Int)) w8 HRI.out U8 (by rw [HR.out]; exact B8)); clear U8 B8))
    obtain ⟨va, n7, c7, ns7, hb7, hn7, hc7, hl7⟩ := R8.out
    have HT7 := Lib.hid hb7
    have HL7 := Lib.hid hl7
    have HC := Lib.hid (fun u (hu : Below w8.heap.size w8 u) => cvtree_any _ ns7 u (hn7.call hu))
    have HR := Lib.hid (fun u (hu : Below w8.heap.size w8 u) => vtree_any _ ns7 u (hn7.call hu) (fun a n c e => by cases e; exact hc7))
    obtain ⟨q, hq⟩ : ∃ q, vtE ns7 = q := ⟨_, rfl⟩
    rw [hq] at HC HR
    have hqq : (q == q) = true := by simp
    clear hb7 hn7 hc7 hl7 hq
    refine wp_region_fam2 (by kernel_rfl) (by kernel_rfl) ?_
    intro T F hT hF hG
    have CT := Lib.hid (show ∀ u, (∃ t, u = F t) → Blk u bu #[.slice va n7 c7] by rintro _ ⟨t, rfl⟩; exact HT7.out.call (hF t))
    repeat (first
      | ((with_reducible refine at_qload (.tmp 10) ?_); refine wpQuiet_load 24 _ rfl bu rfl #[.slice va n7 c7] CT.out Try.underlying24 rfl hi1 (by kernel_rfl) ?_; simp only [Act.put, List.setIfInBounds_toArray, List.set_cons_succ, List.set_cons_zero])
      | (go_big_quiet_step ((first
          | (go_at_call 10; exact fam_call hF hG (Nat.le_refl _) (HC.out _ (hF _)))
          | (go_at_call 11; exact fam_call hF hG (Nat.le_refl _) (HR.out _ (hF _)))
          | (go_at_call 9; exact fam_call hF hG (Nat.le_refl _) (HAW.out _))))))
    refine wpQuiet_nil ?_
    rintro _ ⟨t, rfl⟩
    have HB9 := Lib.hid (HL7.out.trans ((hF t).mono HL7.out.size))
    go_wp2_with fail
    go_ret
    exact ⟨rfl, HB9.out⟩
  · skip
    have hwu : IntKind.u64.wrap (N4 : Int) = (N4 : Int) := by simp only [IntKind.wrap, IntKind.signed, IntKind.bits]; simp; omega
    obtain ⟨D, E, hB, hoff, hput⟩ := S6.out.slot HJN.out
    obtain ⟨ov, hov⟩ : ∃ z, (ns[j]'(HJN.out)).b.slot = z := ⟨_, rfl⟩
    rw [hov] at hB hoff
    clear hov
    have HB := Lib.hid hB
    have HOF := Lib.hid hoff
    have HPUT := Lib.hid hput
    clear hB hoff hput
    go_upto_region 18 with (first
      | ((with_reducible refine at_store (.tmp 79) ?_); refine wpList_store_part1 rfl 32 (.tmp 79) _ rfl g [D, [.int .u64 ov], E] 1 (.int .u64 ov) (.int .u64 (N4 : Int)) HB.out rfl (by rw [HOF.out]; rfl) rfl hiU rfl rfl ?_; intro w7 U7 B7; have R7 := Lib.hid (HPUT.out ((N4 : Int)) w7 (by omega) U7 B7); clear U7 B7))
    obtain ⟨va, n7, c7, ns7, hb7, hn7, hc7, hl7⟩ := R7.out
    have HT7 := Lib.hid hb7
    have HL7 := Lib.hid hl7
    have HC := Lib.hid (fun u (hu : Below w7.heap.size w7 u) => cvtree_any _ ns7 u (hn7.call hu))
    have HR := Lib.hid (fun u (hu : Below w7.heap.size w7 u) => vtree_any _ ns7 u (hn7.call hu) (fun a n c e => by cases e; exact hc7))
    obtain ⟨q, hq⟩ : ∃ q, vtE ns7 = q := ⟨_, rfl⟩
    rw [hq] at HC HR
    have hqq : (q == q) = true := by simp
    clear hb7 hn7 hc7 hl7 hq
    refine wp_region_fam2 (by kernel_rfl) (by kernel_rfl) ?_
    intro T F hT hF hG
    have CT := Lib.hid (show ∀ u, (∃ t, u = F t) → Blk u bu #[.slice va n7 c7] by rintro _ ⟨t, rfl⟩; exact HT7.out.call (hF t))
    repeat (first
      | ((with_reducible refine at_qload (.tmp 10) ?_); refine wpQuiet_load 24 _ rfl bu rfl #[.slice va n7 c7] CT.out Try.underlying24 rfl hi1 (by kernel_rfl) ?_; simp only [Act.put, List.setIfInBounds_toArray, List.set_cons_succ, List.set_cons_zero])
      | (go_big_quiet_step ((first
          | (go_at_call 10; exact fam_call hF hG (Nat.le_refl _) (HC.out _ (hF _)))
          | (go_at_call 11; exact fam_call hF hG (Nat.le_refl _) (HR.out _ (hF _)))
          | (go_at_call 9; exact fam_call hF hG (Nat.le_refl _) (HAW.out _))))))
    refine wpQuiet_nil ?_
    rintro _ ⟨t, rfl⟩
    have HB9 := Lib.hid (HL7.out.trans ((hF t).mono HL7.out.size))
    go_wp2_with fail
    go_ret
    exact ⟨rfl, HB9.out⟩
  · skip
    have HSL := Lib.hid (fun u => runSlLo Try.underlying22 (by kernel_rfl) size_node (some ⟨g, 0, none⟩) m gc 1 hm1 u)
    have HRD := Lib.hid (rowB_drop (c := gc) S6.out.r S6.out.o (by rw [hm.out]; unfold maxLen; omega) (by rw [hm.out]; exact hm1) (by rw [hm.out]; exact S6.out.len.2.2.2))
    rw [hm.out] at HRD
    obtain ⟨ra, hra⟩ : ∃ ra, (if gc = 1 then some (⟨g, 0, none⟩ : Addr) else (some (⟨g, 0, none⟩ : Addr)).map (·.add (1 * 240))) = ra := ⟨_, rfl⟩
    rw [hra] at HSL HRD
    have HOD := Lib.hid (NodesV.offBlk HRD.out S6.out.t (by simp))
    clear hra
    go_upto_region 18 with (first
      | ((with_reducible refine at_load (.tmp 33) ?_); refine wpList_load_1 22 (.tmp 33) rfl bu 0 (.slice (some ⟨g, 0, none⟩) m gc) (S6.out.t.cell 0) rfl _ Try.underlying22 rfl rfl ?_)
      | ((with_reducible refine at_sl (some 35) ?_); refine wpList_slLo rfl _ _ _ rfl _ (.int .i64 ((1 : Nat) : Int)) _ rfl rfl (HSL.out _) ?_)
      | ((with_reducible refine at_store (.tmp 36) ?_); refine wpList_store_part1 rfl 22 (.tmp 36) _ rfl bu [[.slice (some ⟨g, 0, none⟩) m gc]] 0 (.slice (some ⟨g, 0, none⟩) m gc) (.slice ra (m - 1) (gc - 1)) S6.out.t rfl rfl rfl hiNS rfl rfl ?_; intro w7 U7 B7; have R7 : Hid (SpR w bu w7) := ⟨ra, m - 1, gc - 1, ns.drop 1, B7, NodesV.grownOff HRD.out (upd_grown U7) HOD.out, by have := S6.out.len; omega, U7.below S6.out.b S6.out.lt.2.1⟩; clear U7 B7))
    obtain ⟨va, n7, c7, ns7, hb7, hn7, hc7, hl7⟩ := R7.out
    have HT7 := Lib.hid hb7
    have HL7 := Lib.hid hl7
    have HC := Lib.hid (fun u (hu : Below w7.heap.size w7 u) => cvtree_any _ ns7 u (hn7.call hu))
    have HR := Lib.hid (fun u (hu : Below w7.heap.size w7 u) => vtree_any _ ns7 u (hn7.call hu) (fun a n c e => by cases e; exact hc7))
    obtain ⟨q, hq⟩ : ∃ q, vtE ns7 = q := ⟨_, rfl⟩
    rw [hq] at HC HR
    have hqq : (q == q) = true := by simp
    clear hb7 hn7 hc7 hl7 hq
    refine wp_region_fam2 (by kernel_rfl) (by kernel_rfl) ?_
    intro T F hT hF hG
    have CT := Lib.hid (show ∀ u, (∃ t, u = F t) → Blk u bu #[.slice va n7 c7] by rintro _ ⟨t, rfl⟩; exact HT7.out.call (hF t))
    repeat (first
      | ((with_reducible refine at_qload (.tmp 10) ?_); refine wpQuiet_load 24 _ rfl bu rfl #[.slice va n7 c7] CT.out Try.underlying24 rfl hi1 (by kernel_rfl) ?_; simp only [Act.put, List.setIfInBounds_toArray, List.set_cons_succ, List.set_cons_zero])
      | (go_big_quiet_step ((first
          | (go_at_call 10; exact fam_call hF hG (Nat.le_refl _) (HC.out _ (hF _)))
          | (go_at_call 11; exact fam_call hF hG (Nat.le_refl _) (HR.out _ (hF _)))
          | (go_at_call 9; exact fam_call hF hG (Nat.le_refl _) (HAW.out _))))))
    refine wpQuiet_nil ?_
    rintro _ ⟨t, rfl⟩
    have HB9 := Lib.hid (HL7.out.trans ((hF t).mono HL7.out.size))
    go_wp2_with fail
    go_ret
    exact ⟨rfl, HB9.out⟩
end

end Go.Proofs.Ytgdlkkeiijhecaa
