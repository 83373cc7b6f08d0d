/- Votes as data: their cells, '==', how a table of votes lies in memory; what Cast makes of it. -/
import Derived.Test.YtdlbobpglgjhiaaRwB
set_option linter.unusedVariables false

set_option linter.unusedSimpArgs false
namespace Go.Proofs.Ytdlbobpglgjhiaa
open Go.RowKit

set_option maxRecDepth 100000

/-- A vote. -/
structure VoD where
  has : Bool
  n : Int
  r : List Int

def VoD.ok (v : VoD) : Prop := 0 ≤ v.n ∧ v.n ≤ 18446744073709551615 ∧ IsBytes 32 v.r

def VoD.cells (v : VoD) : List Value := .bool v.has :: .int .u64 v.n :: bytesL v.r

def zeV : VoD := ⟨false, 0, zeroR⟩

theorem zeV_ok : zeV.ok := ⟨by show (0 : Int) ≤ 0; omega, by show (0 : Int) ≤ _; omega, zeroR_is⟩

theorem VoD.len {v : VoD} (h : v.ok) : v.cells.length = 34 := by simp [VoD.cells, bytesL_len h.2.2]

theorem VoD.one (v : VoD) : ∀ x ∈ v.cells, x.oneCell' = true := by
  intro x hx
  rcases List.mem_cons.1 hx with rfl | hx
  · rfl
  rcases List.mem_cons.1 hx with rfl | hx
  · rfl
  · exact bytesL_one _ x hx

theorem VoD.inj {c d : VoD} (h : c.cells = d.cells) : c = d := by
  cases c; cases d
  simp only [VoD.cells, List.cons.injEq, Value.int.injEq, Value.bool.injEq, true_and] at h
  obtain ⟨h0, h1, h2⟩ := h
  cases h0
  cases h1
  cases bytesL_inj h2
  rfl

theorem infoVo {v : VoD} (h : v.ok) : (Try.prog.info? 84).map (·.size) = some v.cells.length := by rw [VoD.len h]; kernel_rfl

theorem info_vote : (Try.prog.info? 84).map (fun i => (i.zero, i.size, i.bytes)) = some (some (.agg zeV.cells.toArray), zeV.cells.length, 48) := by kernel_rfl

theorem keyLits_vo {d : Nat} {v : VoD} (h : v.ok) : ∃ ls, Try.prog.keyLits (d + 3) 84 v.cells = some ls := by
  refine keyLits_struct Try.underlying84 (by rw [VoD.len h]; kernel_rfl) (by kernel_rfl) ?_
  intro f hf
  simp only [List.mem_cons, List.not_mem_nil, or_false] at hf
  rcases hf with rfl | rfl | rfl
  · have e : (v.cells.drop 0).take (Try.prog.cellsOf 4) = [.bool v.has] := by
      rw [show Try.prog.cellsOf 4 = 1 by kernel_rfl]; rfl
    show ∃ l, Try.prog.keyLits (d + 2) 4 ((v.cells.drop 0).take (Try.prog.cellsOf 4)) = some l
    rw [e]
    exact keyLits_bool Try.underlying4
  · have e : (v.cells.drop 1).take (Try.prog.cellsOf 53) = [.int .u64 v.n] := by
      rw [show Try.prog.cellsOf 53 = 1 by kernel_rfl]; rfl
    show ∃ l, Try.prog.keyLits (d + 2) 53 ((v.cells.drop 1).take (Try.prog.cellsOf 53)) = some l
    rw [e]
    exact keyLits_int Try.underlying53 (wf_of_u64 ⟨h.1, h.2.1⟩)
  · have e : (v.cells.drop 2).take (Try.prog.cellsOf 57) = bytesL v.r := by
      rw [show Try.prog.cellsOf 57 = 32 by kernel_rfl]
      show (bytesL v.r).take 32 = _
      rw [List.take_of_length_le (by rw [bytesL_len h.2.2]; omega)]
    show ∃ l, Try.prog.keyLits (d + 2) 57 ((v.cells.drop 2).take (Try.prog.cellsOf 57)) = some l
    rw [e]
    exact keyLits_bytes Try.underlying57 (by kernel_rfl) h.2.2

/-- '==' of two votes. -/
theorem eq_vo {c d : VoD} (hc : c.ok) (hd : d.ok) : ∃ r : Bool, (∀ w, Sem.run Try.prog (Op.equalIn 10000 84 (.agg c.cells.toArray) (.agg d.cells.toArray)) w = .ok r w) ∧ (r = true ↔ c = d) := by
  have hf : ∀ {z : VoD}, z.ok → (Value.agg z.cells.toArray).formed Try.prog 84 = true := fun {z} hz => by simp [Value.formed, Try.underlying84, VoD.len hz]; kernel_rfl
  obtain ⟨r, h1, h2⟩ := eq_two (m := 3) (m' := 4) (by kernel_rfl) (by kernel_rfl) (by omega) _ _ (hf hc) (hf hd) (by simpa using keyLits_vo (d := 0) hc) (by simpa using keyLits_vo (d := 0) hd)
  exact ⟨r, h1, by rw [h2]; exact ⟨fun h => VoD.inj (by simpa using h), fun e => by rw [e]⟩⟩

/-- A vote written out. -/
theorem build_vo (b : Bool) {n : Int} {r : List Int} (hr : IsBytes 32 r) (u : World) : (Instr.build 84 #[(0, .bool b), (1, .int .u64 n), (2, .agg (bytesL r).toArray)]).run Try.prog u = .ok (.agg (VoD.mk b n r).cells.toArray) u := by
  have hl := bytesL_len hr
  refine build_struct (zero := flatP [[.bool false], [.int .u64 0], bytesL zeroR]) (fun w => by kernel_rfl) Try.underlying84 (places := #[(0, 1), (1, 1), (2, 32)]) (fun w => by kernel_rfl) ?_ u
  show Instr.fill _ (flatP [[.bool false], [.int .u64 0], bytesL zeroR]) [(0, .bool b), (1, .int .u64 n), (2, .agg (bytesL r).toArray)] = _
  rw [fill_part 0 [.bool false] [.bool b] rfl rfl rfl rfl rfl, fill_part (i := 1) (o := 1) 1 [.int .u64 0] [.int .u64 n] rfl rfl rfl rfl rfl, fill_part (i := 2) (o := 2) 2 (bytesL zeroR) (bytesL r) rfl rfl (by rw [hl]; rfl) rfl (by rw [hl]; rfl)]
  unfold Instr.fill
  simp [flatP, VoD.cells]

theorem bz_vo (u : World) : (Instr.build 84 #[]).run Try.prog u = .ok (.agg zeV.cells.toArray) u := by kernel_rfl

/-- An element of a slice of votes. -/
def VoEl (P : Value → Prop) (w : World) (X : Array Value) (d : VoD) : Prop := X = d.cells.toArray ∧ d.ok

theorem voOK : ElOK 34 VoEl where
  size := fun h => by rw [h.1, List.size_toArray, VoD.len h.2]
  one := fun h v hv => by rw [h.1] at hv; exact VoD.one _ v (by simpa using hv)
  mono := fun h _ => h
  grown := fun h _ _ => h
  off := fun h _ => h

/-- A slice of votes. -/
abbrev VotesV (w : World) (v : Value) (vs : List VoD) : Prop := ElV VoEl 34 w v vs

theorem VotesV.call {w w' : World} {v : Value} {vs : List VoD} (h : VotesV w v vs) (hb : Below w.heap.size w w') : VotesV w' v vs := ElV.below voOK h hb

theorem VotesV.elem {w : World} {a : Option Addr} {l cap : Nat} {vs : List VoD} (h : VotesV w (.slice a l cap) vs) {i : Nat} (hi : i < vs.length) :
    ∃ b off, a = some ⟨b, off, none⟩ ∧ l = vs.length ∧ b < w.heap.size ∧ w.rangeAt b (off + i * 34) (vs.getD i zeV).cells ∧ (vs.getD i zeV).ok := by
  obtain ⟨b, off, X, h1, h2, h3, h4, ⟨h5, h6⟩, _⟩ := ElV.at voOK h hi
  have e : vs.getD i zeV = vs[i] := by simp [List.getD, List.getElem?_eq_getElem hi]
  rw [e]
  exact ⟨b, off, h1, h2, h3, by rw [h5] at h4; exact h4, h6⟩

/-- A table of votes: its object in block b, its row in block g. -/
structure VtI (w : World) (b g : Nat) (vs : List VoD) : Prop where
  blk : Blk w b #[.slice (some ⟨g, 0, none⟩) vs.length vs.length]
  row : RowB w g (vs.map VoD.cells)
  ok : ∀ v ∈ vs, v.ok
  len : vs.length ≤ 1024
  ne : b ≠ g

theorem VtI.call {w w' : World} {b g : Nat} {vs : List VoD} (h : VtI w b g vs) (hb : Below w.heap.size w w') : VtI w' b g vs := ⟨h.blk.call hb, h.row.call hb, h.ok, h.len, h.ne⟩

theorem VtI.grown {w w' : World} {b g : Nat} {vs : List VoD} {row : Option Nat} (h : VtI w b g vs) (hg : w.grownBy w' row) (h1 : some b ≠ row) (h2 : some g ≠ row) : VtI w' b g vs := ⟨h.blk.grown hg h1, h.row.grown hg h2, h.ok, h.len, h.ne⟩

theorem cells34 {vs : List VoD} (h : ∀ v ∈ vs, v.ok) : ∀ L ∈ vs.map VoD.cells, L.length = 34 := fun L hL => by
  obtain ⟨v, hv, rfl⟩ := List.mem_map.1 hL
  exact VoD.len (h v hv)

theorem VtI.votes {w : World} {b g : Nat} {vs : List VoD} (h : VtI w b g vs) : VotesV w (.slice (some ⟨g, 0, none⟩) vs.length vs.length) vs := by
  refine ⟨_, _, rfl, by have := h.len; unfold maxLen; omega, .inr ⟨g, 0, rfl, h.row.lt, vs.map fun v => v.cells.toArray, ?_, by simp, ?_⟩⟩
  · have e : rowsL (vs.map fun v => v.cells.toArray) = (vs.map VoD.cells).flatten := by simp [rowsL, List.map_map, Function.comp_def]
    rw [e]; exact h.row.range
  · intro p hp
    obtain ⟨i, hi, rfl⟩ := List.mem_iff_getElem.1 hp
    simp only [List.length_zip, List.length_map] at hi
    simp only [List.getElem_zip, List.getElem_map]
    exact ⟨rfl, h.ok _ (List.getElem_mem _)⟩

theorem getD_ok {vs : List VoD} (h : ∀ v ∈ vs, v.ok) (i : Nat) : (vs.getD i zeV).ok := by
  by_cases hi : i < vs.length
  · have e : vs.getD i zeV = vs[i] := by simp [List.getD, List.getElem?_eq_getElem hi]
    rw [e]; exact h _ (List.getElem_mem hi)
  · have e : vs.getD i zeV = zeV := by simp [List.getD, List.getElem?_eq_none (Nat.le_of_not_lt hi)]
    rw [e]; exact zeV_ok

theorem getD_cells {vs : List VoD} {i : Nat} (hi : i < vs.length) : (vs.map VoD.cells)[i]? = some (vs.getD i zeV).cells := by
  rw [List.getElem?_map]; simp [List.getD, List.getElem?_eq_getElem hi]

/-- The cells of one vote of a row. -/
theorem row_cells {w : World} {g : Nat} {vs : List VoD} (h : RowB w g (vs.map VoD.cells)) (ho : ∀ v ∈ vs, v.ok) {i : Nat} (hi : i < vs.length) :
    w.cell? ⟨g, i * 34, none⟩ = some (.bool (vs.getD i zeV).has) ∧ w.cell? ⟨g, i * 34 + 1, none⟩ = some (.int .u64 (vs.getD i zeV).n) :=
by
  have hc := getD_cells hi
  generalize vs.getD i zeV = d at hc ⊢
  have h0 := h.cell (cells34 ho) hc (j := 0) (v := .bool d.has) rfl
  have h1 := h.cell (cells34 ho) hc (j := 1) (v := .int .u64 d.n) rfl
  rw [Nat.add_zero] at h0
  exact ⟨h0, h1⟩
/-! ### What Cast does -/

/-- One validator's turn. -/
def castI (e : Int) (r : List Int) (s : List VoD × Int) (i : Int) : List VoD × Int :=
  if (s.1.getD i.toNat zeV).has = true ∧ e ≤ (s.1.getD i.toNat zeV).n then s else (s.1.set i.toNat ⟨true, e, r⟩, s.2 + 1)

def castK (vs : List VoD) (e : Int) (r : List Int) (l : List Int) (k : Nat) : List VoD × Int := (l.take k).foldl (castI e r) (vs, 0)

theorem castK_zero (vs : List VoD) (e : Int) (r l : List Int) : castK vs e r l 0 = (vs, 0) := rfl

theorem castK_succ {vs : List VoD} {e : Int} {r l : List Int} {k : Nat} (hk : k < l.length) : castK vs e r l (k + 1) = castI e r (castK vs e r l k) (l.getD k 0) := by
  unfold castK
  rw [List.take_add_one, List.foldl_append]
  simp [List.getD, List.getElem?_eq_getElem hk]

theorem castI_len (e : Int) (r : List Int) (s : List VoD × Int) (i : Int) : (castI e r s i).1.length = s.1.length := by
  unfold castI; split <;> simp

theorem castK_len (vs : List VoD) (e : Int) (r l : List Int) : ∀ k, k ≤ l.length → (castK vs e r l k).1.length = vs.length
  | 0, _ => rfl
  | k + 1, h => by rw [castK_succ (by omega), castI_len]; exact castK_len vs e r l k (by omega)

theorem castI_ok {e : Int} {r : List Int} {s : List VoD × Int} (i : Int) (hs : ∀ v ∈ s.1, v.ok) (he : 0 ≤ e ∧ e ≤ 18446744073709551615) (hr : IsBytes 32 r) : ∀ v ∈ (castI e r s i).1, v.ok := by
  unfold castI; split
  · exact hs
  · intro v hv
    rcases List.mem_or_eq_of_mem_set hv with h | rfl
    · exact hs v h
    · exact ⟨he.1, he.2, hr⟩

theorem castK_ok {vs : List VoD} {e : Int} {r l : List Int} (hs : ∀ v ∈ vs, v.ok) (he : 0 ≤ e ∧ e ≤ 18446744073709551615) (hr : IsBytes 32 r) : ∀ k, k ≤ l.length → ∀ v ∈ (castK vs e r l k).1, v.ok
  | 0, _ => hs
  | k + 1, h => by rw [castK_succ (by omega)]; exact castI_ok _ (castK_ok hs he hr k (by omega)) he hr

theorem castI_cnt (e : Int) (r : List Int) (s : List VoD × Int) (i : Int) : s.2 ≤ (castI e r s i).2 ∧ (castI e r s i).2 ≤ s.2 + 1 := by
  unfold castI; split
  · omega
  · show s.2 ≤ s.2 + 1 ∧ s.2 + 1 ≤ s.2 + 1; omega

theorem castK_cnt (vs : List VoD) (e : Int) (r l : List Int) : ∀ k : Nat, k ≤ l.length → 0 ≤ (castK vs e r l k).2 ∧ (castK vs e r l k).2 ≤ k
  | 0, _ => by rw [castK_zero]; simp
  | k + 1, h => by
    have h1 := castK_cnt vs e r l k (by omega)
    have h2 := castI_cnt e r (castK vs e r l k) (l.getD k 0)
    rw [castK_succ (by omega)]
    omega

/-- All of it. -/
def castR (vs : List VoD) (e : Int) (r l : List Int) : List VoD × Int := if vlE l vs.length = 0 then castK vs e r l l.length else (vs, 0)

theorem VotesV.grownOff {w w' : World} {v : Value} {vs : List VoD} {g : Nat} (h : VotesV w v vs) (hg : w.grownBy w' (some g)) (ho : Off g v) : VotesV w' v vs := by
  obtain ⟨a, cap, rfl, hl, hr⟩ := h
  refine ⟨a, cap, rfl, hl, ?_⟩
  rcases hr with h0 | ⟨b, off, rfl, hlt, Xs, h1, h2⟩
  · exact .inl h0
  · by_cases h0 : vs.length = 0
    · exact .inl h0
    have hne : some b ≠ some g := fun e => ho _ _ _ rfl (by omega) (by cases e; rfl)
    exact .inr ⟨b, off, rfl, Nat.lt_of_lt_of_le hlt hg.size, Xs, fun j u hj => by rw [hg.cell_far ⟨b, off + j, none⟩ hlt hne]; exact h1 j u hj, h2.imp fun X d hX => hX⟩
end Go.Proofs.Ytdlbobpglgjhiaa
