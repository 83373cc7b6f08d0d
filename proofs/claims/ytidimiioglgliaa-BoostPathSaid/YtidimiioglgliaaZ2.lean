/- Several texts as one: VoA, EvA, WeA, WeB, WeC, TrB, TrD, EvB, So, TrF, TrG, WeD, WeE, PrA. -/
import Derived.Test.YtidimiioglgliaaZ1
import Derived.Test.YtidimiioglgliaaPas
import Derived.Test.YtidimiioglgliaaHeld4
import Derived.Deep.MidRow
import Derived.Deep.RegionHeld3
namespace Go.Proofs.Ytidimiioglgliaa

/-! VoA -/
section
set_option linter.unusedVariables false
set_option linter.unusedSimpArgs false
open Go.RowKit

set_option maxRecDepth 100000

/-- A vote. -/
structure VoD where
  has : Bool
  n : Int
  r : List Int

def VoD.ok (v : VoD) : Prop := 0 ≤ v.n ∧ v.n ≤ 18446744073709551615 ∧ IsBytes 32 v.r

def VoD.cells (v : VoD) : List Value := .bool v.has :: .int .u64 v.n :: bytesL v.r

def zeV : VoD := ⟨false, 0, zeroR⟩

theorem zeV_ok : zeV.ok := ⟨by show (0 : Int) ≤ 0; omega, by show (0 : Int) ≤ _; omega, zeroR_is⟩

theorem VoD.len {v : VoD} (h : v.ok) : v.cells.length = 34 := by simp [VoD.cells, bytesL_len h.2.2]

theorem VoD.one (v : VoD) : ∀ x ∈ v.cells, x.oneCell' = true := by
  intro x hx
  rcases List.mem_cons.1 hx with rfl | hx
  · rfl
  rcases List.mem_cons.1 hx with rfl | hx
  · rfl
  · exact bytesL_one _ x hx

theorem VoD.inj {c d : VoD} (h : c.cells = d.cells) : c = d := by
  cases c; cases d
  simp only [VoD.cells, List.cons.injEq, Value.int.injEq, Value.bool.injEq, true_and] at h
  obtain ⟨h0, h1, h2⟩ := h
  cases h0
  cases h1
  cases bytesL_inj h2
  rfl

/-- An element of a slice of votes. -/
def VoEl (P : Value → Prop) (w : World) (X : Array Value) (d : VoD) : Prop := X = d.cells.toArray ∧ d.ok

theorem voOK : ElOK 34 VoEl where
  size := fun h => by rw [h.1, List.size_toArray, VoD.len h.2]
  one := fun h v hv => by rw [h.1] at hv; exact VoD.one _ v (by simpa using hv)
  mono := fun h _ => h
  grown := fun h _ _ => h
  off := fun h _ => h

/-- A slice of votes. -/
abbrev VotesV (w : World) (v : Value) (vs : List VoD) : Prop := ElV VoEl 34 w v vs

theorem VotesV.call {w w' : World} {v : Value} {vs : List VoD} (h : VotesV w v vs) (hb : Below w.heap.size w w') : VotesV w' v vs := ElV.below voOK h hb

theorem VotesV.elem {w : World} {a : Option Addr} {l cap : Nat} {vs : List VoD} (h : VotesV w (.slice a l cap) vs) {i : Nat} (hi : i < vs.length) :
    ∃ b off, a = some ⟨b, off, none⟩ ∧ l = vs.length ∧ b < w.heap.size ∧ w.rangeAt b (off + i * 34) (vs.getD i zeV).cells ∧ (vs.getD i zeV).ok := by
  obtain ⟨b, off, X, h1, h2, h3, h4, ⟨h5, h6⟩, _⟩ := ElV.at voOK h hi
  have e : vs.getD i zeV = vs[i] := by simp [List.getD, List.getElem?_eq_getElem hi]
  rw [e]
  exact ⟨b, off, h1, h2, h3, by rw [h5] at h4; exact h4, h6⟩

/-- A table of votes: its object in block b, its row in block g. -/
structure VtI (w : World) (b g : Nat) (vs : List VoD) : Prop where
  blk : Blk w b #[.slice (some ⟨g, 0, none⟩) vs.length vs.length]
  row : RowB w g (vs.map VoD.cells)
  ok : ∀ v ∈ vs, v.ok
  len : vs.length ≤ 1024
  ne : b ≠ g

theorem VtI.call {w w' : World} {b g : Nat} {vs : List VoD} (h : VtI w b g vs) (hb : Below w.heap.size w w') : VtI w' b g vs := ⟨h.blk.call hb, h.row.call hb, h.ok, h.len, h.ne⟩

theorem VtI.grown {w w' : World} {b g : Nat} {vs : List VoD} {row : Option Nat} (h : VtI w b g vs) (hg : w.grownBy w' row) (h1 : some b ≠ row) (h2 : some g ≠ row) : VtI w' b g vs := ⟨h.blk.grown hg h1, h.row.grown hg h2, h.ok, h.len, h.ne⟩

theorem cells34 {vs : List VoD} (h : ∀ v ∈ vs, v.ok) : ∀ L ∈ vs.map VoD.cells, L.length = 34 := fun L hL => by
  obtain ⟨v, hv, rfl⟩ := List.mem_map.1 hL
  exact VoD.len (h v hv)

theorem VtI.votes {w : World} {b g : Nat} {vs : List VoD} (h : VtI w b g vs) : VotesV w (.slice (some ⟨g, 0, none⟩) vs.length vs.length) vs := by
  refine ⟨_, _, rfl, by have := h.len; unfold maxLen; omega, .inr ⟨g, 0, rfl, h.row.lt, vs.map fun v => v.cells.toArray, ?_, by simp, ?_⟩⟩
  · have e : rowsL (vs.map fun v => v.cells.toArray) = (vs.map VoD.cells).flatten := by simp [rowsL, List.map_map, Function.comp_def]
    rw [e]; exact h.row.range
  · intro p hp
    obtain ⟨i, hi, rfl⟩ := List.mem_iff_getElem.1 hp
    simp only [List.length_zip, List.length_map] at hi
    simp only [List.getElem_zip, List.getElem_map]
    exact ⟨rfl, h.ok _ (List.getElem_mem _)⟩

theorem getD_ok {vs : List VoD} (h : ∀ v ∈ vs, v.ok) (i : Nat) : (vs.getD i zeV).ok := by
  by_cases hi : i < vs.length
  · have e : vs.getD i zeV = vs[i] := by simp [List.getD, List.getElem?_eq_getElem hi]
    rw [e]; exact h _ (List.getElem_mem hi)
  · have e : vs.getD i zeV = zeV := by simp [List.getD, List.getElem?_eq_none (Nat.le_of_not_lt hi)]
    rw [e]; exact zeV_ok

theorem getD_cells {vs : List VoD} {i : Nat} (hi : i < vs.length) : (vs.map VoD.cells)[i]? = some (vs.getD i zeV).cells := by
  rw [List.getElem?_map]; simp [List.getD, List.getElem?_eq_getElem hi]

/-- The cells of one vote of a row. -/
theorem row_cells {w : World} {g : Nat} {vs : List VoD} (h : RowB w g (vs.map VoD.cells)) (ho : ∀ v ∈ vs, v.ok) {i : Nat} (hi : i < vs.length) :
    w.cell? ⟨g, i * 34, none⟩ = some (.bool (vs.getD i zeV).has) ∧ w.cell? ⟨g, i * 34 + 1, none⟩ = some (.int .u64 (vs.getD i zeV).n) :=
by
  have hc := getD_cells hi
  generalize vs.getD i zeV = d at hc ⊢
  have h0 := h.cell (cells34 ho) hc (j := 0) (v := .bool d.has) rfl
  have h1 := h.cell (cells34 ho) hc (j := 1) (v := .int .u64 d.n) rfl
  rw [Nat.add_zero] at h0
  exact ⟨h0, h1⟩
/-! ### What Cast does -/

/-- One validator's turn. -/
def castI (e : Int) (r : List Int) (s : List VoD × Int) (i : Int) : List VoD × Int :=
  if (s.1.getD i.toNat zeV).has = true ∧ e ≤ (s.1.getD i.toNat zeV).n then s else (s.1.set i.toNat ⟨true, e, r⟩, s.2 + 1)

def castK (vs : List VoD) (e : Int) (r : List Int) (l : List Int) (k : Nat) : List VoD × Int := (l.take k).foldl (castI e r) (vs, 0)

theorem castK_zero (vs : List VoD) (e : Int) (r l : List Int) : castK vs e r l 0 = (vs, 0) := rfl

theorem castK_succ {vs : List VoD} {e : Int} {r l : List Int} {k : Nat} (hk : k < l.length) : castK vs e r l (k + 1) = castI e r (castK vs e r l k) (l.getD k 0) := by
  unfold castK
  rw [List.take_add_one, List.foldl_append]
  simp [List.getD, List.getElem?_eq_getElem hk]

theorem castI_len (e : Int) (r : List Int) (s : List VoD × Int) (i : Int) : (castI e r s i).1.length = s.1.length := by
  unfold castI; split <;> simp

theorem castK_len (vs : List VoD) (e : Int) (r l : List Int) : ∀ k, k ≤ l.length → (castK vs e r l k).1.length = vs.length
  | 0, _ => rfl
  | k + 1, h => by rw [castK_succ (by omega), castI_len]; exact castK_len vs e r l k (by omega)

theorem castI_ok {e : Int} {r : List Int} {s : List VoD × Int} (i : Int) (hs : ∀ v ∈ s.1, v.ok) (he : 0 ≤ e ∧ e ≤ 18446744073709551615) (hr : IsBytes 32 r) : ∀ v ∈ (castI e r s i).1, v.ok := by
  unfold castI; split
  · exact hs
  · intro v hv
    rcases List.mem_or_eq_of_mem_set hv with h | rfl
    · exact hs v h
    · exact ⟨he.1, he.2, hr⟩

theorem castK_ok {vs : List VoD} {e : Int} {r l : List Int} (hs : ∀ v ∈ vs, v.ok) (he : 0 ≤ e ∧ e ≤ 18446744073709551615) (hr : IsBytes 32 r) : ∀ k, k ≤ l.length → ∀ v ∈ (castK vs e r l k).1, v.ok
  | 0, _ => hs
  | k + 1, h => by rw [castK_succ (by omega)]; exact castI_ok _ (castK_ok hs he hr k (by omega)) he hr

theorem castI_cnt (e : Int) (r : List Int) (s : List VoD × Int) (i : Int) : s.2 ≤ (castI e r s i).2 ∧ (castI e r s i).2 ≤ s.2 + 1 := by
  unfold castI; split
  · omega
  · show s.2 ≤ s.2 + 1 ∧ s.2 + 1 ≤ s.2 + 1; omega

theorem castK_cnt (vs : List VoD) (e : Int) (r l : List Int) : ∀ k : Nat, k ≤ l.length → 0 ≤ (castK vs e r l k).2 ∧ (castK vs e r l k).2 ≤ k
  | 0, _ => by rw [castK_zero]; simp
  | k + 1, h => by
    have h1 := castK_cnt vs e r l k (by omega)
    have h2 := castI_cnt e r (castK vs e r l k) (l.getD k 0)
    rw [castK_succ (by omega)]
    omega

/-- All of it. -/
def castR (vs : List VoD) (e : Int) (r l : List Int) : List VoD × Int := if vlE l vs.length = 0 then castK vs e r l l.length else (vs, 0)

theorem VotesV.grownOff {w w' : World} {v : Value} {vs : List VoD} {g : Nat} (h : VotesV w v vs) (hg : w.grownBy w' (some g)) (ho : Off g v) : VotesV w' v vs := by
  obtain ⟨a, cap, rfl, hl, hr⟩ := h
  refine ⟨a, cap, rfl, hl, ?_⟩
  rcases hr with h0 | ⟨b, off, rfl, hlt, Xs, h1, h2⟩
  · exact .inl h0
  · by_cases h0 : vs.length = 0
    · exact .inl h0
    have hne : some b ≠ some g := fun e => ho _ _ _ rfl (by omega) (by cases e; rfl)
    exact .inr ⟨b, off, rfl, Nat.lt_of_lt_of_le hlt hg.size, Xs, fun j u hj => by rw [hg.cell_far ⟨b, off + j, none⟩ hlt hne]; exact h1 j u hj, h2.imp fun X d hX => hX⟩
end

/-! EvA -/
section
set_option linter.unusedVariables false
set_option linter.unusedSimpArgs false
open Go.RowKit

set_option maxRecDepth 100000

theorem getD_at {l : List Int} {k : Nat} (hk : k < l.length) : l.getD k 0 = l[k] := by simp [List.getD, List.getElem?_eq_getElem hk]

/-- Element k of a slice of ints. -/
theorem IntsV.at {w : World} {a : Option Addr} {len cap : Nat} {l : List Int} (h : IntsV w (.slice a len cap) l) {k : Nat} (hk : k < l.length) :
    ∃ b off, a = some ⟨b, off, none⟩ ∧ b < w.heap.size ∧ w.cell? ⟨b, off + k, none⟩ = some (.int .i64 (l.getD k 0)) := by
  obtain ⟨⟨a', n, c, e, hl, hm, hr⟩, _⟩ := h
  cases e
  rcases hr with h0 | ⟨b, off, rfl, hb, hc⟩
  · omega
  · exact ⟨b, off, rfl, hb, hc k (by omega)⟩

theorem IntsV.len {w : World} {a : Option Addr} {len cap : Nat} {l : List Int} (h : IntsV w (.slice a len cap) l) : l.length = len ∧ len ≤ maxLen := by
  obtain ⟨⟨a', n, c, e, hl, hm, hr⟩, _⟩ := h
  cases e
  exact ⟨hl, hm⟩

set_option maxHeartbeats 4000000 in
theorem has_any (v : Value) (l : List Int) (n : Int) (w : World) (h : IntsV w v l) :
    Calls Try.prog 30 #[v, .int .i64 n] w fun e w' => e = .returned (.bool (decide (n ∈ l))) ∧ Below w.heap.size w w' := by
  obtain ⟨a, len, cap, rfl⟩ := ints_shape' h.1
  have HI := Lib.hid h
  have HL := Lib.hid h.len
  have hmx := h.len.2
  unfold maxLen at hmx
  obtain ⟨q, hq⟩ : ∃ q, Hid (decide (n ∈ l) = q) := ⟨_, Lib.hid rfl⟩
  rw [hq.out]
  clear h
  go_enter Try.func30, Try.ntmps30
  go_wp2_with fail
  go_loopw [5] (fun i wr => ∃ k : Nat, k ≤ len ∧ i = .int .i64 k ∧ (∀ j, j < k → l.getD j 0 ≠ n) ∧ Below w.heap.size w wr) (fun i _ => len - (intOf i).toNat)
  case atStart => exact ⟨0, Nat.zero_le _, rfl, fun j hj => by omega, Below.refl _ _⟩
  case round =>
    obtain ⟨k, hk, rfl, hno, hbl⟩ := hrel
    have HNO := Lib.hid hno
    have HBL := Lib.hid hbl
    clear hno hbl
    by_cases hlt : k < len
    case neg =>
      obtain rfl : k = len := by omega
      have hqf : q = false := by
        rw [← hq.out]
        simp only [decide_eq_false_iff_not]
        intro hmem
        obtain ⟨j, hj, e⟩ := List.mem_iff_getElem.1 hmem
        exact HNO.out j (by rw [← HL.out.1]; exact hj) (by rw [getD_at hj]; exact e)
      go_wp2_with fail
      go_ret
      exact ⟨by rw [hqf]; rfl, HBL.out⟩
    have hlt' : (k : Int) < len := by omega
    obtain ⟨b, off, rfl, hb, hc⟩ := HI.out.at (k := k) (by rw [HL.out.1]; exact hlt)
    have HC := Lib.hid ((HBL.out.cell (p := ⟨b, off + k, none⟩) hb).trans hc)
    obtain ⟨x, hx⟩ : ∃ x, Hid (l.getD k 0 = x) := ⟨_, Lib.hid rfl⟩
    rw [hx.out] at HC
    clear hc
    by_cases hxn : x = n
    · have hb' : (x == n) = true := by simpa using hxn
      have hqt : q = true := by
        rw [← hq.out]
        simp only [decide_eq_true_eq]
        rw [← hxn, ← hx.out]
        exact getD_mem (by rw [HL.out.1]; exact hlt)
      clear hxn
      go_wp2_with (first
        | ((with_reducible refine at_load (.tmp 14) ?_); refine wpList_load_1 3 (.tmp 14) rfl b (off + k) (.int .i64 x) HC.out rfl _ Try.underlying3 rfl rfl ?_))
      go_ret
      exact ⟨by rw [hqt]; rfl, HBL.out⟩
    · have hb' : (x == n) = false := by simpa using hxn
      have HXN := Lib.hid hxn
      clear hxn
      go_wp2_with (first
        | ((with_reducible refine at_load (.tmp 14) ?_); refine wpList_load_1 3 (.tmp 14) rfl b (off + k) (.int .i64 x) HC.out rfl _ Try.underlying3 rfl rfl ?_))
      go_roundw
      case rel => exact ⟨k + 1, by omega, by go_num, fun j hj => by rcases Nat.lt_succ_iff_lt_or_eq.1 hj with h | rfl; exact HNO.out j h; rw [hx.out]; exact HXN.out, HBL.out⟩
      case measure => simp [intOf]; omega

/-- A number is inserted into an ascending list. -/
def insI : List Int → Int → List Int
  | [], n => [n]
  | x :: l, n => if x < n then x :: insI l n else if x = n then x :: l else n :: x :: l

theorem insI_at : ∀ {l : List Int} {n : Int} {k : Nat}, k ≤ l.length → (∀ j, j < k → l.getD j 0 < n) → (k < l.length → n ≤ l.getD k 0) → insI l n = if k < l.length ∧ l.getD k 0 = n then l else l.take k ++ n :: l.drop k
  | [], n, k, hk, _, _ => by
    obtain rfl : k = 0 := by simpa using hk
    simp [insI]
  | x :: l, n, 0, _, _, h => by
    have h0 := h (by simp)
    simp at h0
    unfold insI
    rw [if_neg (by omega)]
    by_cases e : x = n <;> simp [e]
  | x :: l, n, k + 1, hk, h1, h2 => by
    have hx := h1 0 (by omega)
    simp at hx
    unfold insI
    rw [if_pos hx, insI_at (l := l) (n := n) (k := k) (by simpa using hk) (fun j hj => by simpa using h1 (j + 1) (by omega)) (fun hkl => by simpa using h2 (by simpa using hkl))]
    by_cases e : k < l.length ∧ l.getD k 0 = n
    · rw [if_pos e, if_pos (by simpa using e)]
    · rw [if_neg e, if_neg (by simpa using e)]
      simp

theorem insI_mem : ∀ {l : List Int} {n x : Int}, x ∈ insI l n ↔ x = n ∨ x ∈ l
  | [], n, x => by simp [insI]
  | y :: l, n, x => by
    unfold insI
    split
    · rw [List.mem_cons, insI_mem, List.mem_cons]
      constructor
      · rintro (h | h | h)
        · exact .inr (.inl h)
        · exact .inl h
        · exact .inr (.inr h)
      · rintro (h | h | h)
        · exact .inr (.inl h)
        · exact .inl h
        · exact .inr (.inr h)
    · split
      · rename_i e
        rw [List.mem_cons, e]
        constructor
        · rintro (h | h)
          · exact .inl h
          · exact .inr (.inr h)
        · rintro (h | h | h)
          · exact .inl h
          · exact .inl h
          · exact .inr h
      · rw [List.mem_cons]

theorem insI_len : ∀ (l : List Int) (n : Int), l.length ≤ (insI l n).length ∧ (insI l n).length ≤ l.length + 1
  | [], n => by simp [insI]
  | y :: l, n => by
    have := insI_len l n
    unfold insI
    split
    · simp only [List.length_cons]; omega
    · split <;> simp only [List.length_cons] <;> omega

theorem insI_has {l : List Int} {n : Int} (hs : l.Pairwise (· < ·)) (h : n ∈ l) : insI l n = l := by
  induction l with
  | nil => cases h
  | cons y l ih =>
    rw [List.pairwise_cons] at hs
    unfold insI
    rcases List.mem_cons.1 h with rfl | h
    · rw [if_neg (by omega), if_pos rfl]
    · rw [if_pos (hs.1 _ h), ih hs.2 h]

theorem insI_sorted {l : List Int} {n : Int} (hs : l.Pairwise (· < ·)) : (insI l n).Pairwise (· < ·) := by
  induction l with
  | nil => simp [insI]
  | cons y l ih =>
    rw [List.pairwise_cons] at hs
    unfold insI
    split
    · rename_i hy
      rw [List.pairwise_cons]
      refine ⟨fun x hx => ?_, ih hs.2⟩
      rcases insI_mem.1 hx with rfl | h
      · exact hy
      · exact hs.1 x h
    · split
      · rw [List.pairwise_cons]; exact hs
      · rename_i h1 h2
        rw [List.pairwise_cons, List.pairwise_cons]
        refine ⟨fun x hx => ?_, hs⟩
        rcases List.mem_cons.1 hx with rfl | h
        · omega
        · have := hs.1 x h; omega

theorem insI_new {l : List Int} {n : Int} (hs : l.Pairwise (· < ·)) (h : n ∉ l) : (insI l n).length = l.length + 1 := by
  induction l with
  | nil => simp [insI]
  | cons y l ih =>
    rw [List.pairwise_cons] at hs
    have hy : y ≠ n := fun e => h (by rw [e]; simp)
    unfold insI
    by_cases hlt : y < n
    · rw [if_pos hlt, List.length_cons, ih hs.2 (fun hm => h (List.mem_cons_of_mem _ hm)), List.length_cons]
    · rw [if_neg hlt, if_neg hy]; simp
end

/-! WeA -/
section
set_option linter.unusedVariables false
set_option linter.unusedSimpArgs false
open Go.RowKit

set_option maxRecDepth 100000

/-- An element of a slice of roots. -/
def RtEl (P : Value → Prop) (w : World) (X : Array Value) (r : List Int) : Prop := X = (bytesL r).toArray ∧ IsBytes 32 r

theorem rtOK : ElOK 32 RtEl where
  size := fun h => by rw [h.1, List.size_toArray, bytesL_len h.2]
  one := fun h v hv => by rw [h.1] at hv; exact bytesL_one _ v (by simpa using hv)
  mono := fun h _ => h
  grown := fun h _ _ => h
  off := fun h _ => h

/-- A slice of roots. -/
abbrev RootsV (w : World) (v : Value) (rs : List (List Int)) : Prop := ElV RtEl 32 w v rs

theorem RootsV.call {w w' : World} {v : Value} {rs : List (List Int)} (h : RootsV w v rs) (hb : Below w.heap.size w w') : RootsV w' v rs := ElV.below rtOK h hb

theorem RootsV.elem {w : World} {a : Option Addr} {l cap : Nat} {rs : List (List Int)} (h : RootsV w (.slice a l cap) rs) {i : Nat} (hi : i < rs.length) :
    ∃ b off, a = some ⟨b, off, none⟩ ∧ l = rs.length ∧ b < w.heap.size ∧ w.rangeAt b (off + i * 32) (bytesL rs[i]) ∧ IsBytes 32 rs[i] := by
  obtain ⟨b, off, X, h1, h2, h3, h4, ⟨h5, h6⟩, _⟩ := ElV.at rtOK h hi
  exact ⟨b, off, h1, h2, h3, by rw [h5] at h4; exact h4, h6⟩

/-- Whether validator k counts for these roots. -/
def weiP (vs : List VoD) (es : List Int) (rs : List (List Int)) (k : Nat) : Bool := (vs.getD k zeV).has && !decide ((k : Int) ∈ es) && decide ((vs.getD k zeV).r ∈ rs)

def weiK (vs : List VoD) (es : List Int) (bs : List Int) (rs : List (List Int)) : Nat → Int
  | 0 => 0
  | k + 1 => if weiP vs es rs k then IntKind.u64.wrap (weiK vs es bs rs k + bs.getD k 0) else weiK vs es bs rs k

def weiN (vs : List VoD) (es : List Int) (bs : List Int) (rs : List (List Int)) : Int := weiK vs es bs rs (min bs.length vs.length)

theorem weiK_yes {vs : List VoD} {es bs : List Int} {rs : List (List Int)} {k : Nat} (h : weiP vs es rs k = true) : weiK vs es bs rs (k + 1) = IntKind.u64.wrap (weiK vs es bs rs k + bs.getD k 0) := by
  show (if weiP vs es rs k = true then IntKind.u64.wrap (weiK vs es bs rs k + bs.getD k 0) else weiK vs es bs rs k) = _
  rw [if_pos h]

theorem weiK_no {vs : List VoD} {es bs : List Int} {rs : List (List Int)} {k : Nat} (h : weiP vs es rs k = false) : weiK vs es bs rs (k + 1) = weiK vs es bs rs k := by
  show (if weiP vs es rs k = true then IntKind.u64.wrap (weiK vs es bs rs k + bs.getD k 0) else weiK vs es bs rs k) = _
  rw [if_neg (by rw [h]; simp)]
end

/-! WeB -/
section
set_option linter.unusedVariables false
set_option linter.unusedSimpArgs false
open Go.RowKit

set_option maxRecDepth 100000

theorem NumsV.shapeW {w : World} {v : Value} {l : List Int} (h : NumsV w v l) : ∃ a k, v = .slice a l.length k ∧ l.length ≤ maxLen := by
  obtain ⟨⟨a, n, c, e, hl, hm, hr⟩, _⟩ := h
  cases e; subst hl
  exact ⟨a, c, rfl, hm⟩

theorem NumsV.elemW {w : World} {a : Option Addr} {n c : Nat} {l : List Int} (h : NumsV w (.slice a n c) l) {k : Nat} (hk : k < l.length) :
    ∃ b off, a = some ⟨b, off, none⟩ ∧ b < w.heap.size ∧ w.cell? ⟨b, off + k, none⟩ = some (.int .u64 (l.getD k 0)) := by
  obtain ⟨⟨a', n', c', e, hl, hm, hr⟩, _⟩ := h
  cases e
  rcases hr with h0 | ⟨b, off, rfl, hb, hc⟩
  · omega
  · exact ⟨b, off, rfl, hb, hc k (by omega)⟩
end

/-! WeC -/
section
set_option linter.unusedVariables false
set_option linter.unusedSimpArgs false
open Go.RowKit

set_option maxRecDepth 100000

/-- The balances of the first k validators that are not in es. -/
def totK (es bs : List Int) : Nat → Int
  | 0 => 0
  | k + 1 => if (k : Int) ∈ es then totK es bs k else IntKind.u64.wrap (totK es bs k + bs.getD k 0)

theorem totK_yes {es bs : List Int} {k : Nat} (h : decide ((k : Int) ∈ es) = true) : totK es bs (k + 1) = totK es bs k := by
  show (if (k : Int) ∈ es then totK es bs k else IntKind.u64.wrap (totK es bs k + bs.getD k 0)) = _
  rw [if_pos (of_decide_eq_true h)]

theorem totK_no {es bs : List Int} {k : Nat} (h : decide ((k : Int) ∈ es) = false) : totK es bs (k + 1) = IntKind.u64.wrap (totK es bs k + bs.getD k 0) := by
  show (if (k : Int) ∈ es then totK es bs k else IntKind.u64.wrap (totK es bs k + bs.getD k 0)) = _
  rw [if_neg (of_decide_eq_false h)]
end

/-! TrB -/
section
set_option linter.unusedVariables false
set_option linter.unusedSimpArgs false
open Go.RowKit

set_option maxRecDepth 100000

theorem status_any (n : Int) (w : World) :
    Calls Try.prog 32 #[.int .i64 n] w fun e w' => e = .returned (.bool (decide (0 ≤ n ∧ n ≤ 2))) ∧ Below w.heap.size w w' := by
  by_cases h0 : 0 ≤ n
  · by_cases h1 : n ≤ 2
    · have hq : decide (0 ≤ n ∧ n ≤ 2) = true := decide_eq_true ⟨h0, h1⟩
      rw [hq]
      clear hq
      go_enter Try.func32, Try.ntmps32
      go_wp2_with fail
      go_ret
      exact ⟨rfl, Below.refl _ _⟩
    · have hq : decide (0 ≤ n ∧ n ≤ 2) = false := decide_eq_false (fun h => h1 h.2)
      rw [hq]
      have h1' : (n ≤ 2) = False := eq_false h1
      clear hq h1
      go_enter Try.func32, Try.ntmps32
      go_wp2_with fail
      go_ret
      exact ⟨rfl, Below.refl _ _⟩
  · have hq : decide (0 ≤ n ∧ n ≤ 2) = false := decide_eq_false (fun h => h0 h.1)
    rw [hq]
    have h0' : (0 ≤ n) = False := eq_false h0
    clear hq h0
    go_enter Try.func32, Try.ntmps32
    go_wp2_with fail
    go_ret
    exact ⟨rfl, Below.refl _ _⟩

theorem build_nd (x : BkD) (up st : Int) (hx : x.ok) (u : World) : (Instr.build 54 #[(0, .agg (flatP x.parts)), (1, .int .i64 up), (2, .int .i64 st)]).run Try.prog u = .ok (.agg (⟨x, up, st⟩ : NdD).cells.toArray) u := by
  have hl := BkD.flen hx
  refine build_struct (zero := flatP [zeBkP.flatten, [.int .i64 0], [.int .i64 0]]) (fun w => by kernel_rfl) Try.underlying54 (places := #[(0, 238), (238, 1), (239, 1)]) (fun w => by kernel_rfl) ?_ u
  show Instr.fill _ (flatP [zeBkP.flatten, [.int .i64 0], [.int .i64 0]]) [(0, .agg (flatP x.parts)), (1, .int .i64 up), (2, .int .i64 st)] = _
  rw [fill_part 0 zeBkP.flatten x.parts.flatten rfl rfl (by rw [hl]; rfl) rfl (by rw [hl]; rfl), fill_part (i := 1) (o := 238) 1 [.int .i64 0] [.int .i64 up] rfl rfl rfl (by simp [offP, hl]) rfl, fill_part (i := 2) (o := 239) 2 [.int .i64 0] [.int .i64 st] rfl rfl rfl (by simp [offP, hl]) rfl]
  unfold Instr.fill
  simp [flatP, NdD.cells]

theorem bz_tree (u : World) : (Instr.build 43 #[]).run Try.prog u = .ok (.agg #[.slice none 0 0]) u := by kernel_rfl

theorem b_tree (a : Option Addr) (n c : Nat) (u : World) : (Instr.build 43 #[(0, .slice a n c)]).run Try.prog u = .ok (.agg #[.slice a n c]) u := by kernel_rfl

theorem bel_node {X : Array Value} (hX : X.size = 240) (u : World) : (Instr.buildSlice 41 1 #[(0, .agg X)]).run Try.prog u = .ok (.slice (some ⟨u.heap.size, 0, none⟩) 1 1) (u.alloc (.cells X 54)) :=
  buildEl (P := Try.prog) (t := 41) (e := 54) (Z := flatP (zeBkP ++ [[.int .i64 0], [.int .i64 0]])) (X := X) (sz := 240) Try.underlying41 (fun w => by kernel_rfl) (by kernel_rfl) (by rfl) hX (by omega) (by omega) u

/-- One node in a block of its own. -/
theorem nodes_one {w : World} {g : Nat} {d : NdD} (h : Blk w g d.cells.toArray) (hd : d.ok) : NodesV w (.slice (some ⟨g, 0, none⟩) 1 1) [d] := by
  refine ⟨_, 1, rfl, by unfold maxLen; simp, .inr ⟨g, 0, rfl, h.lt, [d.cells.toArray], ?_, rfl, ?_⟩⟩
  · have := h.rng
    simpa [rowsL] using this
  · intro p hp
    simp only [List.zip_cons_cons, List.zip_nil_right, List.mem_singleton] at hp
    rw [hp]; exact ⟨rfl, hd⟩

set_option maxHeartbeats 4000000 in
theorem newt_any (x : BkD) (st : Int) (w : World) (hx : x.ok) (hst : -9223372036854775808 ≤ st ∧ st ≤ 9223372036854775807) :
    Calls Try.prog 24 #[.agg (flatP x.parts), .int .i64 st] w fun e w' => ∃ v, e = .returned (.agg #[v]) ∧ NodesV w' v [⟨x, -1, st⟩] ∧ New w.heap.size v ∧ CapOK v ∧ Below w.heap.size w w' := by
  have hok : (⟨x, -1, st⟩ : NdD).ok := ⟨hx, by show (-9223372036854775808 : Int) ≤ -1 ∧ (-1 : Int) ≤ _; omega, hst⟩
  have HN := Lib.hid (fun u => build_nd x (-1) st hx u)
  obtain ⟨d, hd⟩ : ∃ d : NdD, Hid ((⟨x, -1, st⟩ : NdD) = d) := ⟨_, Lib.hid rfl⟩
  rw [hd.out] at HN hok ⊢
  obtain ⟨Y, hY⟩ : ∃ Y, Hid (d.cells.toArray = Y) := ⟨_, Lib.hid rfl⟩
  have hsY : Hid (Y.size = 240) := by show Y.size = 240; rw [← hY.out, List.size_toArray, NdD.len hok]
  have hsX : (flatP x.parts).size = 238 := by rw [flatP_size, BkD.flen hx]
  have HOK := Lib.hid hok
  rw [hY.out] at HN
  obtain ⟨X, hX⟩ : ∃ X, flatP x.parts = X := ⟨_, rfl⟩
  rw [hX] at HN hsX ⊢
  have hiX : (Try.prog.info? 52).map (·.size) = some X.size := by rw [hsX]; kernel_rfl
  have hi1 : (Try.prog.info? 43).map (·.size) = some 1 := by kernel_rfl
  obtain ⟨hz1, hst1⟩ := zero_array (P := Try.prog) (t := 43) (n := 1) #[.slice none 0 0] (by kernel_rfl) rfl (by kernel_rfl)
  have HBA := Lib.hid (((Below.refl w.heap.size w).alloc (Nat.le_refl _) (.cells X 52)).alloc (by simp) (.cells #[.slice none 0 0] 43))
  have HX : Hid (Blk ((w.alloc (.cells X 52)).alloc (.cells #[.slice none 0 0] 43)) w.heap.size X) := (Blk.new rfl).alloc _
  have HZ : Hid (Blk ((w.alloc (.cells X 52)).alloc (.cells #[.slice none 0 0] 43)) (w.heap.size + 1) #[.slice none 0 0]) := Blk.new (by simp)
  clear hX hx hok hst1
  go_enter Try.func24, Try.ntmps24
  go_wp2_with (first
    | ((with_reducible refine at_load (.tmp 2) ?_); refine wpList_load_g 52 (.tmp 2) rfl w.heap.size rfl X _ HX.out Try.underlying52 rfl hiX rfl ?_)
    | ((with_reducible refine at_build (some 7) ?_); refine wpList_build_g 54 _ rfl #[(0, .agg X), (1, .int .i64 (-1)), (2, .int .i64 st)] (by simp [Act.eval, Act.put]) (.agg Y) (HN.out _) rfl ?_)
    | ((with_reducible refine at_buildSliceE (some 8) ?_); refine wpList_buildSliceE rfl 41 1 _ rfl #[(0, .agg Y)] (by simp [Act.eval, Act.put]) _ (bel_node hsY.out _) ?_)
    | ((with_reducible refine at_build (some 9) ?_); refine wpList_build_g 43 _ rfl #[(0, .slice (some ⟨((w.alloc (.cells X 52)).alloc (.cells #[.slice none 0 0] 43)).heap.size, 0, none⟩) 1 1)] (by simp [Act.eval, Act.put]) (.agg #[.slice (some ⟨((w.alloc (.cells X 52)).alloc (.cells #[.slice none 0 0] 43)).heap.size, 0, none⟩) 1 1]) (b_tree _ _ _ _) rfl ?_)
    | ((with_reducible refine at_store (.tmp 4) ?_); refine wpList_store_blk rfl 43 (.tmp 4) _ rfl (w.heap.size + 1) #[.slice (some ⟨((w.alloc (.cells X 52)).alloc (.cells #[.slice none 0 0] 43)).heap.size, 0, none⟩) 1 1] rfl rfl #[.slice none 0 0] (HZ.out.alloc _) rfl hi1 (by simp [Value.oneCell']) ?_; intro w5 U5 B5; have HR5 := Lib.hid B5; have HU5 := Lib.hid U5; clear U5 B5))
  have hb5 : Below w.heap.size w w5 := HU5.out.below (HBA.out.alloc HBA.out.size (.cells Y 54)) (by omega)
  have hYb : Blk w5 ((w.alloc (.cells X 52)).alloc (.cells #[.slice none 0 0] 43)).heap.size d.cells.toArray := by
    rw [hY.out]
    exact HU5.out.blk (Blk.new rfl) (by simp)
  refine bodyPost_ret (res_cellB rfl rfl HR5.out Try.underlying43 rfl hi1) rfl ⟨_, rfl, nodes_one hYb HOK.out, ?_, (fun a n c e => by cases e; omega), hb5⟩
  intro z l c e _
  cases e
  simp
  omega

/-- What Insert makes of a tree. -/
def slotAt (ns : List NdD) (i : Int) : Int := ((ns[i.toNat]?).map (fun d => d.b.slot)).getD 0

def insT (ns : List NdD) (x : BkD) (st : Int) : List NdD × Int :=
  if ¬ (0 ≤ st ∧ st ≤ 2) then ([], 2) else if 0 ≤ findN ns x.root then ([], 9) else if findN ns x.parent < 0 then ([], 10) else if x.slot ≤ slotAt ns (findN ns x.parent) then ([], 14) else if 4096 ≤ ns.length then ([], 11) else (ns ++ [⟨x, findN ns x.parent, st⟩], 0)

/-- The row behind a slice of nodes. -/
theorem NodesV.row {w : World} {a : Option Addr} {m cap : Nat} {ns : List NdD} (h : NodesV w (.slice a m cap) ns) :
    ∃ Xs, (∀ P u, AllEl NdEl P u Xs ns) ∧ (ns.length = 0 ∨ ∃ b off, a = some ⟨b, off, none⟩ ∧ b < w.heap.size ∧ w.rangeAt b off (rowsL Xs)) := by
  obtain ⟨a', cap', e, hl, hr⟩ := h
  cases e
  rcases hr with h0 | ⟨b, off, rfl, hlt, Xs, h1, h2⟩
  · obtain rfl := List.eq_nil_of_length_eq_zero h0
    exact ⟨[], fun P u => AllEl.nil _ _, .inl rfl⟩
  · exact ⟨Xs, fun P u => h2.imp fun X d hX => hX, .inr ⟨b, off, rfl, hlt, h1⟩⟩

theorem row_at {w u : World} {a : Option Addr} {n : Nat} {Ys : List (Array Value)} (h : n = 0 ∨ ∃ b off, a = some ⟨b, off, none⟩ ∧ b < w.heap.size ∧ w.rangeAt b off (rowsL Ys)) (hb : Below w.heap.size w u) : n = 0 ∨ ∃ b off, a = some ⟨b, off, none⟩ ∧ u.rangeAt b off (rowsL Ys) := by
  rcases h with h | ⟨b, off, e, hlt, hr⟩
  · exact .inl h
  · exact .inr ⟨b, off, e, Below.rng hb hlt hr⟩

theorem OwnEl.newEl {α : Type} {sz : Nat} {El : (Value → Prop) → World → Array Value → α → Prop} {e : TypeId} {w : World} {B : Nat} {v : Value} {ds : List α} (h : OwnEl El e sz w B v ds) : New B v := by
  obtain ⟨Xs, h3, _⟩ := h
  intro z l c e' _
  rcases h3.2 with ⟨rfl, _⟩ | ⟨s, cap, cur, rfl, hb, _⟩
  · cases e'
  · cases e'; exact hb

/-- The variables of Insert. -/
structure InsS (w : World) (T X Z : Array Value) (u : World) : Prop where
  t : Blk u w.heap.size T
  x : Blk u (w.heap.size + 1) X
  z : Blk u (w.heap.size + 2) Z
  b : Below w.heap.size w u

structure InsR (w : World) (T X : Array Value) (u : World) : Prop where
  t : Blk u w.heap.size T
  x : Blk u (w.heap.size + 1) X
  b : Below w.heap.size w u

theorem InsS.r {w u : World} {T X Z : Array Value} (h : InsS w T X Z u) : InsR w T X u := ⟨h.t, h.x, h.b⟩

theorem InsS.call {w u u' : World} {T X Z : Array Value} (h : InsS w T X Z u) (hb : Below u.heap.size u u') : InsS w T X Z u' := ⟨h.t.call hb, h.x.call hb, h.z.call hb, h.b.trans (hb.mono h.b.size)⟩

theorem grown_none {w w' : World} (h : w.grownBy w' none) : Below w.heap.size w w' := ⟨h.os, h.tape, h.output, h.size, fun k hk => h.block k hk (by simp)⟩

/-- What Insert promises. -/
def InsTE (ns : List NdD) (x : BkD) (st : Int) (w : World) (e : Ending) (w' : World) : Prop :=
  ∃ v', e = .returned (.tuple #[.agg #[v'], .int .i64 (insT ns x st).2]) ∧ NodesV w' v' (insT ns x st).1 ∧ New w.heap.size v' ∧ CapOK v' ∧ Below w.heap.size w w'

theorem nodes_nil (w : World) : NodesV w (.slice none 0 0) [] := ⟨none, 0, rfl, Nat.zero_le _, .inl rfl⟩

set_option maxHeartbeats 16000000 in
theorem insn_any (v : Value) (ns : List NdD) (x : BkD) (st : Int) (w : World) (hN : NodesV w v ns) (hx : x.ok) (hst : -9223372036854775808 ≤ st ∧ st ≤ 9223372036854775807) :
    Calls Try.prog 26 #[.agg #[v], .agg (flatP x.parts), .int .i64 st] w (InsTE ns x st w) := by
  obtain ⟨a, cap, rfl, hmx⟩ := hN.shape
  unfold maxLen at hmx
  have HN := Lib.hid hN
  have HX := Lib.hid hx
  have HST := Lib.hid hst
  have HFR := Lib.hid (fun u (hu : Below w.heap.size w u) => find_any _ ns x.root u (hN.call hu) hx.2.2.2.1)
  have HFP := Lib.hid (fun u (hu : Below w.heap.size w u) => find_any _ ns x.parent u (hN.call hu) hx.2.2.2.2.1)
  have HSS := Lib.hid (fun u => status_any st u)
  have hsX : (flatP x.parts).size = 238 := by rw [flatP_size, BkD.flen hx]
  have HBK : Hid (∀ u b, Blk u b (flatP x.parts) → BkAt u b 0 x) := fun u b hu => bk_at (Blk.rng hu) hx
  obtain ⟨X, hX⟩ : ∃ X, flatP x.parts = X := ⟨_, rfl⟩
  rw [hX] at HBK hsX ⊢
  have HXE := Lib.hid hX
  have hiX : (Try.prog.info? 52).map (·.size) = some X.size := by rw [hsX]; kernel_rfl
  have hi1 : (Try.prog.info? 43).map (·.size) = some 1 := by kernel_rfl
  have hir : (Try.prog.info? 28).map (·.size) = some (bytesL x.root).length := by rw [bytesL_len hx.2.2.2.1]; kernel_rfl
  have hip : (Try.prog.info? 28).map (·.size) = some (bytesL x.parent).length := by rw [bytesL_len hx.2.2.2.2.1]; kernel_rfl
  obtain ⟨hz1, hst1⟩ := zero_array (P := Try.prog) (t := 43) (n := 1) #[.slice none 0 0] (by kernel_rfl) rfl (by kernel_rfl)
  obtain ⟨m, hm⟩ : ∃ m, Hid (ns.length = m) := ⟨_, Lib.hid rfl⟩
  rw [hm.out] at hmx HFR HFP HN ⊢
  have S0 : Hid (InsS w #[.slice a m cap] X #[.slice none 0 0] (((w.alloc (.cells #[.slice a m cap] 43)).alloc (.cells X 52)).alloc (.cells #[.slice none 0 0] 43))) :=
    ⟨((Blk.new rfl).alloc _).alloc _, (Blk.new (by simp)).alloc _, Blk.new (by simp), (((Below.refl w.heap.size w).alloc (Nat.le_refl _) (.cells #[.slice a m cap] 43)).alloc (by simp) (.cells X 52)).alloc (by simp; omega) (.cells #[.slice none 0 0] 43)⟩
  obtain ⟨fr, hfr⟩ : ∃ z, findN ns x.root = z := ⟨_, rfl⟩
  obtain ⟨fp, hfp⟩ : ∃ z, findN ns x.parent = z := ⟨_, rfl⟩
  have hfpr := findN_rng ns x.parent
  rw [hfr] at HFR
  rw [hfp] at HFP hfpr
  rw [hm.out] at hfpr
  obtain ⟨R1, h1⟩ : ∃ z, bytesL x.root = z := ⟨_, rfl⟩
  obtain ⟨R2, h2⟩ : ∃ z, bytesL x.parent = z := ⟨_, rfl⟩
  have HB1 := Lib.hid h1
  have HB2 := Lib.hid h2
  rw [h1] at HFR hir
  rw [h2] at HFP hip
  clear hN hx hX hst1 h1 h2
  unfold InsTE
  obtain ⟨res, hres⟩ : ∃ z, insT ns x st = z := ⟨_, rfl⟩
  rw [hres]
  unfold insT at hres
  rw [hfr, hfp, hm.out] at hres
  by_cases hs : ¬ (0 ≤ st ∧ st ≤ 2)
  · skip
    rw [if_pos hs] at hres
    have hqs : Hid (decide (0 ≤ st ∧ st ≤ 2) = false) := decide_eq_false hs
    clear hs
    go_enter Try.func26, Try.ntmps26
    go_wp2_with (first
      | ((with_reducible refine at_build (some 12) ?_); refine wpList_build_g 43 _ rfl #[] (by simp) (.agg #[.slice none 0 0]) (bz_tree _) rfl ?_)
      | ((with_reducible refine at_store (.tmp 6) ?_); refine wpList_store_blk rfl 43 (.tmp 6) _ rfl (w.heap.size + 2) #[.slice none 0 0] rfl rfl #[.slice none 0 0] S1.out.z rfl hi1 (by simp [Value.oneCell']) ?_; intro w9 U9 B9; have HR9 := Lib.hid B9; have HB9 := Lib.hid (U9.below S1.out.b (by omega)); clear U9 B9)
      | (go_at_call 32; refine (HSS.out _).mono ?_; rintro e w1 ⟨rfl, hb1⟩; rw [hqs.out]; have S1 := Lib.hid (S0.out.call hb1); clear hb1)
      | fail)
    exact bodyPost_ret (res_cell_tmp rfl rfl rfl HR9.out Try.underlying43 rfl hi1) rfl ⟨_, by rw [← hres]; rfl, by rw [← hres]; exact nodes_nil _, New.nil _, CapOK.nil, HB9.out⟩
  rw [if_neg hs] at hres
  have hqs : Hid (decide (0 ≤ st ∧ st ≤ 2) = true) := decide_eq_true (Classical.not_not.1 hs)
  clear hs
  by_cases h9 : 0 ≤ fr
  · skip
    rw [if_pos h9] at hres
    have h9' : ¬ fr < 0 := by omega
    go_enter Try.func26, Try.ntmps26
    go_wp2_with (first
      | ((with_reducible refine at_build (some 18) ?_); refine wpList_build_g 43 _ rfl #[] (by simp) (.agg #[.slice none 0 0]) (bz_tree _) rfl ?_)
      | ((with_reducible refine at_store (.tmp 6) ?_); refine wpList_store_blk rfl 43 (.tmp 6) _ rfl (w.heap.size + 2) #[.slice none 0 0] rfl rfl #[.slice none 0 0] S2.out.z rfl hi1 (by simp [Value.oneCell']) ?_; intro w9 U9 B9; have HR9 := Lib.hid B9; have HB9 := Lib.hid (U9.below S2.out.b (by omega)); clear U9 B9)
      | (go_at_call 29; refine (HFR.out _ S1.out.b).mono ?_; rintro e w2 ⟨rfl, hb2⟩; have S2 := Lib.hid (S1.out.call hb2); clear hb2)
      | (go_at_call 32; refine (HSS.out _).mono ?_; rintro e w1 ⟨rfl, hb1⟩; rw [hqs.out]; have S1 := Lib.hid (S0.out.call hb1); clear hb1)
      | ((with_reducible refine at_load (.tmp 14) ?_); refine wpList_load_rng 28 (.tmp 14) rfl (w.heap.size + 1) 67 R1 (by have := (HBK.out _ _ S1.out.x).root; rw [Nat.zero_add, HB1.out] at this; exact this) rfl _ Try.underlying28 rfl hir rfl ?_)
      | ((with_reducible refine at_load (.tmp 3) ?_); refine wpList_load_g 43 (.tmp 3) rfl w.heap.size rfl #[.slice a m cap] _ S1.out.t Try.underlying43 rfl hi1 rfl ?_)
      | fail)
    exact bodyPost_ret (res_cell_tmp rfl rfl rfl HR9.out Try.underlying43 rfl hi1) rfl ⟨_, by rw [← hres]; rfl, by rw [← hres]; exact nodes_nil _, New.nil _, CapOK.nil, HB9.out⟩
  rw [if_neg h9] at hres
  have h9 : (0 ≤ fr) = False := eq_false h9
  by_cases h10 : fp < 0
  · skip
    rw [if_pos h10] at hres
    go_enter Try.func26, Try.ntmps26
    go_wp2_with (first
      | ((with_reducible refine at_load (.tmp 20) ?_); refine wpList_load_rng 28 (.tmp 20) rfl (w.heap.size + 1) 99 R2 (by have := (HBK.out _ _ S2.out.x).parent; rw [Nat.zero_add, HB2.out] at this; exact this) rfl _ Try.underlying28 rfl hip rfl ?_)
      | ((with_reducible refine at_load (.tmp 3) ?_); refine wpList_load_g 43 (.tmp 3) rfl w.heap.size rfl #[.slice a m cap] _ S2.out.t Try.underlying43 rfl hi1 rfl ?_)
      | ((with_reducible refine at_build (some 25) ?_); refine wpList_build_g 43 _ rfl #[] (by simp) (.agg #[.slice none 0 0]) (bz_tree _) rfl ?_)
      | ((with_reducible refine at_store (.tmp 6) ?_); refine wpList_store_blk rfl 43 (.tmp 6) _ rfl (w.heap.size + 2) #[.slice none 0 0] rfl rfl #[.slice none 0 0] S3.out.z rfl hi1 (by simp [Value.oneCell']) ?_; intro w9 U9 B9; have HR9 := Lib.hid B9; have HB9 := Lib.hid (U9.below S3.out.b (by omega)); clear U9 B9)
      | (go_at_call 29; refine (HFP.out _ S2.out.b).mono ?_; rintro e w3 ⟨rfl, hb3⟩; have S3 := Lib.hid (S2.out.call hb3); clear hb3)
      | (go_at_call 29; refine (HFR.out _ S1.out.b).mono ?_; rintro e w2 ⟨rfl, hb2⟩; have S2 := Lib.hid (S1.out.call hb2); clear hb2)
      | (go_at_call 32; refine (HSS.out _).mono ?_; rintro e w1 ⟨rfl, hb1⟩; rw [hqs.out]; have S1 := Lib.hid (S0.out.call hb1); clear hb1)
      | ((with_reducible refine at_load (.tmp 14) ?_); refine wpList_load_rng 28 (.tmp 14) rfl (w.heap.size + 1) 67 R1 (by have := (HBK.out _ _ S1.out.x).root; rw [Nat.zero_add, HB1.out] at this; exact this) rfl _ Try.underlying28 rfl hir rfl ?_)
      | ((with_reducible refine at_load (.tmp 3) ?_); refine wpList_load_g 43 (.tmp 3) rfl w.heap.size rfl #[.slice a m cap] _ S1.out.t Try.underlying43 rfl hi1 rfl ?_)
      | fail)
    exact bodyPost_ret (res_cell_tmp rfl rfl rfl HR9.out Try.underlying43 rfl hi1) rfl ⟨_, by rw [← hres]; rfl, by rw [← hres]; exact nodes_nil _, New.nil _, CapOK.nil, HB9.out⟩
  rw [if_neg h10] at hres
  obtain ⟨k, rfl⟩ : ∃ k : Nat, fp = k := ⟨fp.toNat, by omega⟩
  have h10' : ((k : Int) < 0) = False := eq_false h10
  clear h10
  have hk : k < m := by omega
  have hk' : (k : Int) < m := by omega
  have hkn : k < ns.length := by rw [hm.out]; exact hk
  obtain ⟨b, off, rfl, hlm, hbb, hna, hok⟩ := HN.out.elem hkn
  have hsl : slotAt ns (k : Int) = ns[k].b.slot := by simp [slotAt, List.getElem?_eq_getElem hkn]
  rw [hsl] at hres
  have HSL := Lib.hid hna.bk.slot
  obtain ⟨s1, hs1⟩ : ∃ z, ns[k].b.slot = z := ⟨_, rfl⟩
  obtain ⟨s0, hs0⟩ : ∃ z, x.slot = z := ⟨_, rfl⟩
  rw [hs1] at HSL hres
  rw [hs0] at hres
  have HS0 := Lib.hid hs0
  clear hna hok hsl hs1 hs0 hlm
  by_cases h14 : s0 ≤ s1
  · skip
    rw [if_pos h14] at hres
    go_enter Try.func26, Try.ntmps26
    go_wp2_with (first
      | ((with_reducible refine at_load (.tmp 20) ?_); refine wpList_load_rng 28 (.tmp 20) rfl (w.heap.size + 1) 99 R2 (by have := (HBK.out _ _ S2.out.x).parent; rw [Nat.zero_add, HB2.out] at this; exact this) rfl _ Try.underlying28 rfl hip rfl ?_)
      | ((with_reducible refine at_load (.tmp 3) ?_); refine wpList_load_g 43 (.tmp 3) rfl w.heap.size rfl #[.slice (some ⟨b, off, none⟩) m cap] _ S2.out.t Try.underlying43 rfl hi1 rfl ?_)
      | (go_at_call 29; refine (HFP.out _ S2.out.b).mono ?_; rintro e w3 ⟨rfl, hb3⟩; have S3 := Lib.hid (S2.out.call hb3); clear hb3)
      | (go_at_call 29; refine (HFR.out _ S1.out.b).mono ?_; rintro e w2 ⟨rfl, hb2⟩; have S2 := Lib.hid (S1.out.call hb2); clear hb2)
      | (go_at_call 32; refine (HSS.out _).mono ?_; rintro e w1 ⟨rfl, hb1⟩; rw [hqs.out]; have S1 := Lib.hid (S0.out.call hb1); clear hb1)
      | ((with_reducible refine at_load (.tmp 14) ?_); refine wpList_load_rng 28 (.tmp 14) rfl (w.heap.size + 1) 67 R1 (by have := (HBK.out _ _ S1.out.x).root; rw [Nat.zero_add, HB1.out] at this; exact this) rfl _ Try.underlying28 rfl hir rfl ?_)
      | ((with_reducible refine at_load (.tmp 3) ?_); refine wpList_load_g 43 (.tmp 3) rfl w.heap.size rfl #[.slice (some ⟨b, off, none⟩) m cap] _ S1.out.t Try.underlying43 rfl hi1 rfl ?_)
      | fail)
    refine wp_region_fam2 (by kernel_rfl) (by kernel_rfl) ?_
    intro T F hT hF hG
    have c0 : ∀ t, (F t).cell? ⟨w.heap.size, 0, none⟩ = some (.slice (some ⟨b, off, none⟩) m cap) := fun t => (S3.out.call (hF t)).t.cell 0
    have c1 : ∀ t, (F t).cell? ⟨w.heap.size + 1, 66, none⟩ = some (.int .u64 s0) := fun t => by
      have := (HBK.out _ _ (S3.out.call (hF t)).x).slot
      rw [Nat.zero_add, HS0.out] at this
      exact this
    have c2 : ∀ t, (F t).cell? ⟨b, off + k * 240 + 66, none⟩ = some (.int .u64 s1) := fun t => ((S3.out.call (hF t)).b.cell (p := ⟨b, off + k * 240 + 66, none⟩) hbb).trans HSL.out
    repeat (go_big_quiet_step (fail))
    refine wpQuiet_nil ?_
    rintro _ ⟨t, rfl⟩
    have S4 := Lib.hid (S3.out.call (hF t))
    obtain ⟨w4, hw4⟩ : ∃ u, F t = u := ⟨_, rfl⟩
    rw [hw4] at S4 ⊢
    clear c0 c1 c2 hG hw4 hF hT
    clear t F T
    go_wp2_with (first
      | ((with_reducible refine at_build (some 36) ?_); refine wpList_build_g 43 _ rfl #[] (by simp) (.agg #[.slice none 0 0]) (bz_tree _) rfl ?_)
      | ((with_reducible refine at_store (.tmp 6) ?_); refine wpList_store_blk rfl 43 (.tmp 6) _ rfl (w.heap.size + 2) #[.slice none 0 0] rfl rfl #[.slice none 0 0] S4.out.z rfl hi1 (by simp [Value.oneCell']) ?_; intro w9 U9 B9; have HR9 := Lib.hid B9; have HB9 := Lib.hid (U9.below S4.out.b (by omega)); clear U9 B9)
      | fail)
    exact bodyPost_ret (res_cell_tmp rfl rfl rfl HR9.out Try.underlying43 rfl hi1) rfl ⟨_, by rw [← hres]; rfl, by rw [← hres]; exact nodes_nil _, New.nil _, CapOK.nil, HB9.out⟩
  rw [if_neg h14] at hres
  have h14' : (s0 ≤ s1) = False := eq_false h14
  clear h14
  by_cases h11 : 4096 ≤ m
  · skip
    rw [if_pos h11] at hres
    have h11' : (4096 : Int) ≤ m := by omega
    go_enter Try.func26, Try.ntmps26
    go_wp2_with (first
      | ((with_reducible refine at_load (.tmp 20) ?_); refine wpList_load_rng 28 (.tmp 20) rfl (w.heap.size + 1) 99 R2 (by have := (HBK.out _ _ S2.out.x).parent; rw [Nat.zero_add, HB2.out] at this; exact this) rfl _ Try.underlying28 rfl hip rfl ?_)
      | ((with_reducible refine at_load (.tmp 3) ?_); refine wpList_load_g 43 (.tmp 3) rfl w.heap.size rfl #[.slice (some ⟨b, off, none⟩) m cap] _ S2.out.t Try.underlying43 rfl hi1 rfl ?_)
      | (go_at_call 29; refine (HFP.out _ S2.out.b).mono ?_; rintro e w3 ⟨rfl, hb3⟩; have S3 := Lib.hid (S2.out.call hb3); clear hb3)
      | (go_at_call 29; refine (HFR.out _ S1.out.b).mono ?_; rintro e w2 ⟨rfl, hb2⟩; have S2 := Lib.hid (S1.out.call hb2); clear hb2)
      | (go_at_call 32; refine (HSS.out _).mono ?_; rintro e w1 ⟨rfl, hb1⟩; rw [hqs.out]; have S1 := Lib.hid (S0.out.call hb1); clear hb1)
      | ((with_reducible refine at_load (.tmp 14) ?_); refine wpList_load_rng 28 (.tmp 14) rfl (w.heap.size + 1) 67 R1 (by have := (HBK.out _ _ S1.out.x).root; rw [Nat.zero_add, HB1.out] at this; exact this) rfl _ Try.underlying28 rfl hir rfl ?_)
      | ((with_reducible refine at_load (.tmp 3) ?_); refine wpList_load_g 43 (.tmp 3) rfl w.heap.size rfl #[.slice (some ⟨b, off, none⟩) m cap] _ S1.out.t Try.underlying43 rfl hi1 rfl ?_)
      | fail)
    refine wp_region_fam2 (by kernel_rfl) (by kernel_rfl) ?_
    intro T F hT hF hG
    have c0 : ∀ t, (F t).cell? ⟨w.heap.size, 0, none⟩ = some (.slice (some ⟨b, off, none⟩) m cap) := fun t => (S3.out.call (hF t)).t.cell 0
    have c1 : ∀ t, (F t).cell? ⟨w.heap.size + 1, 66, none⟩ = some (.int .u64 s0) := fun t => by
      have := (HBK.out _ _ (S3.out.call (hF t)).x).slot
      rw [Nat.zero_add, HS0.out] at this
      exact this
    have c2 : ∀ t, (F t).cell? ⟨b, off + k * 240 + 66, none⟩ = some (.int .u64 s1) := fun t => ((S3.out.call (hF t)).b.cell (p := ⟨b, off + k * 240 + 66, none⟩) hbb).trans HSL.out
    repeat (go_big_quiet_step (fail))
    refine wpQuiet_nil ?_
    rintro _ ⟨t, rfl⟩
    have S4 := Lib.hid (S3.out.call (hF t))
    obtain ⟨w4, hw4⟩ : ∃ u, F t = u := ⟨_, rfl⟩
    rw [hw4] at S4 ⊢
    clear c0 c1 c2 hG hw4 hF hT
    clear t F T
    go_wp2_with (first
      | ((with_reducible refine at_load (.tmp 37) ?_); refine wpList_load_1 41 (.tmp 37) rfl w.heap.size 0 (.slice (some ⟨b, off, none⟩) m cap) (S4.out.t.cell 0) rfl _ Try.underlying41 rfl rfl ?_)
      | ((with_reducible refine at_build (some 41) ?_); refine wpList_build_g 43 _ rfl #[] (by simp) (.agg #[.slice none 0 0]) (bz_tree _) rfl ?_)
      | ((with_reducible refine at_store (.tmp 6) ?_); refine wpList_store_blk rfl 43 (.tmp 6) _ rfl (w.heap.size + 2) #[.slice none 0 0] rfl rfl #[.slice none 0 0] S4.out.z rfl hi1 (by simp [Value.oneCell']) ?_; intro w9 U9 B9; have HR9 := Lib.hid B9; have HB9 := Lib.hid (U9.below S4.out.b (by omega)); clear U9 B9)
      | fail)
    exact bodyPost_ret (res_cell_tmp rfl rfl rfl HR9.out Try.underlying43 rfl hi1) rfl ⟨_, by rw [← hres]; rfl, by rw [← hres]; exact nodes_nil _, New.nil _, CapOK.nil, HB9.out⟩
  rw [if_neg h11] at hres
  have h11' : ((4096 : Int) ≤ m) = False := eq_false (by omega)
  go_enter Try.func26, Try.ntmps26
  go_wp2_with (first
    | ((with_reducible refine at_load (.tmp 20) ?_); refine wpList_load_rng 28 (.tmp 20) rfl (w.heap.size + 1) 99 R2 (by have := (HBK.out _ _ S2.out.x).parent; rw [Nat.zero_add, HB2.out] at this; exact this) rfl _ Try.underlying28 rfl hip rfl ?_)
    | ((with_reducible refine at_load (.tmp 3) ?_); refine wpList_load_g 43 (.tmp 3) rfl w.heap.size rfl #[.slice (some ⟨b, off, none⟩) m cap] _ S2.out.t Try.underlying43 rfl hi1 rfl ?_)
    | (go_at_call 29; refine (HFP.out _ S2.out.b).mono ?_; rintro e w3 ⟨rfl, hb3⟩; have S3 := Lib.hid (S2.out.call hb3); clear hb3)
    | (go_at_call 29; refine (HFR.out _ S1.out.b).mono ?_; rintro e w2 ⟨rfl, hb2⟩; have S2 := Lib.hid (S1.out.call hb2); clear hb2)
    | (go_at_call 32; refine (HSS.out _).mono ?_; rintro e w1 ⟨rfl, hb1⟩; rw [hqs.out]; have S1 := Lib.hid (S0.out.call hb1); clear hb1)
    | ((with_reducible refine at_load (.tmp 14) ?_); refine wpList_load_rng 28 (.tmp 14) rfl (w.heap.size + 1) 67 R1 (by have := (HBK.out _ _ S1.out.x).root; rw [Nat.zero_add, HB1.out] at this; exact this) rfl _ Try.underlying28 rfl hir rfl ?_)
    | ((with_reducible refine at_load (.tmp 3) ?_); refine wpList_load_g 43 (.tmp 3) rfl w.heap.size rfl #[.slice (some ⟨b, off, none⟩) m cap] _ S1.out.t Try.underlying43 rfl hi1 rfl ?_)
    | fail)
  refine wp_region_fam2 (by kernel_rfl) (by kernel_rfl) ?_
  intro T F hT hF hG
  have c0 : ∀ t, (F t).cell? ⟨w.heap.size, 0, none⟩ = some (.slice (some ⟨b, off, none⟩) m cap) := fun t => (S3.out.call (hF t)).t.cell 0
  have c1 : ∀ t, (F t).cell? ⟨w.heap.size + 1, 66, none⟩ = some (.int .u64 s0) := fun t => by
    have := (HBK.out _ _ (S3.out.call (hF t)).x).slot
    rw [Nat.zero_add, HS0.out] at this
    exact this
  have c2 : ∀ t, (F t).cell? ⟨b, off + k * 240 + 66, none⟩ = some (.int .u64 s1) := fun t => ((S3.out.call (hF t)).b.cell (p := ⟨b, off + k * 240 + 66, none⟩) hbb).trans HSL.out
  repeat (go_big_quiet_step (fail))
  refine wpQuiet_nil ?_
  rintro _ ⟨t, rfl⟩
  have S4 := Lib.hid (S3.out.call (hF t))
  obtain ⟨w4, hw4⟩ : ∃ u, F t = u := ⟨_, rfl⟩
  rw [hw4] at S4 ⊢
  clear c0 c1 c2 hG hw4 hF hT
  clear t F T
  go_wp2_with (first
    | ((with_reducible refine at_load (.tmp 37) ?_); refine wpList_load_1 41 (.tmp 37) rfl w.heap.size 0 (.slice (some ⟨b, off, none⟩) m cap) (S4.out.t.cell 0) rfl _ Try.underlying41 rfl rfl ?_)
    | fail)
  obtain ⟨Ys, hA, hrow⟩ := HN.out.row
  have HA := Lib.hid hA
  have HRW := Lib.hid hrow
  clear hA hrow
  have SD : Hid (InsS w #[.slice (some ⟨b, off, none⟩) m cap] X #[.slice none 0 0] w4.drew) := S4.out.call ⟨rfl, rfl, rfl, Nat.le_refl _, fun _ _ => rfl⟩
  have hdok : (⟨x, (k : Int), st⟩ : NdD).ok := ⟨HX.out, by show -9223372036854775808 ≤ (k : Int) ∧ (k : Int) ≤ 9223372036854775807; omega, HST.out⟩
  have HND := Lib.hid (fun u => build_nd x (k : Int) st HX.out u)
  obtain ⟨d, hd⟩ : ∃ d : NdD, Hid ((⟨x, (k : Int), st⟩ : NdD) = d) := ⟨_, Lib.hid rfl⟩
  rw [hd.out] at HND hdok
  obtain ⟨Y, hY⟩ : ∃ Y, Hid (d.cells.toArray = Y) := ⟨_, Lib.hid rfl⟩
  have hsY : Hid (Y.size = 240) := by show Y.size = 240; rw [← hY.out, List.size_toArray, NdD.len hdok]
  rw [hY.out, HXE.out] at HND
  have HDOK := Lib.hid hdok
  clear hdok
  refine wp_region_held_drew (S := fun z => InsR w #[.slice (some ⟨b, off, none⟩) m cap] X z) (by kernel_rfl) (SD.out.r) (fun _ => ?_)
  (try simp only [Act.put, List.setIfInBounds_toArray, List.set_cons_zero, List.set_cons_succ])
  refine wpAnyH_take (i := 0) (oi := ⟨some 42, _, _, _, _, _⟩) (v := .pointer (some ⟨w.heap.size, 0, none⟩)) rfl (by kernel_rfl) (by kernel_rfl) (by kernel_rfl) (fun _ _ _ h => h) (Or.inl ⟨by rfl, fun wz hz => ?_⟩) SD.out.r ?_
  · clear hz; go_simp; first | done | with_reducible rfl | rfl
  (try simp only [Act.put, List.setIfInBounds_toArray, List.set_cons_zero, List.set_cons_succ])
  refine held_load1 (oi := ⟨some 43, _, _, _, _, _⟩) 1 rfl (by kernel_rfl) (by kernel_rfl) (by kernel_rfl) (fun _ _ _ _ h => h) rfl 41 (.tmp 42) rfl w.heap.size (0) rfl (.slice (some ⟨b, off, none⟩) m cap) _ (fun u' hu => hu.t.cell 0) Try.underlying41 rfl SD.out.r ?_
  (try simp only [Act.put, List.setIfInBounds_toArray, List.set_cons_zero, List.set_cons_succ])
  refine held_load (oi := ⟨some 45, _, _, _, _, _⟩) 3 rfl (by kernel_rfl) (by kernel_rfl) (by kernel_rfl) (fun _ _ _ _ h => h) rfl 52 (.tmp 4) rfl (w.heap.size + 1) 0 rfl X.toList _ (fun u' hu => hu.x.range) Try.underlying52 rfl (by simpa using hiX) SD.out.r ?_
  simp only [Array.toArray_toList]
  (try simp only [Act.put, List.setIfInBounds_toArray, List.set_cons_zero, List.set_cons_succ])
  refine wpAnyH_take (i := 4) (oi := ⟨some 46, _, _, _, _, _⟩) (v := .int .i64 k) rfl (by kernel_rfl) (by kernel_rfl) (by kernel_rfl) (fun _ _ _ h => h) (Or.inl ⟨by rfl, fun wz hz => ?_⟩) SD.out.r ?_
  · clear hz; go_simp; first | done | with_reducible rfl | rfl
  (try simp only [Act.put, List.setIfInBounds_toArray, List.set_cons_zero, List.set_cons_succ])
  refine wpAnyH_take (i := 5) (oi := ⟨some 47, _, _, _, _, _⟩) (v := .int .i64 st) rfl (by kernel_rfl) (by kernel_rfl) (by kernel_rfl) (fun _ _ _ h => h) (Or.inl ⟨by rfl, fun wz hz => ?_⟩) SD.out.r ?_
  · clear hz; go_simp; first | done | with_reducible rfl | rfl
  (try simp only [Act.put, List.setIfInBounds_toArray, List.set_cons_zero, List.set_cons_succ])
  refine held_build (oi := ⟨some 48, _, _, _, _, _⟩) 6 rfl (by kernel_rfl) (by kernel_rfl) (by kernel_rfl) (fun _ _ _ _ h => h) rfl 54 _ rfl #[(0, .agg X), (1, .int .i64 k), (2, .int .i64 st)] (by simp [Act.eval]) (.agg Y) (HND.out) SD.out.r ?_
  (try simp only [Act.put, List.setIfInBounds_toArray, List.set_cons_zero, List.set_cons_succ])
  refine wpAnyH_ready (rs := [2, 7]) (by kernel_rfl) (by simp) ?_
  refine AllReadyH.cons (o := ⟨some 44, _, _, _, _, _⟩) rfl (fun K hK => ?_) (AllReadyH.cons (o := ⟨some 49, _, _, _, _, _⟩) rfl (fun K hK => ?_) AllReadyH.nil)
  · skip
    refine wp_appEls ndOK Try.underlying41 info_node (by rfl) (by omega) (.const (.slice none 0 0)) (.tmp 43) rfl (w.heap.size + 3) (.slice none 0 0) [] rfl (OwnEl.nil _ _) (some ⟨b, off, none⟩) m cap ns Ys rfl hm.out (row_at HRW.out SD.out.b) (HA.out _ _) (by simp [hm.out]; omega) (by simp [hm.out]; unfold maxLen; omega) (by have := SD.out.z.lt; simp at this ⊢; omega) ?_
    intro v3 w3' ho3 hg3 _
    rw [List.nil_append] at ho3
    have HO3 := Lib.hid ho3
    have HG3 := Lib.hid (grown_none hg3)
    have S5 := Lib.hid (SD.out.call HG3.out)
    clear ho3 hg3
    refine hK.out _ _ (S5.out.r) (fun _ => ?_)
    clear hK K
    (try simp only [Act.put, List.setIfInBounds_toArray, List.set_cons_zero, List.set_cons_succ])
    refine wpAnyH_ready (rs := [7]) (by kernel_rfl) (by simp) ?_
    refine AllReadyH.cons (o := ⟨some 49, _, _, _, _, _⟩) rfl (fun K hK => ?_) AllReadyH.nil
    refine wp_buildSlice 41 1 _ rfl #[(0, .agg Y)] (by simp [Act.eval, Act.put]) _ (bel_node hsY.out w3') ?_
    have hal : Below (w3').heap.size (w3') ((w3').alloc (.cells Y 54)) := (Below.refl _ _).alloc (Nat.le_refl _) _
    have HAL := Lib.hid hal
    clear hal
    have HO6 := Lib.hid (HO3.out.call ndOK HAL.out)
    have S6 := Lib.hid (S5.out.call HAL.out)
    have BY6 : Hid (Blk (w3'.alloc (.cells Y 54)) w3'.heap.size Y) := Blk.new rfl
    refine hK.out _ _ (S6.out.r) (fun _ => ?_)
    clear hK K
    (try simp only [Act.put, List.setIfInBounds_toArray, List.set_cons_zero, List.set_cons_succ])
    refine wpAnyH_ready (rs := [8]) (by kernel_rfl) (by simp) ?_
    refine AllReadyH.cons (o := ⟨some 50, _, _, _, _, _⟩) rfl (fun K hK => ?_) AllReadyH.nil
    refine wp_appEl ndOK Try.underlying41 info_node (by rfl) (by omega) (.tmp 44) (.tmp 49) rfl (w.heap.size + 3) v3 ns rfl HO6.out w3'.heap.size 1 Y d rfl ⟨hY.out.symm, HDOK.out⟩ BY6.out.range (by simp [hm.out]; omega) (by simp [hm.out]; unfold maxLen; omega) (by have := S6.out.z.lt; omega) ?_
    intro v8 w8 ho8 hg8 _
    have HO8 := Lib.hid ho8
    have S8 : Hid (InsS w #[.slice (some ⟨b, off, none⟩) m cap] X #[.slice none 0 0] w8) := (by
      have hne : ∀ j, j < w.heap.size + 3 → some j ≠ v3.ownBlock := fun j hj e => by have := (HO6.out.lt j e.symm).1; omega
      exact ⟨S6.out.t.grown hg8 (hne _ (by omega)), S6.out.x.grown hg8 (hne _ (by omega)), S6.out.z.grown hg8 (hne _ (by omega)), S6.out.b.grown hg8 S6.out.b.size (fun j hj => by have := (HO6.out.lt j hj).1; omega)⟩)
    clear ho8 hg8
    refine hK.out _ _ (S8.out.r) (fun _ => ?_)
    clear hK K
    (try simp only [Act.put, List.setIfInBounds_toArray, List.set_cons_zero, List.set_cons_succ])
    
    obtain ⟨va, vn, vcap, hv8⟩ : ∃ va vn vcap, v8 = .slice va vn vcap := by obtain ⟨p, q, e, _⟩ := HO8.out.shape; exact ⟨p, _, q, e⟩
    rw [hv8] at HO8 ⊢
    clear hv8
    refine held_build (oi := ⟨some 51, _, _, _, _, _⟩) 9 rfl (by kernel_rfl) (by kernel_rfl) (by kernel_rfl) (fun _ _ _ _ h => h) rfl 43 _ rfl #[(0, .slice va vn vcap)] (by simp [Act.eval]) (.agg #[.slice va vn vcap]) (fun u => b_tree va vn vcap u) S8.out.r ?_
    (try simp only [Act.put, List.setIfInBounds_toArray, List.set_cons_zero, List.set_cons_succ])
    refine wpAnyH_ready (rs := [10]) (by kernel_rfl) (by simp) ?_
    refine AllReadyH.cons (o := ⟨none, _, _, _, _, _⟩) rfl (fun K hK => ?_) AllReadyH.nil
    refine wp_store_blk 43 (.tmp 6) _ rfl (w.heap.size + 2) #[.slice va vn vcap] rfl rfl #[.slice none 0 0] S8.out.z rfl hi1 (by simp [Value.oneCell']) ?_
    intro w9 U9 B9
    have HR9 := Lib.hid B9
    have HU9 := Lib.hid U9
    have HB9 := Lib.hid (U9.below S8.out.b (by omega))
    clear U9 B9
    have R9 : Hid (InsR w #[.slice (some ⟨b, off, none⟩) m cap] X w9) := ⟨HU9.out.blk S8.out.t (by omega), HU9.out.blk S8.out.x (by omega), HB9.out⟩
    refine hK.out _ _ (R9.out) (fun _ => ?_)
    clear hK K
    (try simp only [Act.put, List.setIfInBounds_toArray, List.set_cons_zero, List.set_cons_succ])
    refine wpAnyH_ready (rs := [11]) (by kernel_rfl) (by simp) ?_
    refine AllReadyH.cons (o := ⟨some 7, _, _, _, _, _⟩) rfl (fun K hK => ?_) AllReadyH.nil
    go_simp
    refine hK.out _ _ (R9.out) (fun _ => ?_)
    clear hK K
    (try simp only [Act.put, List.setIfInBounds_toArray, List.set_cons_zero, List.set_cons_succ])
    refine wpAnyH_done (by kernel_rfl) ?_ _
    have HO9 := HO8.out.grown ndOK (upd_grown HU9.out) (fun n hn e => by have := (HO8.out.lt n hn).1; cases e; omega) (fun X d h => h)
    go_wp2_with fail
    refine bodyPost_ret (res_cell_tmp rfl rfl rfl HR9.out Try.underlying43 rfl hi1) rfl ⟨_, by rw [← hres]; rfl, ?_, ?_, ?_, HB9.out⟩
    · rw [← hres]
      show NodesV w9 _ (ns ++ [⟨x, (k : Int), st⟩])
      rw [hd.out]
      exact HO9.elV ndOK
    · exact HO8.out.newEl.mono (by omega)
    · intro a n c e
      obtain ⟨a', c', e', _, hle, _⟩ := HO8.out.shape
      rw [e'] at e; cases e; exact hle
  · skip
    refine wp_buildSlice 41 1 _ rfl #[(0, .agg Y)] (by simp [Act.eval, Act.put]) _ (bel_node hsY.out w4.drew) ?_
    have hal : Below (w4.drew).heap.size (w4.drew) ((w4.drew).alloc (.cells Y 54)) := (Below.refl _ _).alloc (Nat.le_refl _) _
    have HAL := Lib.hid hal
    clear hal
    have S5' := Lib.hid (SD.out.call HAL.out)
    have BY5 : Hid (Blk (w4.drew.alloc (.cells Y 54)) w4.drew.heap.size Y) := Blk.new rfl
    refine hK.out _ _ (S5'.out.r) (fun _ => ?_)
    clear hK K
    (try simp only [Act.put, List.setIfInBounds_toArray, List.set_cons_zero, List.set_cons_succ])
    refine wpAnyH_ready (rs := [2]) (by kernel_rfl) (by simp) ?_
    refine AllReadyH.cons (o := ⟨some 44, _, _, _, _, _⟩) rfl (fun K hK => ?_) AllReadyH.nil
    refine wp_appEls ndOK Try.underlying41 info_node (by rfl) (by omega) (.const (.slice none 0 0)) (.tmp 43) rfl (w.heap.size + 3) (.slice none 0 0) [] rfl (OwnEl.nil _ _) (some ⟨b, off, none⟩) m cap ns Ys rfl hm.out (row_at HRW.out S5'.out.b) (HA.out _ _) (by simp [hm.out]; omega) (by simp [hm.out]; unfold maxLen; omega) (by have := S5'.out.z.lt; simp at this ⊢; omega) ?_
    intro v3 w3' ho3 hg3 _
    rw [List.nil_append] at ho3
    have HO3 := Lib.hid ho3
    have HG3 := Lib.hid (grown_none hg3)
    have S5 := Lib.hid (S5'.out.call HG3.out)
    have BY6 := Lib.hid (BY5.out.call HG3.out)
    clear ho3 hg3
    refine hK.out _ _ (S5.out.r) (fun _ => ?_)
    clear hK K
    (try simp only [Act.put, List.setIfInBounds_toArray, List.set_cons_zero, List.set_cons_succ])
    refine wpAnyH_ready (rs := [8]) (by kernel_rfl) (by simp) ?_
    refine AllReadyH.cons (o := ⟨some 50, _, _, _, _, _⟩) rfl (fun K hK => ?_) AllReadyH.nil
    refine wp_appEl ndOK Try.underlying41 info_node (by rfl) (by omega) (.tmp 44) (.tmp 49) rfl (w.heap.size + 3) v3 ns rfl HO3.out w4.drew.heap.size 1 Y d rfl ⟨hY.out.symm, HDOK.out⟩ BY6.out.range (by simp [hm.out]; omega) (by simp [hm.out]; unfold maxLen; omega) (by have := S5.out.z.lt; omega) ?_
    intro v8 w8 ho8 hg8 _
    have HO8 := Lib.hid ho8
    have S8 : Hid (InsS w #[.slice (some ⟨b, off, none⟩) m cap] X #[.slice none 0 0] w8) := (by
      have hne : ∀ j, j < w.heap.size + 3 → some j ≠ v3.ownBlock := fun j hj e => by have := (HO3.out.lt j e.symm).1; omega
      exact ⟨S5.out.t.grown hg8 (hne _ (by omega)), S5.out.x.grown hg8 (hne _ (by omega)), S5.out.z.grown hg8 (hne _ (by omega)), S5.out.b.grown hg8 S5.out.b.size (fun j hj => by have := (HO3.out.lt j hj).1; omega)⟩)
    clear ho8 hg8
    refine hK.out _ _ (S8.out.r) (fun _ => ?_)
    clear hK K
    (try simp only [Act.put, List.setIfInBounds_toArray, List.set_cons_zero, List.set_cons_succ])
    
    obtain ⟨va, vn, vcap, hv8⟩ : ∃ va vn vcap, v8 = .slice va vn vcap := by obtain ⟨p, q, e, _⟩ := HO8.out.shape; exact ⟨p, _, q, e⟩
    rw [hv8] at HO8 ⊢
    clear hv8
    refine held_build (oi := ⟨some 51, _, _, _, _, _⟩) 9 rfl (by kernel_rfl) (by kernel_rfl) (by kernel_rfl) (fun _ _ _ _ h => h) rfl 43 _ rfl #[(0, .slice va vn vcap)] (by simp [Act.eval]) (.agg #[.slice va vn vcap]) (fun u => b_tree va vn vcap u) S8.out.r ?_
    (try simp only [Act.put, List.setIfInBounds_toArray, List.set_cons_zero, List.set_cons_succ])
    refine wpAnyH_ready (rs := [10]) (by kernel_rfl) (by simp) ?_
    refine AllReadyH.cons (o := ⟨none, _, _, _, _, _⟩) rfl (fun K hK => ?_) AllReadyH.nil
    refine wp_store_blk 43 (.tmp 6) _ rfl (w.heap.size + 2) #[.slice va vn vcap] rfl rfl #[.slice none 0 0] S8.out.z rfl hi1 (by simp [Value.oneCell']) ?_
    intro w9 U9 B9
    have HR9 := Lib.hid B9
    have HU9 := Lib.hid U9
    have HB9 := Lib.hid (U9.below S8.out.b (by omega))
    clear U9 B9
    have R9 : Hid (InsR w #[.slice (some ⟨b, off, none⟩) m cap] X w9) := ⟨HU9.out.blk S8.out.t (by omega), HU9.out.blk S8.out.x (by omega), HB9.out⟩
    refine hK.out _ _ (R9.out) (fun _ => ?_)
    clear hK K
    (try simp only [Act.put, List.setIfInBounds_toArray, List.set_cons_zero, List.set_cons_succ])
    refine wpAnyH_ready (rs := [11]) (by kernel_rfl) (by simp) ?_
    refine AllReadyH.cons (o := ⟨some 7, _, _, _, _, _⟩) rfl (fun K hK => ?_) AllReadyH.nil
    go_simp
    refine hK.out _ _ (R9.out) (fun _ => ?_)
    clear hK K
    (try simp only [Act.put, List.setIfInBounds_toArray, List.set_cons_zero, List.set_cons_succ])
    refine wpAnyH_done (by kernel_rfl) ?_ _
    have HO9 := HO8.out.grown ndOK (upd_grown HU9.out) (fun n hn e => by have := (HO8.out.lt n hn).1; cases e; omega) (fun X d h => h)
    go_wp2_with fail
    refine bodyPost_ret (res_cell_tmp rfl rfl rfl HR9.out Try.underlying43 rfl hi1) rfl ⟨_, by rw [← hres]; rfl, ?_, ?_, ?_, HB9.out⟩
    · rw [← hres]
      show NodesV w9 _ (ns ++ [⟨x, (k : Int), st⟩])
      rw [hd.out]
      exact HO9.elV ndOK
    · exact HO8.out.newEl.mono (by omega)
    · intro a n c e
      obtain ⟨a', c', e', _, hle, _⟩ := HO8.out.shape
      rw [e'] at e; cases e; exact hle
end

/-! TrD -/
section
set_option linter.unusedVariables false
set_option linter.unusedSimpArgs false
open Go.RowKit

/-- A valid closed tree. -/
structure TrOK (ns : List NdD) : Prop where
  pos : 0 < ns.length
  root : ∀ h : 0 < ns.length, ns[0].up = -1
  up : ∀ i (hi : i < ns.length), 0 < i → ∃ u : Nat, ∃ hu : u < ns.length, u < i ∧ ns[i].up = u ∧ ns[i].b.parent = ns[u].b.root ∧ ns[u].b.slot < ns[i].b.slot ∧ (ns[i].st = 1 → ns[u].st = 1) ∧ (ns[u].st = 2 → ns[i].st = 2)
  ne : ∀ i j (hi : i < ns.length) (hj : j < ns.length), i < j → ns[i].b.root ≠ ns[j].b.root
  st : ∀ i (hi : i < ns.length), 0 ≤ ns[i].st ∧ ns[i].st ≤ 2

theorem TrOK.one (x : BkD) (st : Int) (h : 0 ≤ st ∧ st ≤ 2) : TrOK [⟨x, -1, st⟩] where
  pos := by simp
  root := fun _ => rfl
  up := fun i hi h0 => by simp at hi; omega
  ne := fun i j hi hj h => by simp at hi hj; omega
  st := fun i hi => by
    obtain rfl : i = 0 := by simpa using hi
    exact h

theorem TrOK.find {ns : List NdD} (h : TrOK ns) {q : Nat} (hq : q < ns.length) : findN ns ns[q].b.root = q := by
  rcases findN_spec ns ns[q].b.root with ⟨_, h2⟩ | ⟨k, hk, h1, h2, h3⟩
  · exact absurd rfl (h2 q hq)
  · rw [h1]
    by_cases e : k = q
    · rw [e]
    · rcases Nat.lt_or_gt_of_ne e with hl | hl
      · exact absurd h2 (h.ne k q hk hq hl)
      · exact absurd rfl (h3 q hl hq)

theorem insT_cases {ns : List NdD} {x : BkD} {st : Int} (he : (insT ns x st).2 = 0) : findN ns x.root < 0 ∧ 0 ≤ findN ns x.parent ∧ slotAt ns (findN ns x.parent) < x.slot ∧ ns.length < 4096 ∧ (insT ns x st).1 = ns ++ [⟨x, findN ns x.parent, st⟩] := by
  unfold insT at he ⊢
  split at he
  · cases he
  · rename_i h1
    split at he
    · cases he
    · rename_i h2
      split at he
      · cases he
      · rename_i h3
        split at he
        · cases he
        · rename_i h4
          split at he
          · cases he
          · rename_i h5
            rw [if_neg h1, if_neg h2, if_neg h3, if_neg h4, if_neg h5]
            exact ⟨by omega, by omega, by omega, by omega, rfl⟩

theorem insT_bad {ns : List NdD} {x : BkD} {st : Int} (he : (insT ns x st).2 ≠ 0) : (insT ns x st).1 = [] := by
  unfold insT at he ⊢
  split
  · rfl
  · split
    · rfl
    · split
      · rfl
      · split
        · rfl
        · split
          · rfl
          · rename_i h1 h2 h3 h4 h5
            rw [if_neg h1, if_neg h2, if_neg h3, if_neg h4, if_neg h5] at he
            exact absurd rfl he

theorem TrOK.add {ns : List NdD} (h : TrOK ns) {q : Nat} (hq : q < ns.length) {x : BkD} {st : Int} (hp : x.parent = ns[q].b.root) (hst : 0 ≤ st ∧ st ≤ 2) (c1 : st = 1 → ns[q].st = 1) (c2 : ns[q].st = 2 → st = 2) (he : (insT ns x st).2 = 0) :
    (insT ns x st).1 = ns ++ [⟨x, q, st⟩] ∧ TrOK (ns ++ [⟨x, q, st⟩]) := by
  obtain ⟨h1, h2, h3, h4, h5⟩ := insT_cases he
  have hf : findN ns x.parent = q := by rw [hp]; exact h.find hq
  rw [hf] at h3 h5
  have hs : slotAt ns (q : Int) = ns[q].b.slot := by simp [slotAt, List.getElem?_eq_getElem hq]
  rw [hs] at h3
  refine ⟨h5, ⟨by simp, fun _ => ?_, fun i hi h0 => ?_, fun i j hi hj hij => ?_, fun i hi => ?_⟩⟩
  · rw [List.getElem_append_left h.pos]; exact h.root h.pos
  · by_cases hil : i < ns.length
    · obtain ⟨u, hu, a1, a2, a3, a4, a5, a6⟩ := h.up i hil h0
      refine ⟨u, by simp; omega, a1, ?_⟩
      rw [List.getElem_append_left hil, List.getElem_append_left hu]
      exact ⟨a2, a3, a4, a5, a6⟩
    · obtain rfl : i = ns.length := by simp at hi; omega
      refine ⟨q, by simp; omega, hq, ?_⟩
      rw [List.getElem_append_right (Nat.le_refl _), List.getElem_append_left hq]
      simp only [Nat.sub_self, List.getElem_cons_zero]
      exact ⟨by trivial, hp, h3, c1, c2⟩
  · have hil : i < ns.length := by simp at hj; omega
    rw [List.getElem_append_left hil]
    by_cases hjl : j < ns.length
    · rw [List.getElem_append_left hjl]; exact h.ne i j hil hjl hij
    · obtain rfl : j = ns.length := by simp at hj; omega
      rw [List.getElem_append_right (Nat.le_refl _)]
      simp only [Nat.sub_self, List.getElem_cons_zero]
      rcases findN_spec ns x.root with ⟨_, b2⟩ | ⟨k, hk, b1, _, _⟩
      · exact b2 i hil
      · rw [b1] at h1; omega
  · by_cases hil : i < ns.length
    · rw [List.getElem_append_left hil]; exact h.st i hil
    · obtain rfl : i = ns.length := by simp at hi; omega
      rw [List.getElem_append_right (Nat.le_refl _)]
      simpa using hst

theorem NodesV.off {w : World} {v : Value} {ns : List NdD} (h : NodesV w v ns) {g : Nat} (hg : w.heap.size ≤ g) : Off g v := by
  obtain ⟨a, cap, rfl, hl, hr⟩ := h
  intro z l c e h0
  cases e
  rcases hr with h1 | ⟨b, off, e, hb, _⟩
  · omega
  · cases e; simp only; omega

theorem NodesV.grownOff {w w' : World} {v : Value} {ns : List NdD} {g : Nat} (h : NodesV w v ns) (hg : w.grownBy w' (some g)) (ho : Off g v) : NodesV w' v ns := by
  obtain ⟨a, cap, rfl, hl, hr⟩ := h
  refine ⟨a, cap, rfl, hl, ?_⟩
  rcases hr with h0 | ⟨b, off, rfl, hlt, Xs, h1, h2⟩
  · exact .inl h0
  · by_cases h0 : ns.length = 0
    · exact .inl h0
    have hne : some b ≠ some g := fun e => ho _ _ _ rfl (by omega) (by cases e; rfl)
    exact .inr ⟨b, off, rfl, Nat.lt_of_lt_of_le hlt hg.size, Xs, fun j u hj => by rw [hg.cell_far ⟨b, off + j, none⟩ hlt hne]; exact h1 j u hj, h2.imp fun X d hX => hX⟩

/-- The variables of Tree: its result in block P, the tree in block B. -/
structure TrV (w : World) (P B : Nat) (s : Value) (ns : List NdD) (u : World) : Prop where
  r : Blk u P #[.slice none 0 0]
  t : Blk u B #[s]
  n : NodesV u s ns
  o1 : Off P s
  o2 : Off B s
  b : Below w.heap.size w u
  lt : P < B
  eq : P = w.heap.size
  cap : CapOK s

theorem TrV.call {w u u' : World} {P B : Nat} {s : Value} {ns : List NdD} (h : TrV w P B s ns u) (hb : Below u.heap.size u u') : TrV w P B s ns u' := ⟨h.r.call hb, h.t.call hb, h.n.call hb, h.o1, h.o2, h.b.trans (hb.mono h.b.size), h.lt, h.eq, h.cap⟩

/-- Another block that is younger was written. -/
theorem TrV.upd {w u u' : World} {P B g : Nat} {s : Value} {ns : List NdD} (h : TrV w P B s ns u) (U : Upd g u u') (hg : B < g) (ho : Off g s) : TrV w P B s ns u' :=
  ⟨U.blk h.r (by have := h.lt; omega), U.blk h.t (by omega), h.n.grownOff (upd_grown U) ho, h.o1, h.o2, U.below h.b (by have h1 := h.lt; have h2 := h.eq; omega), h.lt, h.eq, h.cap⟩
end

/-! EvB -/
section
set_option linter.unusedVariables false
set_option linter.unusedSimpArgs false
open Go.RowKit

set_option maxRecDepth 100000

theorem size_int (w : World) : (sizeOf 3).run Try.prog w = .ok 1 w := Try.sizeOf3 w

/-- What Insert promises. -/
def InsE (v : Value) (l : List Int) (n : Int) (w : World) (e : Ending) (w' : World) : Prop :=
  ∃ v', e = .returned v' ∧ IntsV w' v' (insI l n) ∧ CapOK v' ∧ (∀ N, N ≤ w.heap.size → New N v → New N v') ∧ Below w.heap.size w w'

theorem insI_rng {l : List Int} {n : Int} (hl : ∀ x ∈ l, -9223372036854775808 ≤ x ∧ x ≤ 9223372036854775807) (hn : -9223372036854775808 ≤ n ∧ n ≤ 9223372036854775807) : ∀ x ∈ insI l n, -9223372036854775808 ≤ x ∧ x ≤ 9223372036854775807 := fun x hx => by
  rcases insI_mem.1 hx with rfl | h
  · exact hn
  · exact hl x h

theorem one_ints (n : Int) (u : World) : Ints .i64 (u.alloc (.cells #[.int .i64 n] 3)) (.slice (some ⟨u.heap.size, 0, none⟩) 1 1) [n] :=
  ⟨_, 1, 1, rfl, rfl, by unfold maxLen; omega, .inr ⟨u.heap.size, 0, rfl, by simp, fun i hi => by
    obtain rfl : i = 0 := by omega
    exact (Blk.new rfl).cell 0⟩⟩
end

/-! So -/
section
set_option linter.unusedVariables false
set_option linter.unusedSimpArgs false
open Go.RowKit

set_option maxRecDepth 100000

/-- What Some's loop holds. -/
def SomeI (w : World) (v i : Value) (n : Nat) (wr : World) : Prop :=
  ∃ (k : Nat) (l : List Int), k ≤ n ∧ i = .int .i64 k ∧ l.length ≤ k ∧ ((∀ x ∈ l, 0 ≤ x ∧ x < k) ∧ l.Pairwise (· < ·)) ∧ OwnK .i64 3 wr w.heap.size v l ∧ Below w.heap.size w wr

theorem own_one (w : World) (B : Nat) (x : Int) (h : B ≤ w.heap.size) : OwnK .i64 3 (w.alloc (.cells #[.int .i64 x] 3)) B (.slice (some ⟨w.heap.size, 0, none⟩) 1 1) [x] :=
  World.ownsRow_lit w #[.int .i64 x] 1 h (by unfold maxLen; omega) rfl

theorem vl_sorted {l : List Int} {n : Int} (h0 : l ≠ []) (h : ∀ x ∈ l, 0 ≤ x ∧ x < n) (hs : l.Pairwise (· < ·)) : vlE l n = 0 := by
  refine vl_of (Nat.pos_of_ne_zero fun e => h0 (List.eq_nil_of_length_eq_zero e)) fun i hi => ?_
  have e : ∀ j (hj : j < l.length), l.getD j 0 = l[j] := fun j hj => by simp [List.getD, List.getElem?_eq_getElem hj]
  obtain ⟨h1, h2⟩ := h l[i] (List.getElem_mem hi)
  refine ⟨by rw [e i hi]; exact h1, by rw [e i hi]; exact h2, fun h3 => ?_⟩
  rw [e i hi, e (i - 1) (by omega)]
  exact List.pairwise_iff_getElem.1 hs _ _ _ _ (by omega)
end

/-! TrF -/
section
set_option linter.unusedVariables false
set_option linter.unusedSimpArgs false
open Go.RowKit

set_option maxRecDepth 100000

/-- The path from the root to a node. -/
def upAt (ns : List NdD) (i : Nat) : Nat := (((ns[i]?).map NdD.up).getD 0).toNat

def pathF (ns : List NdD) : Nat → Nat → List Int
  | 0, _ => []
  | f + 1, i => if i = 0 then [0] else pathF ns f (upAt ns i) ++ [(i : Int)]

def pathN (ns : List NdD) (i : Int) : List Int := if 0 ≤ i ∧ i < ns.length then pathF ns (i.toNat + 1) i.toNat else []

theorem TrOK.upAt {ns : List NdD} (h : TrOK ns) {i : Nat} (hi : i < ns.length) (h0 : 0 < i) : upAt ns i < i ∧ upAt ns i < ns.length ∧ ns[i].up = upAt ns i := by
  obtain ⟨u, hu, h1, h2, _⟩ := h.up i hi h0
  have e : Go.Proofs.Ytidimiioglgliaa.upAt ns i = u := by simp [Go.Proofs.Ytidimiioglgliaa.upAt, List.getElem?_eq_getElem hi, h2]
  rw [e]
  exact ⟨h1, hu, h2⟩

/-- Fuel beyond the index changes nothing. -/
theorem pathF_two {ns : List NdD} (h : TrOK ns) : ∀ i, i < ns.length → ∀ f g, i + 1 ≤ f → i + 1 ≤ g → pathF ns f i = pathF ns g i := by
  intro i
  induction i using Nat.strongRecOn with
  | ind i ih =>
    intro hi f g hf hg
    obtain ⟨f', rfl⟩ : ∃ f', f = f' + 1 := ⟨f - 1, by omega⟩
    obtain ⟨g', rfl⟩ : ∃ g', g = g' + 1 := ⟨g - 1, by omega⟩
    show (if i = 0 then [0] else pathF ns f' (upAt ns i) ++ [(i : Int)]) = (if i = 0 then [0] else pathF ns g' (upAt ns i) ++ [(i : Int)])
    by_cases h0 : i = 0
    · rw [if_pos h0, if_pos h0]
    · rw [if_neg h0, if_neg h0]
      obtain ⟨h1, h2, _⟩ := h.upAt hi (by omega)
      rw [ih _ h1 h2 f' g' (by omega) (by omega)]

theorem pathN_zero {ns : List NdD} (h : 0 < ns.length) : pathN ns (0 : Int) = [0] := by unfold pathN; rw [if_pos (by omega)]; rfl

theorem pathN_step {ns : List NdD} (h : TrOK ns) {i : Nat} (hi : i < ns.length) (h0 : 0 < i) : pathN ns (i : Int) = pathN ns (upAt ns i : Int) ++ [(i : Int)] := by
  obtain ⟨h1, h2, _⟩ := h.upAt hi h0
  unfold pathN
  rw [if_pos (by omega), if_pos (by omega)]
  show (if i = 0 then [0] else pathF ns i (upAt ns i) ++ [(i : Int)]) = _
  rw [if_neg (by omega), pathF_two h _ h2 i ((upAt ns i : Int).toNat + 1) (by omega) (by omega)]
  rfl

theorem pathN_out {ns : List NdD} {i : Int} (h : ¬ (0 ≤ i ∧ i < ns.length)) : pathN ns i = [] := by unfold pathN; rw [if_neg h]

theorem pathF_len (ns : List NdD) : ∀ f i, (pathF ns f i).length ≤ f
  | 0, _ => by simp [pathF]
  | f + 1, i => by
    have := pathF_len ns f (upAt ns i)
    show (if i = 0 then [0] else pathF ns f (upAt ns i) ++ [(i : Int)]).length ≤ _
    split
    · simp
    · simp; omega

theorem pathN_len (ns : List NdD) (i : Int) : (pathN ns i).length ≤ ns.length := by
  unfold pathN
  split
  · have := pathF_len ns (i.toNat + 1) i.toNat; omega
  · simp

/-- The nodes of a path: each is in the tree, and none is behind the last one. -/
theorem pathN_mem {ns : List NdD} (h : TrOK ns) : ∀ i : Nat, i < ns.length → ∀ x ∈ pathN ns (i : Int), 0 ≤ x ∧ x ≤ i := by
  intro i
  induction i using Nat.strongRecOn with
  | ind i ih =>
    intro hi x hx
    by_cases h0 : i = 0
    · subst h0
      rw [show ((0 : Nat) : Int) = 0 from rfl, pathN_zero h.pos] at hx
      rw [List.mem_singleton.1 hx]; omega
    · rw [pathN_step h hi (by omega)] at hx
      obtain ⟨h1, h2, _⟩ := h.upAt hi (by omega)
      rcases List.mem_append.1 hx with hm | hm
      · have := ih _ h1 h2 x hm; omega
      · rw [List.mem_singleton.1 hm]; omega

theorem pathN_rng {ns : List NdD} (h : TrOK ns) (i : Int) : ∀ x ∈ pathN ns i, 0 ≤ x ∧ x < ns.length := by
  intro x hx
  by_cases hi : 0 ≤ i ∧ i < ns.length
  · obtain ⟨k, rfl⟩ : ∃ k : Nat, i = k := ⟨i.toNat, by omega⟩
    have := pathN_mem h k (by omega) x hx; omega
  · rw [pathN_out hi] at hx; cases hx

theorem OwnK.lower {k : IntKind} {e : TypeId} {w : World} {B B' : Nat} {v : Value} {xs : List Int} (h : OwnK k e w B v xs) (hB : B' ≤ B) : OwnK k e w B' v xs := by
  refine ⟨h.1, ?_⟩
  rcases h.2 with h' | ⟨g, cap, cur, e', h2, h3⟩
  · exact .inl h'
  · exact .inr ⟨g, cap, cur, e', Nat.le_trans hB h2, h3⟩

/-- What Path promises. -/
def PathE (ns : List NdD) (i : Int) (w : World) (e : Ending) (w' : World) : Prop :=
  ∃ v', e = .returned v' ∧ OwnK .i64 3 w' w.heap.size v' (pathN ns i) ∧ Below w.heap.size w w'

set_option maxHeartbeats 8000000 in
theorem path_out (v : Value) (ns : List NdD) (i : Int) (w : World) (hN : NodesV w v ns) (hi : ¬ (0 ≤ i ∧ i < ns.length)) :
    Calls Try.prog 31 #[.agg #[v], .int .i64 i] w (PathE ns i w) := by
  have HIS := Lib.hid (fun u (hu : Below w.heap.size w u) => isn_any v ns i u (hN.call hu))
  have HD : Hid (decide (0 ≤ i ∧ i < (ns.length : Int)) = false) := decide_eq_false hi
  have S0 := Lib.hid (pas_new w #[v] 43)
  have hi1 : (Try.prog.info? 43).map (·.size) = some 1 := by kernel_rfl
  have HP := Lib.hid (pathN_out hi)
  clear hN hi
  go_enter Try.func31, Try.ntmps31
  go_wp2_with (first
    | ((with_reducible refine at_load (.tmp 2) ?_); refine wpList_load_g 43 (.tmp 2) rfl w.heap.size rfl #[v] _ S0.out.t Try.underlying43 rfl hi1 rfl ?_)
    | (go_at_call 33; refine (HIS.out _ S0.out.b).mono ?_; rintro e w1 ⟨rfl, hb1⟩; rw [HD.out]; have S1 := Lib.hid (S0.out.call hb1); clear hb1))
  go_ret
  exact ⟨_, rfl, by rw [HP.out]; exact OwnK.nil _ _ _ _, S1.out.b⟩

set_option maxHeartbeats 16000000 in
theorem path_in (ns : List NdD) (hok : TrOK ns) (hlen : ns.length ≤ 100000) : ∀ (i : Nat) (hi : i < ns.length) (v : Value) (w : World) (hN : NodesV w v ns),
    Calls Try.prog 31 #[.agg #[v], .int .i64 i] w (PathE ns i w) := by
  intro i
  induction i using Nat.strongRecOn with
  | ind i ih =>
    intro hi v w hN
    obtain ⟨a, cap, rfl, hmx⟩ := hN.shape
    unfold maxLen at hmx
    have HIS := Lib.hid (fun u (hu : Below w.heap.size w u) => isn_any _ ns i u (hN.call hu))
    have HD : Hid (decide (0 ≤ (i : Int) ∧ (i : Int) < (ns.length : Int)) = true) := decide_eq_true (by omega)
    have HN := Lib.hid hN
    have HOK := Lib.hid hok
    have HLM := Lib.hid hlen
    have HII := Lib.hid info_int
    have hi1 : (Try.prog.info? 43).map (·.size) = some 1 := by kernel_rfl
    obtain ⟨m, hm⟩ : ∃ m, Hid (ns.length = m) := ⟨_, Lib.hid rfl⟩
    rw [hm.out] at hmx HIS HN ⊢
    have S0 := Lib.hid (pas_new w #[.slice a m cap] 43)
    by_cases h0 : i = 0
    · subst h0
      have HP : Hid (pathN ns ((0 : Nat) : Int) = [0]) := pathN_zero hok.pos
      clear hN ih hi hok
      go_enter Try.func31, Try.ntmps31
      go_wp2_with (first
        | ((with_reducible refine at_load (.tmp 2) ?_); refine wpList_load_g 43 (.tmp 2) rfl w.heap.size rfl #[.slice a m cap] _ S0.out.t Try.underlying43 rfl hi1 rfl ?_)
        | (go_at_call 33; refine (HIS.out _ S0.out.b).mono ?_; rintro e w1 ⟨rfl, hb1⟩; rw [hm.out] at HD; rw [HD.out]; have S1 := Lib.hid (S0.out.call hb1); clear hb1))
      go_ret
      exact ⟨_, rfl, by rw [HP.out]; exact own_one _ _ _ S1.out.b.size, S1.out.b.alloc S1.out.b.size _⟩
    · have hz : ((i : Int) == 0) = false := by simp; omega
      obtain ⟨hu1, hu2, hu3⟩ := hok.upAt hi (by omega)
      have HP := Lib.hid (pathN_step hok hi (by omega))
      have HIH := Lib.hid (fun z (hz : NodesV z (.slice a ns.length cap) ns) => ih (upAt ns i) hu1 hu2 _ z hz)
      have HLE := Lib.hid (pathN_len ns (upAt ns i : Int))
      obtain ⟨b, off, rfl, hlm, hbb, hna, _⟩ := HN.out.elem hi
      have HUP := Lib.hid hna.up
      rw [hu3] at HUP
      obtain ⟨u, hu⟩ : ∃ u, upAt ns i = u := ⟨_, rfl⟩
      rw [hu] at HUP HIH HP HLE
      have hik : (i : Int) < m := by rw [← hm.out]; omega
      rw [hm.out] at HD hi HIH
      clear hN ih hok hlm hna hu1 hu2 hu3 hu h0
      go_enter Try.func31, Try.ntmps31
      go_wp2_with (first
        | ((with_reducible refine at_load (.tmp 2) ?_); refine wpList_load_g 43 (.tmp 2) rfl w.heap.size rfl #[.slice (some ⟨b, off, none⟩) m cap] _ S0.out.t Try.underlying43 rfl hi1 rfl ?_)
        | (go_at_call 33; refine (HIS.out _ S0.out.b).mono ?_; rintro e w1 ⟨rfl, hb1⟩; rw [HD.out]; have S1 := Lib.hid (S0.out.call hb1); clear hb1))
      have SD : Hid (PaS w #[.slice (some ⟨b, off, none⟩) m cap] w1.drew) := S1.out.call ⟨rfl, rfl, rfl, Nat.le_refl _, fun _ _ => rfl⟩
      refine wp_region_held_drew (S := fun z => PaS w #[.slice (some ⟨b, off, none⟩) m cap] z) (by kernel_rfl) (SD.out) (fun _ => ?_)
      (try simp only [Act.put, List.setIfInBounds_toArray, List.set_cons_zero, List.set_cons_succ])
      refine held_load (oi := ⟨some 12, _, _, _, _, _⟩) 0 rfl (by kernel_rfl) (by kernel_rfl) (by kernel_rfl) (fun _ _ _ _ h => h) rfl 43 (.tmp 2) rfl w.heap.size 0 rfl [.slice (some ⟨b, off, none⟩) m cap] _ (fun u' hu => hu.t.rng) Try.underlying43 rfl hi1 SD.out ?_
      (try simp only [Act.put, List.setIfInBounds_toArray, List.set_cons_zero, List.set_cons_succ])
      refine wpAnyH_take (i := 1) (oi := ⟨some 13, _, _, _, _, _⟩) (v := .pointer (some ⟨w.heap.size, 0, none⟩)) rfl (by kernel_rfl) (by kernel_rfl) (by kernel_rfl) (fun _ _ _ h => h) (Or.inl ⟨by rfl, fun wz hz => ?_⟩) SD.out ?_
      · clear hz; go_simp; first | done | with_reducible rfl | rfl
      (try simp only [Act.put, List.setIfInBounds_toArray, List.set_cons_zero, List.set_cons_succ])
      refine held_load1 (oi := ⟨some 14, _, _, _, _, _⟩) 2 rfl (by kernel_rfl) (by kernel_rfl) (by kernel_rfl) (fun _ _ _ _ h => h) rfl 41 (.tmp 13) rfl w.heap.size (0) rfl (.slice (some ⟨b, off, none⟩) m cap) _ (fun u' hu => hu.t.cell 0) Try.underlying41 rfl SD.out ?_
      (try simp only [Act.put, List.setIfInBounds_toArray, List.set_cons_zero, List.set_cons_succ])
      refine wpAnyH_take (i := 3) (oi := ⟨some 15, _, _, _, _, _⟩) (v := .int .i64 i) rfl (by kernel_rfl) (by kernel_rfl) (by kernel_rfl) (fun _ _ _ h => h) (Or.inl ⟨by rfl, fun wz hz => ?_⟩) SD.out ?_
      · clear hz; go_simp; first | done | with_reducible rfl | rfl
      (try simp only [Act.put, List.setIfInBounds_toArray, List.set_cons_zero, List.set_cons_succ])
      refine wpAnyH_take (i := 4) (oi := ⟨some 16, _, _, _, _, _⟩) (v := .pointer (some ⟨b, off + i * 240, none⟩)) rfl (by kernel_rfl) (by kernel_rfl) (by kernel_rfl) (fun _ _ _ h => h) (Or.inl ⟨by rfl, fun wz hz => ?_⟩) SD.out ?_
      · clear hz; go_simp; first | done | with_reducible rfl | rfl
      (try simp only [Act.put, List.setIfInBounds_toArray, List.set_cons_zero, List.set_cons_succ])
      refine wpAnyH_take (i := 5) (oi := ⟨some 17, _, _, _, _, _⟩) (v := .pointer (some ⟨b, off + i * 240 + 238, none⟩)) rfl (by kernel_rfl) (by kernel_rfl) (by kernel_rfl) (fun _ _ _ h => h) (Or.inl ⟨by rfl, fun wz hz => ?_⟩) SD.out ?_
      · clear hz; go_simp; first | done | with_reducible rfl | rfl
      (try simp only [Act.put, List.setIfInBounds_toArray, List.set_cons_zero, List.set_cons_succ])
      refine held_load1 (oi := ⟨some 18, _, _, _, _, _⟩) 6 rfl (by kernel_rfl) (by kernel_rfl) (by kernel_rfl) (fun _ _ _ _ h => h) rfl 3 (.tmp 17) rfl b (off + i * 240 + 238) rfl (.int .i64 (u : Int)) _ (fun u' hu => (hu.b.cell (p := ⟨b, off + i * 240 + 238, none⟩) hbb).trans HUP.out) Try.underlying3 rfl SD.out ?_
      (try simp only [Act.put, List.setIfInBounds_toArray, List.set_cons_zero, List.set_cons_succ])
      refine wpAnyH_take (i := 8) (oi := ⟨some 20, _, _, _, _, _⟩) (v := .int .i64 i) rfl (by kernel_rfl) (by kernel_rfl) (by kernel_rfl) (fun _ _ _ h => h) (Or.inl ⟨by rfl, fun wz hz => ?_⟩) SD.out ?_
      · clear hz; go_simp; first | done | with_reducible rfl | rfl
      (try simp only [Act.put, List.setIfInBounds_toArray, List.set_cons_zero, List.set_cons_succ])
      refine wpAnyH_ready (rs := [7, 9]) (by kernel_rfl) (by simp) ?_
      refine AllReadyH.cons (o := ⟨some 19, _, _, _, _, _⟩) rfl (fun K hK => ?_) (AllReadyH.cons (o := ⟨some 21, _, _, _, _, _⟩) rfl (fun K hK => ?_) AllReadyH.nil)
      · skip
        have HSZ : Hid (w1.drew.heap.size ≤ w1.drew.heap.size) := Nat.le_refl _
        go_simp
        refine (HIH.out w1.drew (HN.out.call SD.out.b)).mono ?_
        rintro e w3 ⟨v3, rfl, ho3, hb3⟩
        have HO3 := Lib.hid ho3
        have HB3 := Lib.hid hb3
        have S3 := Lib.hid (SD.out.call hb3)
        clear ho3 hb3
        refine hK.out _ _ (S3.out) (fun _ => ?_)
        clear hK K
        (try simp only [Act.put, List.setIfInBounds_toArray, List.set_cons_zero, List.set_cons_succ])
        refine wpAnyH_ready (rs := [9]) (by kernel_rfl) (by simp) ?_
        refine AllReadyH.cons (o := ⟨some 21, _, _, _, _, _⟩) rfl (fun K hK => ?_) AllReadyH.nil
        refine wp_buildSlice 40 1 _ rfl #[(0, .int .i64 i)] (by simp [Act.eval, Act.put]) _ (bs_int i w3) ?_
        have hal : Below w3.heap.size w3 (w3.alloc (.cells #[.int .i64 (i : Int)] 3)) := (Below.refl _ _).alloc (Nat.le_refl _) _
        have HO4 := Lib.hid (HO3.out.call hal)
        have S4 := Lib.hid (S3.out.call hal)
        have HN4 : Hid (Ints .i64 (w3.alloc (.cells #[.int .i64 (i : Int)] 3)) (.slice (some ⟨w3.heap.size, 0, none⟩) 1 1) [(i : Int)]) := one_ints _ _
        have HBM : Hid (w1.drew.heap.size ≤ (w3.alloc (.cells #[.int .i64 (i : Int)] 3)).heap.size) := by have := HB3.out.size; have := hal.size; show _ ≤ _; omega
        clear hal
        refine hK.out _ _ (S4.out) (fun _ => ?_)
        clear hK K
        (try simp only [Act.put, List.setIfInBounds_toArray, List.set_cons_zero, List.set_cons_succ])
        refine wpAnyH_ready (rs := [10]) (by kernel_rfl) (by simp) ?_
        refine AllReadyH.cons (o := ⟨some 22, _, _, _, _, _⟩) rfl (fun K hK => ?_) AllReadyH.nil
        refine (fun hgo => wp_appK HII.out (by omega) Try.underlying40 (.tmp 19) (.tmp 21) rfl w1.drew.heap.size v3 (pathN ns (u : Int)) rfl HO4.out (.slice (some ⟨w3.heap.size, 0, none⟩) 1 1) [(i : Int)] rfl HN4.out (by have := HLE.out; have := HLM.out; simp; omega) (by first | exact Nat.le_refl _ | exact HB3.out.size | exact HBM.out) hgo) ?_
        intro v8 w8 ho8 hg8 _
        rw [← HP.out] at ho8
        have HO8 := Lib.hid ho8
        have S8 := Lib.hid (S4.out.grown hg8 (fun j hj => by have := (HO4.out.lt j hj).1; have := SD.out.t.lt; have := HSZ.out; omega))
        clear ho8 hg8
        refine hK.out _ _ (S8.out) (fun _ => ?_)
        clear hK K
        (try simp only [Act.put, List.setIfInBounds_toArray, List.set_cons_zero, List.set_cons_succ])
        refine wpAnyH_ready (rs := [11]) (by kernel_rfl) (by simp) ?_
        refine AllReadyH.cons (o := ⟨some 4, _, _, _, _, _⟩) rfl (fun K hK => ?_) AllReadyH.nil
        go_simp
        refine hK.out _ _ (S8.out) (fun _ => ?_)
        clear hK K
        (try simp only [Act.put, List.setIfInBounds_toArray, List.set_cons_zero, List.set_cons_succ])
        refine wpAnyH_done (by kernel_rfl) ?_ _
        go_wp2_with fail
        go_ret
        exact ⟨_, rfl, OwnK.lower HO8.out (by have := SD.out.b.size; have := HSZ.out; omega), S8.out.b⟩
      · skip
        refine wp_buildSlice 40 1 _ rfl #[(0, .int .i64 i)] (by simp [Act.eval, Act.put]) _ (bs_int i w1.drew) ?_
        have hal : Below w1.drew.heap.size w1.drew (w1.drew.alloc (.cells #[.int .i64 (i : Int)] 3)) := (Below.refl _ _).alloc (Nat.le_refl _) _
        have S4 := Lib.hid (SD.out.call hal)
        have HN4 : Hid (Ints .i64 (w1.drew.alloc (.cells #[.int .i64 (i : Int)] 3)) (.slice (some ⟨w1.drew.heap.size, 0, none⟩) 1 1) [(i : Int)]) := one_ints _ _
        have HSZ := Lib.hid hal.size
        clear hal
        refine hK.out _ _ (S4.out) (fun _ => ?_)
        clear hK K
        (try simp only [Act.put, List.setIfInBounds_toArray, List.set_cons_zero, List.set_cons_succ])
        refine wpAnyH_ready (rs := [7]) (by kernel_rfl) (by simp) ?_
        refine AllReadyH.cons (o := ⟨some 19, _, _, _, _, _⟩) rfl (fun K hK => ?_) AllReadyH.nil
        go_simp
        refine (HIH.out (w1.drew.alloc (.cells #[.int .i64 (i : Int)] 3)) (HN.out.call S4.out.b)).mono ?_
        rintro e w3 ⟨v3, rfl, ho3, hb3⟩
        have HO3 := Lib.hid ho3
        have HB3 := Lib.hid hb3
        have S3 := Lib.hid (S4.out.call hb3)
        clear ho3 hb3
        have HN5 := Lib.hid (HN4.out.below HB3.out)
        have HBM : Hid ((w1.drew.alloc (.cells #[.int .i64 (i : Int)] 3)).heap.size ≤ w3.heap.size) := HB3.out.size
        refine hK.out _ _ (S3.out) (fun _ => ?_)
        clear hK K
        (try simp only [Act.put, List.setIfInBounds_toArray, List.set_cons_zero, List.set_cons_succ])
        refine wpAnyH_ready (rs := [10]) (by kernel_rfl) (by simp) ?_
        refine AllReadyH.cons (o := ⟨some 22, _, _, _, _, _⟩) rfl (fun K hK => ?_) AllReadyH.nil
        refine (fun hgo => wp_appK HII.out (by omega) Try.underlying40 (.tmp 19) (.tmp 21) rfl (w1.drew.alloc (.cells #[.int .i64 (i : Int)] 3)).heap.size v3 (pathN ns (u : Int)) rfl HO3.out (.slice (some ⟨w1.drew.heap.size, 0, none⟩) 1 1) [(i : Int)] rfl HN5.out (by have := HLE.out; have := HLM.out; simp; omega) (by first | exact Nat.le_refl _ | exact HB3.out.size | exact HBM.out) hgo) ?_
        intro v8 w8 ho8 hg8 _
        rw [← HP.out] at ho8
        have HO8 := Lib.hid ho8
        have S8 := Lib.hid (S3.out.grown hg8 (fun j hj => by have := (HO3.out.lt j hj).1; have := SD.out.t.lt; have := HSZ.out; omega))
        clear ho8 hg8
        refine hK.out _ _ (S8.out) (fun _ => ?_)
        clear hK K
        (try simp only [Act.put, List.setIfInBounds_toArray, List.set_cons_zero, List.set_cons_succ])
        refine wpAnyH_ready (rs := [11]) (by kernel_rfl) (by simp) ?_
        refine AllReadyH.cons (o := ⟨some 4, _, _, _, _, _⟩) rfl (fun K hK => ?_) AllReadyH.nil
        go_simp
        refine hK.out _ _ (S8.out) (fun _ => ?_)
        clear hK K
        (try simp only [Act.put, List.setIfInBounds_toArray, List.set_cons_zero, List.set_cons_succ])
        refine wpAnyH_done (by kernel_rfl) ?_ _
        go_wp2_with fail
        go_ret
        exact ⟨_, rfl, OwnK.lower HO8.out (by have := SD.out.b.size; have := HSZ.out; omega), S8.out.b⟩
end

/-! TrG -/
section
set_option linter.unusedVariables false
set_option linter.unusedSimpArgs false
open Go.RowKit

set_option maxRecDepth 100000

theorem path_any (ns : List NdD) (hok : TrOK ns) (hlen : ns.length ≤ 100000) (i : Int) (v : Value) (w : World) (hN : NodesV w v ns) :
    Calls Try.prog 31 #[.agg #[v], .int .i64 i] w (PathE ns i w) := by
  by_cases h : 0 ≤ i ∧ i < ns.length
  · obtain ⟨k, rfl⟩ : ∃ k : Nat, i = k := ⟨i.toNat, by omega⟩
    exact path_in ns hok hlen k (by omega) v w hN
  · exact path_out v ns i w hN h

theorem path_ints {ns : List NdD} (hok : TrOK ns) (hlen : ns.length ≤ 100000) {i : Int} {w : World} {B : Nat} {v : Value} (h : OwnK .i64 3 w B v (pathN ns i)) : IntsV w v (pathN ns i) :=
  ⟨h.ints (by have := pathN_len ns i; unfold maxLen; omega), fun x hx => by have := pathN_rng hok i x hx; omega⟩

theorem isan_any (ns : List NdD) (hok : TrOK ns) (hlen : ns.length ≤ 100000) (a b : Int) (v : Value) (w : World) (hN : NodesV w v ns) :
    Calls Try.prog 19 #[.agg #[v], .int .i64 a, .int .i64 b] w fun e w' => e = .returned (.bool (decide (a ∈ pathN ns b))) ∧ Below w.heap.size w w' := by
  have HPA := Lib.hid (fun u (hu : Below w.heap.size w u) => path_any ns hok hlen b v u (hN.call hu))
  have HPI := Lib.hid (fun (u : World) B x (h : OwnK .i64 3 u B x (pathN ns b)) => path_ints hok hlen h)
  have S0 := Lib.hid (pas_new w #[v] 43)
  have hi1 : (Try.prog.info? 43).map (·.size) = some 1 := by kernel_rfl
  obtain ⟨q, hq⟩ : ∃ q, Hid (decide (a ∈ pathN ns b) = q) := ⟨_, Lib.hid rfl⟩
  rw [hq.out]
  clear hN hok hlen
  go_enter Try.func19, Try.ntmps19
  go_wp2_with (first
    | ((with_reducible refine at_load (.tmp 3) ?_); refine wpList_load_g 43 (.tmp 3) rfl w.heap.size rfl #[v] _ S0.out.t Try.underlying43 rfl hi1 rfl ?_)
    | (go_at_call 31; refine (HPA.out _ S0.out.b).mono ?_; rintro e w1 ⟨v1, rfl, ho1, hb1⟩; have HI1 := Lib.hid (HPI.out _ _ _ ho1); have S1 := Lib.hid (S0.out.call hb1); clear ho1 hb1)
    | (go_at_call 30; refine (has_any _ _ a w1 HI1.out).mono ?_; rintro e w2 ⟨rfl, hb2⟩; rw [hq.out]; have S2 := Lib.hid (S1.out.call hb2); clear hb2))
  go_ret
  exact ⟨rfl, S2.out.b⟩

/-- The numbers below k with this property, in order. -/
def selK (p : Nat → Bool) : Nat → List Int
  | 0 => []
  | k + 1 => if p k then selK p k ++ [(k : Int)] else selK p k

theorem selK_yes {p : Nat → Bool} {k : Nat} (h : p k = true) : selK p (k + 1) = selK p k ++ [(k : Int)] := by show (if p k = true then selK p k ++ [(k : Int)] else selK p k) = _; rw [if_pos h]

theorem selK_no {p : Nat → Bool} {k : Nat} (h : p k = false) : selK p (k + 1) = selK p k := by show (if p k = true then selK p k ++ [(k : Int)] else selK p k) = _; rw [if_neg (by rw [h]; simp)]

theorem selK_len (p : Nat → Bool) : ∀ k, (selK p k).length ≤ k
  | 0 => by simp [selK]
  | k + 1 => by
    have := selK_len p k
    cases h : p k
    · rw [selK_no h]; omega
    · rw [selK_yes h]; simp; omega

theorem selK_mem {p : Nat → Bool} {x : Int} : ∀ {k : Nat}, x ∈ selK p k ↔ ∃ j : Nat, j < k ∧ x = j ∧ p j = true
  | 0 => by simp [selK]
  | k + 1 => by
    cases h : p k
    · rw [selK_no h, selK_mem]
      constructor
      · rintro ⟨j, h1, h2, h3⟩; exact ⟨j, by omega, h2, h3⟩
      · rintro ⟨j, h1, h2, h3⟩
        by_cases e : j = k
        · subst e; rw [h] at h3; cases h3
        · exact ⟨j, by omega, h2, h3⟩
    · rw [selK_yes h, List.mem_append, selK_mem, List.mem_singleton]
      constructor
      · rintro (⟨j, h1, h2, h3⟩ | h4)
        · exact ⟨j, by omega, h2, h3⟩
        · exact ⟨k, by omega, h4, h⟩
      · rintro ⟨j, h1, h2, h3⟩
        by_cases e : j = k
        · subst e; exact .inr h2
        · exact .inl ⟨j, by omega, h2, h3⟩

theorem selK_rng (p : Nat → Bool) (k : Nat) : ∀ x ∈ selK p k, 0 ≤ x ∧ x < k := fun x hx => by
  obtain ⟨j, h1, rfl, _⟩ := selK_mem.1 hx; omega

/-- A loop that lists what has the property. -/
def SelI (w : World) (T : Array Value) (p : Nat → Bool) (m : Nat) (v i : Value) (wr : World) : Prop :=
  ∃ k : Nat, k ≤ m ∧ i = .int .i64 k ∧ OwnK .i64 3 wr (w.heap.size + 1) v (selK p k) ∧ PaS w T wr

theorem OwnK.off1 {w wr : World} {v : Value} {xs : List Int} (h : OwnK .i64 3 wr (w.heap.size + 1) v xs) : ∀ j, v.ownBlock = some j → w.heap.size < j := fun j hj => by have := (h.lt j hj).1; omega

/-- What such a function promises. -/
def SelE (l : List Int) (w : World) (e : Ending) (w' : World) : Prop := ∃ v', e = .returned v' ∧ OwnK .i64 3 w' w.heap.size v' l ∧ Below w.heap.size w w'

def descN (ns : List NdD) (i : Int) : List Int := selK (fun k => decide (i ∈ pathN ns (k : Int))) ns.length
end

/-! WeD -/
section
set_option linter.unusedVariables false
set_option linter.unusedSimpArgs false
open Go.RowKit

set_option maxRecDepth 100000

/-- The sum of the entries that d names. -/
def sumDl (dl d : List Int) : Nat → Int
  | 0 => 0
  | k + 1 => IntKind.u64.wrap (sumDl dl d k + dl.getD (d.getD k 0).toNat 0)

theorem sumDl_succ (dl d : List Int) (k : Nat) : sumDl dl d (k + 1) = IntKind.u64.wrap (sumDl dl d k + dl.getD (d.getD k 0).toNat 0) := rfl

def sbtV (ns : List NdD) (dl : List Int) (i : Int) : Int := sumDl dl (descN ns i) (descN ns i).length

def sbtL (ns : List NdD) (dl : List Int) : Nat → List Int
  | 0 => []
  | k + 1 => sbtL ns dl k ++ [sbtV ns dl (k : Int)]

theorem sbtL_succ (ns : List NdD) (dl : List Int) (k : Nat) : sbtL ns dl (k + 1) = sbtL ns dl k ++ [sbtV ns dl (k : Int)] := rfl

theorem sbtL_len (ns : List NdD) (dl : List Int) : ∀ k, (sbtL ns dl k).length = k
  | 0 => rfl
  | k + 1 => by rw [sbtL_succ, List.length_append, sbtL_len ns dl k]; rfl

theorem descN_len (ns : List NdD) (i : Int) : (descN ns i).length ≤ ns.length := by unfold descN; exact selK_len _ _

theorem descN_rng (ns : List NdD) (i : Int) {k : Nat} (hk : k < (descN ns i).length) : 0 ≤ (descN ns i).getD k 0 ∧ (descN ns i).getD k 0 < ns.length := by
  rw [getD_at hk]
  exact selK_rng _ _ _ (by unfold descN; exact List.getElem_mem _)

theorem desc_ints (ns : List NdD) (i : Int) (hlen : ns.length ≤ 100000) {w : World} {B : Nat} {v : Value} (h : OwnK .i64 3 w B v (descN ns i)) : IntsV w v (descN ns i) :=
  ⟨h.ints (by have := descN_len ns i; unfold maxLen; omega), fun x hx => by have := selK_rng _ _ x (by unfold descN at hx; exact hx); omega⟩

theorem OwnK.off1u {w wr : World} {v : Value} {xs : List Int} (h : OwnK .u64 22 wr (w.heap.size + 1) v xs) : ∀ j, v.ownBlock = some j → w.heap.size < j := fun j hj => by have := (h.lt j hj).1; omega
end

/-! WeE -/
section
set_option linter.unusedVariables false
set_option linter.unusedSimpArgs false
open Go.RowKit

set_option maxRecDepth 100000

/-- Two variables, and what was before. -/
structure PaD (w : World) (T V : Array Value) (u : World) : Prop where
  t : Blk u w.heap.size T
  v : Blk u (w.heap.size + 1) V
  b : Below w.heap.size w u

theorem PaD.call {w u u' : World} {T V : Array Value} (h : PaD w T V u) (hb : Below u.heap.size u u') : PaD w T V u' := ⟨h.t.call hb, h.v.call hb, h.b.trans (hb.mono h.b.size)⟩

theorem PaD.grown {w u u' : World} {T V : Array Value} {row : Option Nat} (h : PaD w T V u) (hg : u.grownBy u' row) (hr : ∀ j, row = some j → w.heap.size + 1 < j) : PaD w T V u' :=
  ⟨h.t.grown hg (fun e => by have := hr _ e.symm; omega), h.v.grown hg (fun e => by have := hr _ e.symm; omega), h.b.grown hg h.b.size (fun j hj => by have := hr j hj; omega)⟩

theorem pad_new (w : World) (T V : Array Value) (t s : TypeId) : PaD w T V ((w.alloc (.cells T t)).alloc (.cells V s)) := by
  have h1 : Blk (w.alloc (.cells T t)) w.heap.size T := Blk.new rfl
  have hb : Below (w.alloc (.cells T t)).heap.size (w.alloc (.cells T t)) ((w.alloc (.cells T t)).alloc (.cells V s)) := (Below.refl _ _).alloc (Nat.le_refl _) _
  exact ⟨h1.call hb, Blk.new (by simp), ((Below.refl w.heap.size w).alloc (Nat.le_refl _) (.cells T t)).trans (hb.mono (by simp))⟩

theorem one_roots {r : List Int} (hr : IsBytes 32 r) (u : World) : RootsV (u.alloc (.cells (bytesL r).toArray 28)) (.slice (some ⟨u.heap.size, 0, none⟩) 1 1) [r] := by
  have hB : Blk (u.alloc (.cells (bytesL r).toArray 28)) u.heap.size (bytesL r).toArray := Blk.new rfl
  refine ⟨_, _, rfl, by unfold maxLen; simp, .inr ⟨u.heap.size, 0, rfl, hB.lt, [(bytesL r).toArray], ?_, by simp, ?_⟩⟩
  · have e : rowsL [(bytesL r).toArray] = bytesL r := by simp [rowsL]
    rw [e]; exact hB.range
  · intro p hp
    simp only [List.zip_cons_cons, List.zip_nil_right, List.mem_singleton] at hp
    subst hp
    exact ⟨rfl, hr⟩

def dirV (vs : List VoD) (es bs : List Int) (x : NdD) : Int := if x.st = 2 then 0 else weiN vs es bs [x.b.root]

def dirL (ns : List NdD) (vs : List VoD) (es bs : List Int) (k : Nat) : List Int := (ns.take k).map (dirV vs es bs)

theorem dirL_succ {ns : List NdD} (vs : List VoD) (es bs : List Int) {k : Nat} (hk : k < ns.length) : dirL ns vs es bs (k + 1) = dirL ns vs es bs k ++ [dirV vs es bs ns[k]] := by
  unfold dirL
  rw [List.take_add_one, List.getElem?_eq_getElem hk, List.map_append]; rfl

theorem dirL_len {ns : List NdD} (vs : List VoD) (es bs : List Int) {k : Nat} (hk : k ≤ ns.length) : (dirL ns vs es bs k).length = k := by
  unfold dirL; simp; omega

theorem OwnK.off2u {w wr : World} {v : Value} {xs : List Int} (h : OwnK .u64 22 wr (w.heap.size + 2) v xs) : ∀ j, v.ownBlock = some j → w.heap.size + 1 < j := fun j hj => by have := (h.lt j hj).1; omega
end

/-! PrA -/
section
set_option linter.unusedVariables false
set_option linter.unusedSimpArgs false
open Go.RowKit

set_option maxRecDepth 100000
/-! ### The numbers below k with a property, and how many they are -/

def selN (p : Nat → Bool) : Nat → List Nat
  | 0 => []
  | k + 1 => if p k = true then selN p k ++ [k] else selN p k

def cntK (p : Nat → Bool) : Nat → Nat
  | 0 => 0
  | k + 1 => if p k = true then cntK p k + 1 else cntK p k

theorem selN_len (p : Nat → Bool) : ∀ k, (selN p k).length = cntK p k
  | 0 => rfl
  | k + 1 => by
    have := selN_len p k
    rw [selN, cntK]; split
    · rw [List.length_append, this]; rfl
    · exact this

theorem cntK_mono (p : Nat → Bool) {j : Nat} : ∀ {k}, j ≤ k → cntK p j ≤ cntK p k
  | 0, h => by obtain rfl : j = 0 := by omega
               exact Nat.le_refl _
  | k + 1, h => by
    by_cases e : j = k + 1
    · rw [e]; exact Nat.le_refl _
    · have := cntK_mono p (j := j) (k := k) (by omega)
      rw [cntK]; split <;> omega

theorem cntK_lt {p : Nat → Bool} {j k : Nat} (h : j < k) (hp : p j = true) : cntK p j < cntK p k := by
  have h1 := cntK_mono p (j := j + 1) (k := k) (by omega)
  rw [cntK, if_pos hp] at h1
  omega

theorem cntK_le (p : Nat → Bool) : ∀ k, cntK p k ≤ k
  | 0 => Nat.le_refl _
  | k + 1 => by have := cntK_le p k; rw [cntK]; split <;> omega

theorem selN_at {p : Nat → Bool} {j : Nat} (hp : p j = true) : ∀ {k}, j < k → (selN p k)[cntK p j]? = some j
  | 0, h => by omega
  | k + 1, h => by
    rw [selN]
    by_cases e : j = k
    · subst e
      rw [if_pos hp, List.getElem?_append_right (by rw [selN_len]; exact Nat.le_refl _), selN_len, Nat.sub_self]
      rfl
    · have h1 := selN_at hp (k := k) (by omega)
      split
      · rw [List.getElem?_append_left (by rw [selN_len]; exact cntK_lt (by omega) hp)]; exact h1
      · exact h1

theorem selN_of {p : Nat → Bool} {q : Nat} : ∀ {k}, q < cntK p k → ∃ j, j < k ∧ p j = true ∧ cntK p j = q
  | 0, h => by simp [cntK] at h
  | k + 1, h => by
    by_cases e : q < cntK p k
    · obtain ⟨j, h1, h2⟩ := selN_of e
      exact ⟨j, by omega, h2⟩
    · rw [cntK] at h
      split at h
      · rename_i hp; exact ⟨k, by omega, hp, by omega⟩
      · exact absurd h e

/-- Whether node k is node i or one of its descendants. -/
def keptB (ns : List NdD) (i k : Nat) : Bool := decide ((i : Int) ∈ pathN ns (k : Int))

def ndZ : NdD := ⟨⟨⟨0, []⟩, ⟨0, []⟩, 0, [], [], [], 0, 0, ⟨0, []⟩, ⟨0, []⟩, false⟩, 0, 0⟩

def ndN (ns : List NdD) (j : Nat) : NdD := (ns[j]?).getD ndZ

theorem ndN_at {ns : List NdD} {j : Nat} (h : j < ns.length) : ndN ns j = ns[j] := by simp [ndN, List.getElem?_eq_getElem h]

def nodeK (ns : List NdD) (i j : Nat) : NdD := ⟨(ndN ns j).b, if j = i then -1 else (cntK (keptB ns i) (upAt ns j) : Int), (ndN ns j).st⟩

def pruK (ns : List NdD) (i k : Nat) : List NdD := (selN (keptB ns i) k).map (nodeK ns i)

def pruN (ns : List NdD) (i : Nat) : List NdD := pruK ns i ns.length

/-- The list of new indices. -/
def idxK (ns : List NdD) (i k : Nat) : List Int := (List.range k).map fun j => if keptB ns i j = true then (cntK (keptB ns i) j : Int) else -1

theorem pruK_yes {ns : List NdD} {i k : Nat} (h : keptB ns i k = true) : pruK ns i (k + 1) = pruK ns i k ++ [nodeK ns i k] ∧ idxK ns i (k + 1) = idxK ns i k ++ [(cntK (keptB ns i) k : Int)] := by
  refine ⟨?_, ?_⟩
  · unfold pruK; rw [selN, if_pos h, List.map_append]; rfl
  · unfold idxK; rw [List.range_succ, List.map_append]; simp [h]

theorem pruK_no {ns : List NdD} {i k : Nat} (h : keptB ns i k = false) : pruK ns i (k + 1) = pruK ns i k ∧ idxK ns i (k + 1) = idxK ns i k ++ [-1] := by
  refine ⟨?_, ?_⟩
  · unfold pruK; rw [selN, if_neg (by rw [h]; simp)]
  · unfold idxK; rw [List.range_succ, List.map_append]; simp [h]

theorem pruK_len (ns : List NdD) (i k : Nat) : (pruK ns i k).length = cntK (keptB ns i) k := by unfold pruK; rw [List.length_map, selN_len]

theorem idxK_len (ns : List NdD) (i k : Nat) : (idxK ns i k).length = k := by simp [idxK]

theorem idxK_at {ns : List NdD} {i k j : Nat} (hj : j < k) (h : keptB ns i j = true) : (idxK ns i k).getD j 0 = cntK (keptB ns i) j := by
  simp [idxK, List.getD, hj, h]

theorem kept_self {ns : List NdD} (h : TrOK ns) {i : Nat} (hi : i < ns.length) : keptB ns i i = true := by
  unfold keptB
  simp only [decide_eq_true_eq]
  by_cases h0 : i = 0
  · subst h0
    rw [show ((0 : Nat) : Int) = 0 from rfl, pathN_zero h.pos]; simp
  · rw [pathN_step h hi (by omega)]; simp

theorem kept_le {ns : List NdD} (h : TrOK ns) {i k : Nat} (hk : k < ns.length) (hp : keptB ns i k = true) : i ≤ k := by
  unfold keptB at hp
  simp only [decide_eq_true_eq] at hp
  have := pathN_mem h k hk _ hp
  omega

/-- A kept node that is not node i itself has a kept parent. -/
theorem kept_up {ns : List NdD} (h : TrOK ns) {i k : Nat} (hk : k < ns.length) (hp : keptB ns i k = true) (hne : k ≠ i) : 0 < k ∧ keptB ns i (upAt ns k) = true ∧ upAt ns k < k := by
  have hle := kept_le h hk hp
  have h0 : 0 < k := by omega
  refine ⟨h0, ?_, (h.upAt hk h0).1⟩
  unfold keptB at hp ⊢
  simp only [decide_eq_true_eq] at hp ⊢
  rw [pathN_step h hk h0] at hp
  rcases List.mem_append.1 hp with hm | hm
  · exact hm
  · have := List.mem_singleton.1 hm; omega

theorem cnt_before {ns : List NdD} (h : TrOK ns) {i : Nat} : ∀ k, k ≤ i → i < ns.length → cntK (keptB ns i) k = 0
  | 0, _, _ => rfl
  | k + 1, hk, hi => by
    have h1 := cnt_before h k (by omega) hi
    rw [cntK]
    split
    · rename_i hp
      have := kept_le h (by omega) hp
      omega
    · exact h1

/-- The nodes that are left, one by one. -/
theorem pruN_at {ns : List NdD} {i j : Nat} (hj : j < ns.length) (hp : keptB ns i j = true) : (pruN ns i)[cntK (keptB ns i) j]? = some (nodeK ns i j) := by
  unfold pruN pruK
  rw [List.getElem?_map, selN_at hp hj]; rfl

theorem pruN_of {ns : List NdD} {i q : Nat} (hq : q < (pruN ns i).length) : ∃ j, j < ns.length ∧ keptB ns i j = true ∧ cntK (keptB ns i) j = q ∧ (pruN ns i)[q] = nodeK ns i j := by
  have hl : (pruN ns i).length = cntK (keptB ns i) ns.length := pruK_len ns i _
  obtain ⟨j, h1, h2, h3⟩ := selN_of (p := keptB ns i) (q := q) (k := ns.length) (by omega)
  refine ⟨j, h1, h2, h3, ?_⟩
  have h4 := pruN_at h1 h2
  rw [h3] at h4
  exact (List.getElem?_eq_some_iff.1 h4).2

theorem pru_ok {ns : List NdD} (h : TrOK ns) {i : Nat} (hi : i < ns.length) : TrOK (pruN ns i) where
  pos := by
    have hl : (pruN ns i).length = cntK (keptB ns i) ns.length := pruK_len ns i _
    have := cntK_lt hi (kept_self h hi)
    omega
  root := fun h0 => by
    obtain ⟨j, h1, h2, h3, h4⟩ := pruN_of h0
    have hji : j = i := by
      have hle := kept_le h h1 h2
      by_cases e : j = i
      · exact e
      · have := cntK_lt (p := keptB ns i) (j := i) (k := j) (by omega) (kept_self h hi)
        omega
    rw [h4, hji]
    simp [nodeK]
  up := fun q hq h0 => by
    obtain ⟨j, h1, h2, h3, h4⟩ := pruN_of hq
    have hji : j ≠ i := fun e => by
      have := cnt_before h i (Nat.le_refl _) hi
      rw [e] at h3; omega
    obtain ⟨hj0, hu, hul⟩ := kept_up h h1 h2 hji
    obtain ⟨hu1, hu2, hu3⟩ := h.upAt h1 hj0
    obtain ⟨u, hul', hulj, e1, e2, e3, e4, e5⟩ := h.up j h1 hj0
    have eu : upAt ns j = u := by rw [e1] at hu3; omega
    have hat := pruN_at hu2 hu
    have hlt := cntK_lt (p := keptB ns i) hul hu
    have hcu : cntK (keptB ns i) (upAt ns j) < (pruN ns i).length := by omega
    have hel : (pruN ns i)[cntK (keptB ns i) (upAt ns j)] = nodeK ns i (upAt ns j) := (List.getElem?_eq_some_iff.1 hat).2
    refine ⟨cntK (keptB ns i) (upAt ns j), hcu, by omega, ?_, ?_, ?_, ?_, ?_⟩
    · rw [h4]; simp [nodeK, hji]
    · rw [h4, hel]; simp only [nodeK]; rw [ndN_at h1, ndN_at hu2]; subst eu; exact e2
    · rw [h4, hel]; simp only [nodeK]; rw [ndN_at h1, ndN_at hu2]; subst eu; exact e3
    · rw [h4, hel]; simp only [nodeK]; rw [ndN_at h1, ndN_at hu2]; subst eu; exact e4
    · rw [h4, hel]; simp only [nodeK]; rw [ndN_at h1, ndN_at hu2]; subst eu; exact e5
  ne := fun p q hp hq hlt => by
    obtain ⟨j, h1, h2, h3, h4⟩ := pruN_of hp
    obtain ⟨k, k1, k2, k3, k4⟩ := pruN_of hq
    rw [h4, k4]
    simp only [nodeK]
    rw [ndN_at h1, ndN_at k1]
    have hjk : j < k := by
      rcases Nat.lt_or_ge j k with h' | h'
      · exact h'
      · have := cntK_mono (keptB ns i) h'; omega
    exact h.ne j k h1 k1 hjk
  st := fun q hq => by
    obtain ⟨j, h1, h2, h3, h4⟩ := pruN_of hq
    rw [h4]
    simp only [nodeK]
    rw [ndN_at h1]
    exact h.st j h1

theorem pruN_len (ns : List NdD) (i : Nat) : (pruN ns i).length ≤ ns.length := by
  have hl : (pruN ns i).length = cntK (keptB ns i) ns.length := pruK_len ns i _
  have := cntK_le (keptB ns i) ns.length
  omega

/-- A kept node is found again. -/
theorem pru_find {ns : List NdD} (h : TrOK ns) {i : Nat} (hi : i < ns.length) {j : Nat} (hj : j < ns.length) (hp : keptB ns i j = true) : findN (pruN ns i) ns[j].b.root = cntK (keptB ns i) j ∧ (ndN (pruN ns i) (cntK (keptB ns i) j)).st = ns[j].st ∧ (ndN (pruN ns i) (cntK (keptB ns i) j)).b = ns[j].b := by
  have hat := pruN_at hj hp
  obtain ⟨hq, he⟩ := List.getElem?_eq_some_iff.1 hat
  have hf := (pru_ok h hi).find hq
  rw [he] at hf
  have e1 : (nodeK ns i j).b = ns[j].b := by simp only [nodeK]; rw [ndN_at hj]
  rw [e1] at hf
  refine ⟨hf, ?_, ?_⟩
  · rw [ndN_at hq, he]; simp only [nodeK]; rw [ndN_at hj]
  · rw [ndN_at hq, he]; exact e1
end

end Go.Proofs.Ytidimiioglgliaa
