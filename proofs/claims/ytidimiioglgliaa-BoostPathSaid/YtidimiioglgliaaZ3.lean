/- Several texts as one: TsA, VoB, VoC, VoD, VoE, VoG, TsB, TsC, TsD, TrN, WgA, BtA, BsB, TrC. -/
import Derived.Test.YtidimiioglgliaaZ2
import Derived.Test.YtidimiioglgliaaZ1
import Derived.Deep.CutRange
import Derived.Deep.RegionHeld3
import Derived.Test.YtidimiioglgliaaShelf
import Derived.Test.YtidimiioglgliaaPas
namespace Go.Proofs.Ytidimiioglgliaa

/-! TsA -/
section
set_option linter.unusedVariables false
set_option linter.unusedSimpArgs false
open Go.RowKit

set_option maxRecDepth 100000

/-- The nodes with property p get status s. -/
def stN (ns : List NdD) (p : Nat → Bool) (s : Int) : List NdD := ns.mapIdx fun j d => if p j = true then ⟨d.b, d.up, s⟩ else d

theorem stN_len (ns : List NdD) (p : Nat → Bool) (s : Int) : (stN ns p s).length = ns.length := by simp [stN]

theorem stN_at (ns : List NdD) (p : Nat → Bool) (s : Int) {j : Nat} (hj : j < ns.length) (hj' : j < (stN ns p s).length) : (stN ns p s)[j] = if p j = true then ⟨ns[j].b, ns[j].up, s⟩ else ns[j] := by simp [stN]

theorem stN_b (ns : List NdD) (p : Nat → Bool) (s : Int) {j : Nat} (hj : j < ns.length) (hj' : j < (stN ns p s).length) : (stN ns p s)[j].b = ns[j].b ∧ (stN ns p s)[j].up = ns[j].up ∧ (stN ns p s)[j].st = if p j = true then s else ns[j].st := by
  rw [stN_at ns p s hj hj']
  by_cases h : p j = true
  · simp [h]
  · simp [h]

theorem stN_none (ns : List NdD) (s : Int) : stN ns (fun _ => false) s = ns := by
  apply List.ext_getElem (stN_len _ _ _)
  intro j h1 h2
  rw [stN_at ns _ s h2 h1]; simp

theorem stN_set {ns : List NdD} {p : Nat → Bool} {s : Int} {j : Nat} (hj : j < ns.length) {d : NdD} (hd : (stN ns p s)[j]? = some d) : (stN ns p s).set j ⟨d.b, d.up, s⟩ = stN ns (fun k => p k || decide (k = j)) s := by
  have hd' : d.b = ns[j].b ∧ d.up = ns[j].up := by
    obtain ⟨hl, e⟩ := List.getElem?_eq_some_iff.1 hd
    have := stN_b ns p s hj hl
    rw [← e]; exact ⟨this.1, this.2.1⟩
  apply List.ext_getElem (by simp [stN_len])
  intro k h1 h2
  have hk : k < ns.length := by simpa [stN_len] using h2
  rw [stN_at ns _ s hk h2, List.getElem_set]
  by_cases e : j = k
  · subst e; simp [hd'.1, hd'.2]
  · have e' : k ≠ j := fun h => e h.symm
    rw [if_neg e, stN_at ns p s hk (by rw [stN_len]; exact hk)]
    simp [e']

theorem upAt_st (ns : List NdD) (p : Nat → Bool) (s : Int) (j : Nat) : upAt (stN ns p s) j = upAt ns j := by
  unfold upAt
  by_cases hj : j < ns.length
  · have hj' : j < (stN ns p s).length := by rw [stN_len]; exact hj
    rw [List.getElem?_eq_getElem hj, List.getElem?_eq_getElem hj']
    simp [(stN_b ns p s hj hj').2.1]
  · rw [List.getElem?_eq_none (l := ns) (by omega), List.getElem?_eq_none (l := stN ns p s) (by rw [stN_len]; omega)]

theorem pathF_st (ns : List NdD) (p : Nat → Bool) (s : Int) : ∀ f i, pathF (stN ns p s) f i = pathF ns f i
  | 0, _ => rfl
  | f + 1, i => by
    show (if i = 0 then [0] else pathF (stN ns p s) f (upAt (stN ns p s) i) ++ [(i : Int)]) = (if i = 0 then [0] else pathF ns f (upAt ns i) ++ [(i : Int)])
    rw [upAt_st, pathF_st ns p s f]

theorem pathN_st (ns : List NdD) (p : Nat → Bool) (s i : Int) : pathN (stN ns p s) i = pathN ns i := by
  unfold pathN; rw [stN_len, pathF_st]

theorem findGo_st (ns : List NdD) (p : Nat → Bool) (s : Int) (r : List Int) : ∀ f i, findGo (stN ns p s) r f i = findGo ns r f i
  | 0, _ => rfl
  | f + 1, i => by
    unfold findGo
    have e : ((stN ns p s)[i]?).map (fun d => d.b.root) = (ns[i]?).map (fun d => d.b.root) := by
      by_cases hj : i < ns.length
      · have hj' : i < (stN ns p s).length := by rw [stN_len]; exact hj
        rw [List.getElem?_eq_getElem hj, List.getElem?_eq_getElem hj']
        simp [(stN_b ns p s hj hj').1]
      · rw [List.getElem?_eq_none (l := ns) (by omega), List.getElem?_eq_none (l := stN ns p s) (by rw [stN_len]; omega)]
    rw [e, findGo_st ns p s r f]

theorem findN_st (ns : List NdD) (p : Nat → Bool) (s : Int) (r : List Int) : findN (stN ns p s) r = findN ns r := by
  unfold findN; rw [stN_len, findGo_st]

/-- A path holds the parent of each of its nodes. -/
theorem path_upS {ns : List NdD} (h : TrOK ns) : ∀ i : Nat, i < ns.length → ∀ j : Nat, (j : Int) ∈ pathN ns (i : Int) → 0 < j → (upAt ns j : Int) ∈ pathN ns (i : Int) := by
  intro i
  induction i using Nat.strongRecOn with
  | ind i ih =>
    intro hi j hj h0
    by_cases hi0 : i = 0
    · subst hi0
      rw [show ((0 : Nat) : Int) = 0 from rfl, pathN_zero h.pos] at hj
      have := List.mem_singleton.1 hj
      omega
    · obtain ⟨h1, h2, _⟩ := h.upAt hi (by omega)
      rw [pathN_step h hi (by omega)] at hj ⊢
      rcases List.mem_append.1 hj with hm | hm
      · exact List.mem_append_left _ (ih _ h1 h2 j hm h0)
      · have e : j = i := by have := List.mem_singleton.1 hm; omega
        subst e
        refine List.mem_append_left _ ?_
        by_cases hu : upAt ns j = 0
        · rw [hu, show ((0 : Nat) : Int) = 0 from rfl, pathN_zero h.pos]; simp
        · rw [pathN_step h h2 (by omega)]; simp

/-- A tree stays one where the statuses keep their order. -/
theorem stN_ok {ns : List NdD} (h : TrOK ns) (p : Nat → Bool) {s : Int} (hs : 0 ≤ s ∧ s ≤ 2)
    (hc : ∀ j u (hj : j < ns.length) (hu : u < ns.length), 0 < j → upAt ns j = u → ((if p j = true then s else ns[j].st) = 1 → (if p u = true then s else ns[u].st) = 1) ∧ ((if p u = true then s else ns[u].st) = 2 → (if p j = true then s else ns[j].st) = 2)) : TrOK (stN ns p s) where
  pos := by rw [stN_len]; exact h.pos
  root := fun h0 => by
    have h0' : 0 < ns.length := by rw [stN_len] at h0; exact h0
    rw [(stN_b ns p s h0' h0).2.1]; exact h.root h0'
  up := fun i hi h0 => by
    have hi' : i < ns.length := by rw [stN_len] at hi; exact hi
    obtain ⟨u, hu, e0, e1, e2, e3, e4, e5⟩ := h.up i hi' h0
    have hu' : u < (stN ns p s).length := by rw [stN_len]; exact hu
    obtain ⟨a1, a2, a3⟩ := stN_b ns p s hi' hi
    obtain ⟨b1, b2, b3⟩ := stN_b ns p s hu hu'
    have eu : upAt ns i = u := by have := (h.upAt hi' h0).2.2; rw [e1] at this; omega
    obtain ⟨c1, c2⟩ := hc i u hi' hu h0 eu
    refine ⟨u, hu', e0, by rw [a2]; exact e1, by rw [a1, b1]; exact e2, by rw [a1, b1]; exact e3, by rw [a3, b3]; exact c1, by rw [a3, b3]; exact c2⟩
  ne := fun i j hi hj hl => by
    have hi' : i < ns.length := by rw [stN_len] at hi; exact hi
    have hj' : j < ns.length := by rw [stN_len] at hj; exact hj
    rw [(stN_b ns p s hi' hi).1, (stN_b ns p s hj' hj).1]; exact h.ne i j hi' hj' hl
  st := fun i hi => by
    have hi' : i < ns.length := by rw [stN_len] at hi; exact hi
    rw [(stN_b ns p s hi' hi).2.2]
    split
    · exact hs
    · exact h.st i hi'

/-- Whether a node is on the path to node i. -/
def onB (ns : List NdD) (i : Int) (j : Nat) : Bool := decide ((j : Int) ∈ pathN ns i)

/-- Whether node i is on the path to a node. -/
def belB (ns : List NdD) (i : Int) (j : Nat) : Bool := decide (i ∈ pathN ns (j : Int))

/-- A node with property p and status s. -/
def anyS (ns : List NdD) (p : Nat → Bool) (s : Int) : Prop := ∃ j, ∃ hj : j < ns.length, p j = true ∧ ns[j].st = s
noncomputable instance (ns : List NdD) (p : Nat → Bool) (s : Int) : Decidable (anyS ns p s) := Classical.propDecidable _
noncomputable def raiN (ns : List NdD) (i : Int) : List NdD × Int :=
  if ¬ (0 ≤ i ∧ i < ns.length) then ([], 10) else if anyS ns (onB ns i) 2 then ([], 21) else (stN ns (onB ns i) 1, 0)
noncomputable def conN (ns : List NdD) (i : Int) : List NdD × Int :=
  if ¬ (0 ≤ i ∧ i < ns.length) then ([], 10) else if anyS ns (belB ns i) 1 then ([], 21) else (stN ns (belB ns i) 2, 0)

theorem rai_ok {ns : List NdD} (h : TrOK ns) {i : Int} (he : (raiN ns i).2 = 0) : TrOK (raiN ns i).1 ∧ (raiN ns i).1 = stN ns (onB ns i) 1 ∧ ¬ anyS ns (onB ns i) 2 := by
  unfold raiN at he ⊢
  split at he
  · cases he
  rename_i hi
  split at he
  · cases he
  rename_i ha
  rw [if_neg hi, if_neg ha]
  have hi' : 0 ≤ i ∧ i < ns.length := Classical.not_not.1 hi
  obtain ⟨k, rfl⟩ : ∃ k : Nat, i = k := ⟨i.toNat, by omega⟩
  refine ⟨stN_ok h _ (by omega) (fun j u hj hu h0 hju => ?_), rfl, ha⟩
  have hcl : onB ns (k : Int) j = true → onB ns (k : Int) u = true := fun hp => by
    unfold onB at hp ⊢
    simp only [decide_eq_true_eq] at hp ⊢
    rw [← hju]
    exact path_upS h k (by omega) j hp h0
  obtain ⟨v, hv, _, e1, _, _, e4, e5⟩ := h.up j hj h0
  have ev : v = u := by have := (h.upAt hj h0).2.2; rw [e1] at this; omega
  subst ev
  constructor
  · intro hj1
    by_cases hp : onB ns (k : Int) v = true
    · rw [if_pos hp]
    · rw [if_neg hp]
      by_cases hpj : onB ns (k : Int) j = true
      · exact absurd (hcl hpj) hp
      · rw [if_neg hpj] at hj1; exact e4 hj1
  · intro hu2
    by_cases hp : onB ns (k : Int) v = true
    · rw [if_pos hp] at hu2; cases hu2
    · rw [if_neg hp] at hu2
      by_cases hpj : onB ns (k : Int) j = true
      · exact absurd (hcl hpj) hp
      · rw [if_neg hpj]; exact e5 hu2

theorem con_ok {ns : List NdD} (h : TrOK ns) {i : Int} (he : (conN ns i).2 = 0) : TrOK (conN ns i).1 ∧ (conN ns i).1 = stN ns (belB ns i) 2 ∧ ¬ anyS ns (belB ns i) 1 := by
  unfold conN at he ⊢
  split at he
  · cases he
  rename_i hi
  split at he
  · cases he
  rename_i ha
  rw [if_neg hi, if_neg ha]
  refine ⟨stN_ok h _ (by omega) (fun j u hj hu h0 hju => ?_), rfl, ha⟩
  have hcl : belB ns i u = true → belB ns i j = true := fun hp => by
    unfold belB at hp ⊢
    simp only [decide_eq_true_eq] at hp ⊢
    rw [pathN_step h hj h0, hju]
    exact List.mem_append_left _ hp
  obtain ⟨v, hv, _, e1, _, _, e4, e5⟩ := h.up j hj h0
  have ev : v = u := by have := (h.upAt hj h0).2.2; rw [e1] at this; omega
  subst ev
  constructor
  · intro hj1
    by_cases hpj : belB ns i j = true
    · rw [if_pos hpj] at hj1; cases hj1
    · rw [if_neg hpj] at hj1
      by_cases hp : belB ns i v = true
      · exact absurd (hcl hp) hpj
      · rw [if_neg hp]; exact e4 hj1
  · intro hu2
    by_cases hp : belB ns i v = true
    · rw [if_pos (hcl hp)]
    · rw [if_neg hp] at hu2
      by_cases hpj : belB ns i j = true
      · rw [if_pos hpj]
      · rw [if_neg hpj]; exact e5 hu2
end

/-! VoB -/
section
set_option linter.unusedVariables false
set_option linter.unusedSimpArgs false
open Go.RowKit

set_option maxRecDepth 100000

/-- The vote of a validator. -/
def voteV (vs : List VoD) (i : Int) : VoD := if i < 0 then zeV else vs.getD i.toNat zeV

theorem voteV_neg {vs : List VoD} {i : Int} (h : i < 0) : voteV vs i = zeV := by unfold voteV; rw [if_pos h]

theorem voteV_far {vs : List VoD} {i : Int} (h : vs.length ≤ i) : voteV vs i = zeV := by
  unfold voteV; split
  · rfl
  · simp [List.getD, List.getElem?_eq_none (show vs.length ≤ i.toNat by omega)]

theorem voteV_nat {vs : List VoD} (k : Nat) : voteV vs k = vs.getD k zeV := by unfold voteV; rw [if_neg (by omega)]; simp
end

/-! VoC -/
section
set_option linter.unusedVariables false
set_option linter.unusedSimpArgs false
open Go.RowKit

set_option maxRecDepth 100000

/-- The supporters of a root among the first k validators. -/
def suppK (vs : List VoD) (r : List Int) : Nat → List Int
  | 0 => []
  | k + 1 => suppK vs r k ++ if (vs.getD k zeV).has = true ∧ (vs.getD k zeV).r = r then [(k : Int)] else []

theorem suppK_len (vs : List VoD) (r : List Int) : ∀ k, (suppK vs r k).length ≤ k
  | 0 => Nat.le_refl _
  | k + 1 => by
    have := suppK_len vs r k
    unfold suppK
    split <;> simp <;> omega

theorem suppK_rng (vs : List VoD) (r : List Int) : ∀ k, ∀ x ∈ suppK vs r k, 0 ≤ x ∧ x < k
  | 0, x, h => by cases h
  | k + 1, x, h => by
    unfold suppK at h
    rcases List.mem_append.1 h with h | h
    · have := suppK_rng vs r k x h; omega
    · split at h
      · rw [List.mem_singleton.1 h]; omega
      · cases h

theorem suppK_yes {vs : List VoD} {r : List Int} {k : Nat} (h1 : (vs.getD k zeV).has = true) (h2 : (vs.getD k zeV).r = r) : suppK vs r (k + 1) = suppK vs r k ++ [(k : Int)] := by
  rw [suppK, if_pos ⟨h1, h2⟩]

theorem suppK_no {vs : List VoD} {r : List Int} {k : Nat} (h : ¬ ((vs.getD k zeV).has = true ∧ (vs.getD k zeV).r = r)) : suppK vs r (k + 1) = suppK vs r k := by
  rw [suppK, if_neg h, List.append_nil]

def SuppI (w : World) (vs : List VoD) (r : List Int) (X : Array Value) (v i : Value) (wr : World) : Prop :=
  ∃ k : Nat, k ≤ vs.length ∧ i = .int .i64 k ∧ OwnK .i64 3 wr (w.heap.size + 1) v (suppK vs r k) ∧ Blk wr w.heap.size X ∧ Below w.heap.size w wr

theorem eq_rootL {xs ys : List Int} (hx : IsBytes 32 xs) (hy : IsBytes 32 ys) (w : World) : Sem.run Try.prog (Op.equalIn 10000 28 (.agg (bytesL xs).toArray) (.agg (bytesL ys).toArray)) w = .ok (decide (xs = ys)) w := eq_root hx hy w
end

/-! VoD -/
section
set_option linter.unusedVariables false
set_option linter.unusedSimpArgs false
open Go.RowKit

set_option maxRecDepth 100000

/-- What Cast promises. -/
def CastE (b g : Nat) (vs : List VoD) (ep : Int) (r l : List Int) (w : World) (e : Ending) (w' : World) : Prop :=
  e = .returned (.tuple #[.int .i64 (castR vs ep r l).2, .int .i64 (vlE l vs.length)]) ∧ VtI w' b g (castR vs ep r l).1 ∧ w.grownBy w' (some g)

def CastI (w : World) (b g : Nat) (vs : List VoD) (ep : Int) (r l : List Int) (X : Array Value) (c i : Value) (wr : World) : Prop :=
  ∃ k : Nat, k ≤ l.length ∧ i = .int .i64 k ∧ c = .int .i64 (castK vs ep r l k).2 ∧ VtI wr b g (castK vs ep r l k).1 ∧ Blk wr w.heap.size X ∧ w.grownBy wr (some g)

theorem grown_below {w a u : World} {row : Option Nat} (h : w.grownBy a row) (hb : Below w.heap.size a u) : w.grownBy u row :=
  ⟨hb.os.trans h.os, hb.tape.trans h.tape, hb.output.trans h.output, Nat.le_trans h.size hb.size, fun k hk hne => (hb.block k hk).trans (h.block k hk hne)⟩

theorem grown_upd {w a u : World} {g : Nat} (h : w.grownBy a (some g)) (hu : Upd g a u) : w.grownBy u (some g) :=
  ⟨hu.os.trans h.os, hu.tape.trans h.tape, hu.output.trans h.output, by rw [hu.size]; exact h.size, fun k hk hne => (hu.block k (fun e => hne (by rw [e]))).trans (h.block k hk hne)⟩

theorem below_grown' {w a : World} (row : Option Nat) (h : Below w.heap.size w a) : w.grownBy a row := ⟨h.os, h.tape, h.output, h.size, fun k hk _ => h.block k hk⟩

theorem VtI.set {w w' : World} {b g : Nat} {vs : List VoD} (h : VtI w b g vs) {j : Nat} {v : VoD} (hv : v.ok) (hu : Upd g w w') (hr : RowB w' g ((vs.map VoD.cells).set j v.cells)) : VtI w' b g (vs.set j v) where
  blk := by rw [List.length_set]; exact hu.blk h.blk h.ne
  row := by rw [List.map_set]; exact hr
  ok := fun x hx => by
    rcases List.mem_or_eq_of_mem_set hx with h' | rfl
    · exact h.ok x h'
    · exact hv
  len := by rw [List.length_set]; exact h.len
  ne := h.ne

theorem castI_same {e : Int} {r : List Int} {T : List VoD} {n : Int} {j : Nat} (h1 : (T.getD j zeV).has = true) (h2 : e ≤ (T.getD j zeV).n) : castI e r (T, n) j = (T, n) := by
  unfold castI; rw [if_pos (by simpa using ⟨h1, h2⟩)]

theorem castI_new {e : Int} {r : List Int} {T : List VoD} {n : Int} {j : Nat} (h : ¬ ((T.getD j zeV).has = true ∧ e ≤ (T.getD j zeV).n)) : castI e r (T, n) j = (T.set j ⟨true, e, r⟩, n + 1) := by
  unfold castI; rw [if_neg (by simpa using h)]; rfl

theorem castR_no {vs : List VoD} {e : Int} {r l : List Int} (h : vlE l vs.length ≠ 0) : castR vs e r l = (vs, 0) := by unfold castR; rw [if_neg h]

theorem castR_yes {vs : List VoD} {e : Int} {r l : List Int} (h : vlE l vs.length = 0) : castR vs e r l = castK vs e r l l.length := by unfold castR; rw [if_pos h]
end

/-! VoE -/
section
set_option linter.unusedVariables false
set_option linter.unusedSimpArgs false
open Go.RowKit

set_option maxRecDepth 100000

/-- A field of a struct that is an array or a struct itself, and one that is not. -/
theorem run_field_row {P : Program} {t : TypeId} {fs : Array Field} {f : Field} {d : TypeDesc} {i n : Nat} (hu : P.underlying t = some (.struct fs)) (hf : fs[i]? = some f) (hd : P.underlying f.type = some d) (hr : d.isRow = true) (hi : (P.info? f.type).map (·.size) = some n) (cs : Array Value) (w : World) :
    (Instr.field t (.agg cs) i).run P w = .ok (.agg (cs.extract f.offset (f.offset + n))) w := by
  have hagg : (isAgg f.type).run P w = .ok true w := by
    unfold isAgg
    rw [Sem.run_bind, run_underlying hd w]
    cases d <;> simp_all [TypeDesc.isRow]
  obtain ⟨ti, hi1, hi2⟩ := Option.map_eq_some_iff.1 hi
  have hso : (sizeOf f.type).run P w = .ok n w := by simp [sizeOf, typeInfo, hi1, hi2]
  simp [Instr.field, run_underlying hu, hf, part, hagg, hso, asAgg]

theorem run_field_one {P : Program} {t : TypeId} {fs : Array Field} {f : Field} {d : TypeDesc} {i : Nat} (hu : P.underlying t = some (.struct fs)) (hf : fs[i]? = some f) (hd : P.underlying f.type = some d) (hr : d.isRow = false) (cs : Array Value) {v : Value} (hv : cs[f.offset]? = some v) (w : World) :
    (Instr.field t (.agg cs) i).run P w = .ok v w := by
  have hagg : (isAgg f.type).run P w = .ok false w := by
    unfold isAgg
    rw [Sem.run_bind, run_underlying hd w]
    cases d <;> simp_all [TypeDesc.isRow]
  simp [Instr.field, run_underlying hu, hf, part, hagg, hv, asAgg]

theorem ints_two {w : World} {g : Nat} {x y : Int} {k : Nat} (h : Blk w g #[.int .i64 x, .int .i64 y]) (hx : -9223372036854775808 ≤ x ∧ x ≤ 9223372036854775807) (hy : -9223372036854775808 ≤ y ∧ y ≤ 9223372036854775807) : IntsV w (.slice (some ⟨g, 0, none⟩) 2 k) [x, y] := by
  refine ⟨⟨_, 2, _, rfl, rfl, by unfold maxLen; omega, .inr ⟨g, 0, rfl, h.lt, fun i hi => ?_⟩⟩, fun z hz => by simp at hz; rcases hz with rfl | rfl; exact hx; exact hy⟩
  rw [Nat.zero_add, h.cell]
  rcases i with _ | _ | i
  · rfl
  · rfl
  · omega

theorem ints_1 {w : World} {g : Nat} {x : Int} {k : Nat} (h : Blk w g #[.int .i64 x]) (hx : -9223372036854775808 ≤ x ∧ x ≤ 9223372036854775807) : IntsV w (.slice (some ⟨g, 0, none⟩) 1 k) [x] := by
  refine ⟨⟨_, 1, _, rfl, rfl, by unfold maxLen; omega, .inr ⟨g, 0, rfl, h.lt, fun i hi => ?_⟩⟩, fun z hz => by simp at hz; rcases hz with rfl; exact hx⟩
  rw [Nat.zero_add, h.cell]
  rcases i with _ | i
  · rfl
  · omega

theorem off_new {g a l c : Nat} (h : a ≠ g) : Off g (.slice (some ⟨a, 0, none⟩) l c) := fun z l' c' e _ => by cases e; exact h

def thirdV (r1 r2 : List Int) : List VoD := [⟨true, 3, r1⟩, ⟨true, 3, r1⟩, ⟨true, 3, r2⟩]

theorem cast_first (r : List Int) : castR (List.replicate 3 zeV) 3 r [0, 1] = ([⟨true, 3, r⟩, ⟨true, 3, r⟩, zeV], 2) ∧ vlE [0, 1] (List.replicate 3 zeV).length = 0 := ⟨rfl, rfl⟩

theorem cast_second (r r2 : List Int) : castR [⟨true, 3, r⟩, ⟨true, 3, r⟩, zeV] 3 r2 [1, 2] = (thirdV r r2, 1) ∧ vlE [1, 2] [⟨true, 3, r⟩, ⟨true, 3, r⟩, zeV].length = 0 := ⟨rfl, rfl⟩

theorem below_row {N g : Nat} {w0 w w' : World} (h : Below N w0 w) (hg : w.grownBy w' (some g)) (hN : N ≤ g) (hs : N ≤ w.heap.size) : Below N w0 w' :=
  ⟨hg.os.trans h.os, hg.tape.trans h.tape, hg.output.trans h.output, Nat.le_trans h.size hg.size, fun k hk => (hg.block k (by omega) (by simp; omega)).trans (h.block k hk)⟩
end

/-! VoG -/
section
set_option linter.unusedVariables false
set_option linter.unusedSimpArgs false
open Go.RowKit

set_option maxRecDepth 100000

/-- Several structs are appended, in a walk. -/
theorem wpList_appEls {α : Type} {sz : Nat} {El : (Value → Prop) → World → Array Value → α → Prop} (E : ElOK sz El) {t e : TypeId} {z : Value} {bytes : Nat} (ht : Try.prog.underlying t = some (.slice e)) (hinfo : (Try.prog.info? e).map (fun i => (i.zero, i.size, i.bytes)) = some (some z, sz, bytes)) (hzs : z.cells.size = sz) (hsz : 0 < sz)
    {ops : Array Oper} {rest : List Oper} {o : Oper} {a : Act} {w : World} {Q : Exit → Act → World → Prop} (s x : Operand)
    (ho : o.op = .call { callee := .builtin .append, args := #[s, x], argTypes := #[t, t] }) (hw : Region.wanted o (yielded ops a.tmps) = true)
    (B : Nat) (v : Value) (ds : List α) (hs : a.eval s = v) (hown : OwnEl El e sz w B v ds) (y : Value) (es : List α) (hx : a.eval x = y) (hy : ElV El sz w y es) (hAll : ∀ {P : Value → Prop} {X d}, El (fun _ => True) w X d → El P w X d)
    (h47 : (ds.length + es.length) * bytes ≤ 140737488355328) (hm : ds.length + es.length ≤ maxLen) (hB : B ≤ w.heap.size)
    (h : ∀ v' w', OwnEl El e sz w' B v' (ds ++ es) → w.grownBy w' v.ownBlock → wpList Try.prog ops Q rest (a.put o.dst v') w') : wpList Try.prog ops Q (o :: rest) a w :=
  BigFrame.wpList_want hw fun _ hK => by
    obtain ⟨ya, yc, rfl, _, hr⟩ := hy
    obtain ⟨v', w', h1, h2, h3, h4⟩ : ∃ v' w', (Builtin.append_ #[t, t] o.type #[v, .slice ya es.length yc]).run Try.prog w = .ok v' w' ∧ OwnEl El e sz w' B v' (ds ++ es) ∧ w.grownBy w' v.ownBlock ∧ (v'.ownBlock = v.ownBlock ∨ v'.ownBlock = some w.heap.size) := by
      rcases hr with h0 | ⟨b, off, rfl, _, Xs, h5, h6⟩
      · have : es = [] := List.eq_nil_of_length_eq_zero h0
        subst this
        exact run_appEls E (ty := o.type) ht hinfo hzs hsz w B v ds hown ya yc [] [] (.inl rfl) (AllEl.nil _ _) h47 hm hB
      · exact run_appEls E (ty := o.type) ht hinfo hzs hsz w B v ds hown _ yc es Xs (.inr ⟨b, off, rfl, h5⟩) (h6.imp fun X d hX => hAll hX) h47 hm hB
    unfold Oper.wp execOp
    simp only [ho, resolve, invoke, builtin, Sem.run_bind, Sem.run_pure, Result.andThen_ok, List.map_toArray, List.map_cons, List.map_nil, hs, hx, h1]
    exact hK _ _ (h v' w' h2 h3)

theorem row_votes {w : World} {g cap : Nat} {vs : List VoD} (h : RowB w g (vs.map VoD.cells)) (ho : ∀ v ∈ vs, v.ok) (hl : vs.length ≤ maxLen) : VotesV w (.slice (some ⟨g, 0, none⟩) vs.length cap) vs := by
  refine ⟨_, _, rfl, hl, .inr ⟨g, 0, rfl, h.lt, vs.map fun v => v.cells.toArray, ?_, by simp, ?_⟩⟩
  · have e : rowsL (vs.map fun v => v.cells.toArray) = (vs.map VoD.cells).flatten := by simp [rowsL, List.map_map, Function.comp_def]
    rw [e]; exact h.range
  · intro p hp
    obtain ⟨i, hi, rfl⟩ := List.mem_iff_getElem.1 hp
    simp only [List.length_zip, List.length_map] at hi
    simp only [List.getElem_zip, List.getElem_map]
    exact ⟨rfl, ho _ (List.getElem_mem _)⟩

theorem VotesV.oks {w : World} {v : Value} {vs : List VoD} (h : VotesV w v vs) : ∀ d ∈ vs, d.ok := by
  obtain ⟨a, c, rfl, _, hr⟩ := h
  rcases hr with h0 | ⟨b, off, _, _, Xs, _, h2⟩
  · rw [List.eq_nil_of_length_eq_zero h0]; simp
  · intro d hd
    obtain ⟨i, hi, rfl⟩ := List.mem_iff_getElem.1 hd
    exact (h2.at hi).2

def RCastI (w : World) (g : Nat) (vs : List VoD) (ep : Int) (r l : List Int) (X : Array Value) (c i : Value) (wr : World) : Prop :=
  ∃ k : Nat, k ≤ l.length ∧ i = .int .i64 k ∧ c = .int .i64 (castK vs ep r l k).2 ∧ RowB wr g ((castK vs ep r l k).1.map VoD.cells) ∧ Blk wr w.heap.size X ∧ Below w.heap.size w wr

/-- A row that is the call's own. -/
def VNew (w : World) (N : Nat) (v : Value) (vs : List VoD) : Prop := VotesV w v vs ∧ New N v
end

/-! TsB -/
section
set_option linter.unusedVariables false
set_option linter.unusedSimpArgs false
open Go.RowKit

set_option maxRecDepth 100000

/-- One cell of a part is written, by an operation of a region. -/
theorem wp_store_part1B {P : Program} {op : Oper} {a : Act} {w : World} {K : Act → World → Prop} {Q : Exit → Act → World → Prop} (ty : TypeId) (x y : Operand) (ho : op.op = .store ty x y)
    (b : Nat) (ps : List (List Value)) (k : Nat) (v u : Value) (hB : Blk w b (flatP ps)) (hk : ps[k]? = some [v]) (hx : a.eval x = .pointer (some ⟨b, offP ps k, none⟩)) (hy : a.eval y = u)
    (hi : (P.info? ty).map (·.size) = some 1) (hu : u.cells = #[u]) (h1 : u.oneCell' = true)
    (h : ∀ w', Upd b w w' → Blk w' b (flatP (ps.set k [u])) → K (a.put op.dst undef) w') : op.wp P a w K Q := by
  have hth := hB.partThere hk
  obtain ⟨g1, g2⟩ := hB.setPart (q := [u]) hk rfl
  have hr := run_storeCells_cells (P := P) b (offP ps k) [u] 0 w (fun j hj => by simpa using (hth j (by simpa using hj)).1) (fun j hj => by simpa using (hth j (by simpa using hj)).2) (fun z hz => by rw [List.mem_singleton.1 hz]; exact h1)
  unfold Oper.wp execOp
  cases hq : P.info? ty with
  | none => simp [hq] at hi
  | some i =>
    have hs : i.size = 1 := by simpa [hq] using hi
    simp only [Nat.add_zero] at hr
    have hsv : (storeVar ty ⟨b, offP ps k, none⟩ u).run P w = .ok () (w.setCells b (offP ps k) [u]) := by
      simp [storeVar, sizeOf, typeInfo, hq, hu, hs, hr]
    simp only [ho, hx, hy, Instr.storeAt, Instr.sureAddr, Sem.run_bind, Sem.run_pure, Result.andThen_ok, hsv]
    exact h _ g1 g2

/-- Nodes in three parts each. -/
def ndP (us : List NdD) : List (List Value) := us.flatMap fun d => [d.b.parts.flatten, [.int .i64 d.up], [.int .i64 d.st]]

theorem ndP_cons (d : NdD) (us : List NdD) : ndP (d :: us) = d.b.parts.flatten :: [.int .i64 d.up] :: [.int .i64 d.st] :: ndP us := rfl

theorem ndP_flat : ∀ us : List NdD, (ndP us).flatten = (us.map NdD.cells).flatten
  | [] => rfl
  | d :: us => by rw [ndP_cons, List.map_cons, List.flatten_cons, List.flatten_cons, List.flatten_cons, List.flatten_cons, ndP_flat us]; simp [NdD.cells]

theorem ndP_at : ∀ {us : List NdD} {j : Nat} (hj : j < us.length) (sp : List Value), (ndP us ++ [sp])[3 * j + 2]? = some [.int .i64 us[j].st]
  | d :: us, 0, _, sp => rfl
  | d :: us, j + 1, hj, sp => by
    rw [ndP_cons, show 3 * (j + 1) + 2 = (3 * j + 2) + 1 + 1 + 1 by omega]
    simpa using ndP_at (us := us) (j := j) (by simpa using hj) sp

theorem ndP_set : ∀ {us : List NdD} {j : Nat} (hj : j < us.length) (sp : List Value) (s : Int), (ndP us ++ [sp]).set (3 * j + 2) [.int .i64 s] = ndP (us.set j ⟨us[j].b, us[j].up, s⟩) ++ [sp]
  | d :: us, 0, _, sp, s => rfl
  | d :: us, j + 1, hj, sp, s => by
    have h := ndP_set (us := us) (j := j) (by simpa using hj) sp s
    rw [ndP_cons, show 3 * (j + 1) + 2 = (3 * j + 2) + 1 + 1 + 1 by omega]
    simp only [List.cons_append, List.set_cons_succ, List.getElem_cons_succ, ndP_cons]
    rw [h]

theorem ndP_off : ∀ {us : List NdD} (ho : ∀ d ∈ us, d.ok) {j : Nat} (hj : j < us.length) (sp : List Value), offP (ndP us ++ [sp]) (3 * j + 2) = j * 240 + 239
  | d :: us, ho, 0, _, sp => by
    have := BkD.flen (ho d (by simp)).1
    simp [ndP_cons, offP, this]
  | d :: us, ho, j + 1, hj, sp => by
    have h := ndP_off (us := us) (fun x hx => ho x (by simp [hx])) (j := j) (by simpa using hj) sp
    have h2 := BkD.flen (ho d (by simp)).1
    rw [ndP_cons, show 3 * (j + 1) + 2 = (3 * j + 2) + 1 + 1 + 1 by omega]
    unfold offP at h ⊢
    simp only [List.cons_append, List.take_succ_cons, List.flatten_cons, List.length_append, h, h2, List.length_cons, List.length_nil]
    omega

/-- A row of nodes, in parts. -/
theorem row_nodes {w : World} {g cap : Nat} {us : List NdD} {sp : List Value} (h : Blk w g (flatP (ndP us ++ [sp]))) (ho : ∀ v ∈ us, v.ok) (hl : us.length ≤ maxLen) : NodesV w (.slice (some ⟨g, 0, none⟩) us.length cap) us := by
  have h' : RowB w g (us.map NdD.cells) := ⟨sp, h.to (by unfold flatP; rw [List.flatten_append, List.flatten_append, ndP_flat])⟩
  refine ⟨_, _, rfl, hl, .inr ⟨g, 0, rfl, h'.lt, us.map fun v => v.cells.toArray, ?_, by simp, ?_⟩⟩
  · have e : rowsL (us.map fun v => v.cells.toArray) = (us.map NdD.cells).flatten := by simp [rowsL, List.map_map, Function.comp_def]
    rw [e]; exact h'.range
  · intro p hp
    obtain ⟨i, hi, rfl⟩ := List.mem_iff_getElem.1 hp
    simp only [List.length_zip, List.length_map] at hi
    simp only [List.getElem_zip, List.getElem_map]
    exact ⟨rfl, ho _ (List.getElem_mem _)⟩

theorem own_row {w : World} {B g n cap : Nat} {us : List NdD} (h : OwnEl NdEl 54 240 w B (.slice (some ⟨g, 0, none⟩) n cap) us) : ∃ sp, Blk w g (flatP (ndP us ++ [sp])) ∧ B ≤ g := by
  obtain ⟨⟨sp, h1⟩, h2, _⟩ := h.rowB ndOK (enc := NdD.cells) (fun h => h.1)
  exact ⟨sp, h1.to (by unfold flatP; rw [List.flatten_append, List.flatten_append, ndP_flat]), h2⟩

/-- The numbers of a list's first k. -/
def pK (l : List Int) (k j : Nat) : Bool := decide ((j : Int) ∈ l.take k)

theorem pK_succ {l : List Int} {k x : Nat} (hk : k < l.length) (hx : l.getD k 0 = x) : pK l (k + 1) = fun j => pK l k j || decide (j = x) := by
  funext j
  unfold pK
  rw [List.take_succ_eq_append_getElem hk]
  rw [getD_at hk] at hx
  rw [hx, Bool.eq_iff_iff]
  simp only [List.mem_append, List.mem_singleton, Bool.or_eq_true, decide_eq_true_eq]
  constructor
  · rintro (h | h)
    · exact .inl h
    · exact .inr (by omega)
  · rintro (h | h)
    · exact .inl h
    · exact .inr (by rw [h])

/-- None of these nodes has status f. -/
def freeS (ns : List NdD) (l : List Int) (f : Int) : Prop := ∀ x ∈ l, (ndN ns x.toNat).st ≠ f

structure SeS (w : World) (bt g cap n : Nat) (sp : List Value) (lv : Value) (l : List Int) (us : List NdD) (u : World) : Prop where
  r : Blk u (w.heap.size + 1) #[.slice none 0 0]
  v : Blk u bt #[.slice (some ⟨g, 0, none⟩) n cap]
  n : Blk u g (flatP (ndP us ++ [sp]))
  l : IntsV u lv l
  b : Below w.heap.size w u

theorem SeS.setS {w : World} {bt g cap n : Nat} {sp : List Value} {lv : Value} {l : List Int} {us us' : List NdD} {u u' : World} (h : SeS w bt g cap n sp lv l us u) (h1 : bt ≠ g) (h2 : w.heap.size + 1 < g) (ho : Off g lv) (U : Upd g u u') (B : Blk u' g (flatP (ndP us' ++ [sp]))) : SeS w bt g cap n sp lv l us' u' :=
  ⟨U.blk h.r (by omega), U.blk h.v h1, B, ⟨h.l.1.grownOff (upd_grown U) (fun g' e => by cases e; exact ho), h.l.2⟩, U.below h.b (by omega)⟩

theorem stN_oks {ns : List NdD} (h : ∀ d ∈ ns, d.ok) (p : Nat → Bool) {s : Int} (hs : -9223372036854775808 ≤ s ∧ s ≤ 9223372036854775807) : ∀ d ∈ stN ns p s, d.ok := by
  intro d hd
  obtain ⟨j, hj, rfl⟩ := List.mem_iff_getElem.1 hd
  have hj' : j < ns.length := by rw [stN_len] at hj; exact hj
  rw [stN_at ns p s hj' hj]
  have := h _ (List.getElem_mem hj')
  split
  · exact ⟨this.1, this.2.1, hs⟩
  · exact this

theorem SeS.drewN {w : World} {bt g cap n : Nat} {sp : List Value} {lv : Value} {l : List Int} {us : List NdD} {u : World} (h : SeS w bt g cap n sp lv l us u) (k : Nat) : SeS w bt g cap n sp lv l us (u.drewN k) :=
  ⟨h.r.drewN, h.v.drewN, h.n.drewN, ⟨h.l.1.below (Below.drewN (Below.refl _ u)), h.l.2⟩, Below.drewN h.b⟩
end

/-! TsC -/
section
set_option linter.unusedVariables false
set_option linter.unusedSimpArgs false
open Go.RowKit

set_option maxRecDepth 100000

theorem keepT_drew (w : World) : Below w.heap.size w w.drew := ⟨rfl, rfl, rfl, Nat.le_refl _, fun _ _ => rfl⟩

theorem keepT_alloc {w u : World} (h : Below w.heap.size w u) (o : Obj) : Below w.heap.size w (u.alloc o) := h.alloc h.size o

theorem keepT_call {w u v : World} (h : Below w.heap.size w u) (hb : Below u.heap.size u v) : Below w.heap.size w v := h.trans (hb.mono h.size)

theorem keepT_realloc {w u : World} {o o' : Obj} (h : Below w.heap.size w (u.alloc o)) (hs : w.heap.size ≤ u.heap.size) : Below w.heap.size w (u.alloc o') :=
  ⟨h.os, h.tape, h.output, by simp; omega, fun k hk => by rw [Below.heap_alloc _ _ _ (by omega), ← Below.heap_alloc u o _ (by omega)]; exact h.block k hk⟩

theorem below_drew0 {N : Nat} {w u : World} (h : Below N w u) : Below N w u.drew := Below.drewN (n := 1) h

theorem stN_congr (ns : List NdD) {p q : Nat → Bool} (s : Int) (h : ∀ j, p j = q j) : stN ns p s = stN ns q s := by rw [show p = q from funext h]

theorem desc_rng (ns : List NdD) (i : Int) : ∀ x ∈ descN ns i, 0 ≤ x ∧ x < ns.length := fun x hx => selK_rng _ _ x hx

theorem free_in {ns : List NdD} {l : List Int} {p : Nat → Bool} {f : Int} (hl : ∀ x ∈ l, 0 ≤ x ∧ x < ns.length) (hp : ∀ j, j < ns.length → p j = decide ((j : Int) ∈ l)) : freeS ns l f ↔ ¬ anyS ns p f := by
  unfold freeS anyS
  constructor
  · rintro h ⟨j, hj, h1, h2⟩
    rw [hp j hj] at h1
    simp only [decide_eq_true_eq] at h1
    have := h _ h1
    rw [show ((j : Int)).toNat = j from rfl, ndN_at hj] at this
    exact this h2
  · intro h x hx e
    obtain ⟨h0, h1⟩ := hl x hx
    obtain ⟨j, rfl⟩ : ∃ j : Nat, x = j := ⟨x.toNat, by omega⟩
    have hj : j < ns.length := by omega
    rw [show ((j : Int)).toNat = j from rfl, ndN_at hj] at e
    exact h ⟨j, hj, by rw [hp j hj]; simpa using hx, e⟩

theorem stN_cong2 (ns : List NdD) {p q : Nat → Bool} (s : Int) (h : ∀ j, j < ns.length → p j = q j) : stN ns p s = stN ns q s := by
  apply List.ext_getElem (by simp [stN_len])
  intro j h1 h2
  have hj : j < ns.length := by simpa [stN_len] using h1
  rw [stN_at ns p s hj h1, stN_at ns q s hj h2, h j hj]

theorem desc_intsT {ns : List NdD} {i : Int} {w : World} {B : Nat} {v : Value} (hlen : ns.length ≤ 100000) (h : OwnK .i64 3 w B v (descN ns i)) : IntsV w v (descN ns i) := by
  have hl : (descN ns i).length ≤ ns.length := selK_len _ _
  exact ⟨h.ints (by unfold maxLen; omega), fun x hx => by have := desc_rng ns i x hx; omega⟩

theorem Upd.gbT {b : Nat} {w w' : World} (h : Upd b w w') : w.grownBy w' (some b) := ⟨h.os, h.tape, h.output, by rw [h.size]; exact Nat.le_refl _, fun k _ hne => h.block k (fun e => hne (by rw [e]))⟩

theorem alloc_sz (w : World) (o : Obj) : (w.alloc o).heap.size = w.heap.size + 1 := Array.size_push ..

/-- What the copy's box and the flag hold where the ways meet: Raise's and Condemn's cut. -/
def SetR (us : List NdD) (F : Prop) (N : Nat) (w1 : World) (p q7 : Value) (wx : World) : Prop :=
  ∃ (B : Nat) (v' : Value) (q : Bool), p = .pointer (some ⟨B, 0, none⟩) ∧ q7 = .bool q ∧ Blk wx B #[v'] ∧ (q = true ↔ F) ∧ (q = true → NodesV wx v' us ∧ CapOK v' ∧ New (N + 2) v') ∧ N + 1 < B ∧ (∃ a n c, v' = .slice a n c) ∧ Below w1.heap.size w1 wx

theorem SetR.new {us : List NdD} {F : Prop} {N M : Nat} {w1 w3 : World} {q : Bool} {v : Value} {t : TypeId} (hq : q = true ↔ F) (hn : q = true → NodesV w3 v us ∧ CapOK v ∧ New M v) (hM : N + 2 ≤ M) (hs : ∃ a n c, v = .slice a n c) (hB : N + 1 < w3.heap.size) (hb : Below w1.heap.size w1 (w3.alloc (.cells #[v] t))) :
    SetR us F N w1 (.pointer (some ⟨w3.heap.size, 0, none⟩)) (.bool q) (w3.alloc (.cells #[v] t)) :=
  ⟨_, _, q, rfl, rfl, Blk.new rfl, hq, fun h => ⟨(hn h).1.call ((Below.refl _ _).alloc (Nat.le_refl _) _), (hn h).2.1, (hn h).2.2.mono hM⟩, hB, hs, hb⟩

theorem SetR.set {us : List NdD} {F : Prop} {N M B : Nat} {w1 w3 : World} {q : Bool} {v v0 : Value} (hq : q = true ↔ F) (hn : q = true → NodesV w3 v us ∧ CapOK v ∧ New M v) (hM : N + 2 ≤ M) (hs : ∃ a n c, v = .slice a n c) (hB : N + 1 < B) (hBM : B < M) (hz : Blk w3 B #[v0]) (hb : Below w1.heap.size w1 (w3.setCell ⟨B, 0, none⟩ v)) :
    SetR us F N w1 (.pointer (some ⟨B, 0, none⟩)) (.bool q) (w3.setCell ⟨B, 0, none⟩ v) :=
  ⟨_, _, q, rfl, rfl, by simpa using hz.setCell (j := 0) (v := v), hq, fun h => ⟨(hn h).1.grownOff (setCell_grown _ _ _ _) ((hn h).2.2.off hBM), (hn h).2.1, (hn h).2.2.mono hM⟩, hB, hs, hb⟩

/-- What Raise and Condemn promise. -/
def SetE (r : List NdD × Int) (w : World) (e : Ending) (w' : World) : Prop :=
  ∃ v', e = .returned (.tuple #[.agg #[v'], .int .i64 r.2]) ∧ NodesV w' v' r.1 ∧ CapOK v' ∧ New w.heap.size v' ∧ Below w.heap.size w w'
end

/-! TsD -/
section
set_option linter.unusedVariables false
set_option linter.unusedSimpArgs false
open Go.RowKit

set_option maxRecDepth 100000

theorem bz_rootT (u : World) : (Instr.build 28 #[]).run Try.prog u = .ok (.agg (bytesL zeroR).toArray) u := by kernel_rfl

def payN (ns : List NdD) (x : Int) : List Int := (ndN ns x.toNat).b.payload

/-- Reach behind no latest root: from place k on. -/
def fwdK (ns : List NdD) (i : Int) (l : List Int) : Nat → Nat → Int × Int
  | 0, _ => (-1, i)
  | f + 1, k => if payN ns (l.getD k 0) = zeroR then fwdK ns i l f (k + 1) else ((ndN ns (l.getD k 0).toNat).up, l.getD k 0)

/-- Reach behind a latest root: the places below k. -/
def bwdK (ns : List NdD) (i : Int) (l lat : List Int) : Nat → Int × Int
  | 0 => (-1, i)
  | k + 1 => if payN ns (l.getD k 0) = lat then (l.getD k 0, l.getD (k + 1) 0) else bwdK ns i l lat k

def reaL (ns : List NdD) (i : Int) (l lat : List Int) : Int × Int :=
  if l.length = 0 then (-1, -1) else if lat = zeroR then fwdK ns i l l.length 0 else bwdK ns i l lat (l.length - 1)

def reaN (ns : List NdD) (i : Int) (lat : List Int) : Int × Int := reaL ns i (pathN ns i) lat

theorem fwd_step {ns : List NdD} {i : Int} {l : List Int} {k n : Nat} (h : k < n) : fwdK ns i l (n - k) k = if payN ns (l.getD k 0) = zeroR then fwdK ns i l (n - (k + 1)) (k + 1) else ((ndN ns (l.getD k 0).toNat).up, l.getD k 0) := by
  rw [show n - k = (n - (k + 1)) + 1 by omega]
  rfl

theorem nz_beq {n : Nat} (h : ((n : Int) == 0) = false) : ¬ n = 0 := by rintro rfl; cases h

/-- The blocks of Reach: the tree's box and the root's. -/
structure RcS (w : World) (T X : Array Value) (wr : World) : Prop where
  t : Blk wr w.heap.size T
  x : Blk wr (w.heap.size + 1) X
  b : Below w.heap.size w wr

theorem RcS.call {w u u' : World} {T X : Array Value} (h : RcS w T X u) (hb : Below u.heap.size u u') : RcS w T X u' := ⟨h.t.call hb, h.x.call hb, h.b.trans (hb.mono h.b.size)⟩

def FwdI (w : World) (T X : Array Value) (ns : List NdD) (a : Int) (l : List Int) (r : Int × Int) (pv i : Value) (wr : World) : Prop :=
  ∃ k : Nat, k ≤ l.length ∧ i = .int .i64 k ∧ fwdK ns a l (l.length - k) k = r ∧ IntsV wr pv l ∧ RcS w T X wr

def BwdI (w : World) (T X : Array Value) (ns : List NdD) (a : Int) (l lat : List Int) (r : Int × Int) (pv i : Value) (wr : World) : Prop :=
  ∃ k : Nat, k + 1 ≤ l.length ∧ i = .int .i64 ((k : Int) - 1) ∧ bwdK ns a l lat k = r ∧ IntsV wr pv l ∧ RcS w T X wr
end

/-! TrN -/
section
set_option linter.unusedVariables false
set_option linter.unusedSimpArgs false
open Go.RowKit

set_option maxRecDepth 100000

/-- The weights with the boost (P15.2). -/
def booN (ns : List NdD) (d : List Int) (r : List Int) (amount : Int) : List Int :=
  if 0 ≤ findN ns r ∧ (ndN ns (findN ns r).toNat).st ≠ 2 ∧ r ≠ zeroR then d.set (findN ns r).toNat (IntKind.u64.wrap (d.getD (findN ns r).toNat 0 + amount)) else d

theorem wrap_u64R (x : Int) : 0 ≤ IntKind.u64.wrap x ∧ IntKind.u64.wrap x ≤ 18446744073709551615 := by
  simp [IntKind.wrap, IntKind.u64, IntKind.bits, IntKind.signed]; omega

set_option maxHeartbeats 8000000 in
theorem boo_any (sv dv : Value) (ns : List NdD) (d : List Int) (r : List Int) (amount : Int) (w : World) (hN : NodesV w sv ns) (hd : NumsV w dv d) (hl : d.length = ns.length) (hl2 : d.length ≤ 1000000) (hr : IsBytes 32 r) :
    Calls Try.prog 17 #[.agg #[sv], dv, .agg (bytesL r).toArray, .int .u64 amount] w fun e w' => ∃ v', e = .returned v' ∧ NumsV w' v' (booN ns d r amount) ∧ New w.heap.size v' ∧ Below w.heap.size w w' := by
  obtain ⟨a, cap, rfl, hmx⟩ := hN.shape
  unfold maxLen at hmx
  obtain ⟨da, dc, rfl, hmd⟩ := NumsV.shapeW hd
  have HN := Lib.hid hN
  have HD := Lib.hid hd
  have HFI := Lib.hid (fun u (hu : Below w.heap.size w u) => find_any (.slice a ns.length cap) ns r u (hN.call hu) hr)
  have HSP := findN_spec ns r
  have HEQ := fun u => eq_rootL hr zeroR_is u
  obtain ⟨qr, hqr⟩ : ∃ q : Bool, decide (r = zeroR) = q := ⟨_, rfl⟩
  rw [hqr] at HEQ
  have HQR : Hid (qr = true ↔ r = zeroR) := by show _ ↔ _; rw [← hqr]; exact decide_eq_true_iff
  obtain ⟨X, hX⟩ : ∃ X, Hid (bytesL r = X) := ⟨_, Lib.hid rfl⟩
  have hsX : X.length = 32 := by rw [← hX.out, bytesL_len hr]
  have hiX : (Try.prog.info? 28).map (·.size) = some X.length := by rw [hsX]; kernel_rfl
  have HBZ := Lib.hid (fun u => bz_rootT u)
  obtain ⟨Z, hZ⟩ : ∃ Z, Hid ((bytesL zeroR).toArray = Z) := ⟨_, Lib.hid rfl⟩
  rw [hX.out] at HEQ HFI ⊢
  rw [hZ.out] at HEQ HBZ
  obtain ⟨m, hm⟩ : ∃ m, Hid (ns.length = m) := ⟨_, Lib.hid rfl⟩
  have HM : Hid (d.length = m) := Lib.hid (by rw [hl]; exact hm.out)
  rw [hm.out] at HN HFI hmx ⊢
  rw [HM.out] at HD ⊢
  have hm2 : m ≤ 1000000 := by rw [← HM.out]; exact hl2
  have hi1 : (Try.prog.info? 43).map (·.size) = some 1 := by kernel_rfl
  obtain ⟨BO, hBO⟩ : ∃ BO, Hid (booN ns d r amount = BO) := ⟨_, Lib.hid rfl⟩
  rw [hBO.out]
  have S0 := Lib.hid (pad_new w #[.slice a m cap] X.toArray 43 28)
  have HXR : Hid (∀ T u, PaD w T X.toArray u → u.rangeAt (w.heap.size + 1) 0 X) := fun T u hu => by have h := hu.v.range; rwa [List.toList_toArray] at h
  have HII : Hid ((Try.prog.info? 22).map (fun i => (i.zero, i.size, i.bytes)) = some (some (.int .u64 0), 1, 8)) := info_u64c
  obtain ⟨F, hF⟩ : ∃ F, Hid (findN ns r = F) := ⟨_, Lib.hid rfl⟩
  rw [hF.out] at HFI HSP
  clear hN hd hr hqr hsX hl hl2 hmd
  go_enter Try.func17, Try.ntmps17
  go_upto_region 3 with (first
    | ((with_reducible refine at_app (.const (.slice none 0 0)) (.tmp 11) ?_); refine wpList_appK HII.out (by omega) Try.underlying29 (.const (.slice none 0 0)) (.tmp 11) rfl rfl (w.heap.size + 2) (.slice none 0 0) [] rfl (OwnK.nil _ _ _ _) (.slice da m dc) d rfl ((HD.out.1).below S0.out.b) (by simp; have := HM.out; omega) (by have := S0.out.v.lt; omega) ?_; intro v3 w3 h3 g3 o3; rw [List.nil_append] at h3; have HOW := Lib.hid h3; have S1 := Lib.hid (S0.out.grown g3 (fun j hj => by cases hj)); clear h3 g3 o3)
    | ((with_reducible refine at_load (.tmp 4) ?_); refine wpList_load_g 43 (.tmp 4) rfl w.heap.size rfl #[.slice a m cap] _ S1.out.t Try.underlying43 rfl hi1 rfl ?_)
    | ((with_reducible refine at_load (.tmp 6) ?_); refine wpList_load_rng 28 (.tmp 6) rfl (w.heap.size + 1) 0 X (HXR.out _ _ S1.out) rfl _ Try.underlying28 rfl hiX rfl ?_)
    | (go_at_call 29; refine (HFI.out _ S1.out.b).mono ?_; rintro e w4 ⟨rfl, hb4⟩; have S2 := Lib.hid (S1.out.call hb4); have HO2 := Lib.hid (HOW.out.call hb4); clear hb4)
    | fail)
  have HDB := Lib.hid HD.out.2
  have HO3 := Lib.hid HO2.out
  have hlm : d.length ≤ maxLen := by unfold maxLen; have := HM.out; omega
  have HKEEP : Hid (BO = d → NumsV w4 v3 BO ∧ New w.heap.size v3) := fun e => by rw [e]; exact ⟨⟨HO3.out.ints hlm, HDB.out⟩, HO3.out.new.mono (by omega)⟩
  rcases HSP with ⟨rfl, hno⟩ | ⟨k, hk, rfl, hrt, hfi⟩
  · have hb : BO = d := by rw [← hBO.out]; unfold booN; rw [if_neg (by rw [hF.out]; omega)]
    have HK := Lib.hid (HKEEP.out hb)
    clear hno hb
    go_wp2_with fail
    go_ret
    exact ⟨_, rfl, HK.out.1, HK.out.2, S2.out.b⟩
  have hk' : k < ns.length := hk
  rw [hm.out] at hk'
  have hkm : (k : Int) < m := by omega
  obtain ⟨b, off, rfl, hl0, hbb, hna, hok⟩ := HN.out.elem hk
  clear hl0
  have HST : Hid (∀ u, PaD w #[.slice (some ⟨b, off, none⟩) m cap] X.toArray u → u.cell? ⟨b, off + k * 240 + 239, none⟩ = some (.int .i64 ns[k].st)) := fun u hu => (hu.b.cell hbb).trans hna.st
  have HBV : Hid (BO = if ns[k].st ≠ 2 ∧ r ≠ zeroR then d.set k (IntKind.u64.wrap (d.getD k 0 + amount)) else d) := by
    show _ = _
    rw [← hBO.out]; unfold booN; rw [hF.out, show ((k : Int)).toNat = k from rfl, ndN_at hk]
    by_cases h : ns[k].st ≠ 2 ∧ r ≠ zeroR
    · rw [if_pos ⟨by omega, h⟩, if_pos h]
    · rw [if_neg (fun g => h g.2), if_neg h]
  obtain ⟨st, hst⟩ : ∃ st, ns[k].st = st := ⟨_, rfl⟩
  rw [hst] at HST HBV
  have HT2 := Lib.hid (HST.out _ S2.out)
  have hsh : ∃ g c3, v3 = .slice (some ⟨g, 0, none⟩) m c3 := by
    rcases HO3.out.2 with ⟨e, h0⟩ | ⟨g, cap3, cur, e, _⟩
    · exfalso; have := HM.out; omega
    · exact ⟨g, cap3, by rw [e, HM.out]⟩
  obtain ⟨g, c3, rfl⟩ := hsh
  obtain ⟨hrw, hg, hq3⟩ := HO3.out.rowB
  clear hq3
  have HRW := Lib.hid hrw
  have HG := Lib.hid hg
  have hkd : k < d.length := by have := HM.out; omega
  clear hrw hg hna hok hst hrt hfi hk
  by_cases h2 : st = 2
  · have HK := Lib.hid (HKEEP.out (by rw [HBV.out, if_neg (fun h => h.1 h2)]))
    subst h2
    clear HKEEP
    go_wp2_with (first
      | ((with_reducible refine at_load (.tmp 19) ?_); refine wpList_load_1 41 (.tmp 19) rfl w.heap.size 0 _ (S2.out.t.cell 0) rfl _ Try.underlying41 rfl rfl ?_)
      | ((with_reducible refine at_load (.tmp 23) ?_); refine wpList_load_1 3 (.tmp 23) rfl b (off + k * 240 + 239) _ HT2.out rfl _ Try.underlying3 rfl rfl ?_)
      | fail)
    go_ret
    exact ⟨_, rfl, HK.out.1, HK.out.2, S2.out.b⟩
  have hs2 : (st != 2) = true := by simpa using h2
  cases qr
  · have hz : ¬ r = zeroR := fun h => by have := HQR.out.2 h; cases this
    have HBW : Hid (BO = d.set k (IntKind.u64.wrap (d.getD k 0 + amount))) := by show _ = _; rw [HBV.out, if_pos ⟨h2, hz⟩]
    have HNM := Lib.hid (HRW.out.num hkd)
    have HSB := Lib.hid S2.out.b
    clear HKEEP hz HBV
    obtain ⟨x, hx⟩ : ∃ x, d.getD k 0 = x := ⟨_, rfl⟩
    rw [hx] at HNM HBW
    clear hx
    go_wp2_with (first
      | ((with_reducible refine at_load (.tmp 19) ?_); refine wpList_load_1 41 (.tmp 19) rfl w.heap.size 0 _ (S2.out.t.cell 0) rfl _ Try.underlying41 rfl rfl ?_)
      | ((with_reducible refine at_load (.tmp 23) ?_); refine wpList_load_1 3 (.tmp 23) rfl b (off + k * 240 + 239) _ HT2.out rfl _ Try.underlying3 rfl rfl ?_)
      | ((with_reducible refine at_load (.tmp 6) ?_); refine wpList_load_rng 28 (.tmp 6) rfl (w.heap.size + 1) 0 X (HXR.out _ _ S2.out) rfl _ Try.underlying28 rfl hiX rfl ?_)
      | ((with_reducible refine at_build (some 29) ?_); refine wpList_build_g 28 _ rfl #[] (by simp) (.agg Z) (HBZ.out _) rfl ?_)
      | ((with_reducible refine at_load (.tmp 36) ?_); refine wpList_load_1 22 (.tmp 36) rfl g k _ HNM.out rfl _ Try.underlying22 rfl rfl ?_)
      | ((with_reducible refine at_store (.tmp 40) ?_); refine wpList_store_num rfl 22 (.tmp 40) (.tmp 39) rfl g k .u64 d _ HRW.out hkd rfl rfl (by kernel_rfl) ?_; intro w5 U5 R5; have HR5 := Lib.hid R5; have HB5 := Lib.hid (U5.below HSB.out (by have := HG.out; omega)); clear U5 R5)
      | fail)
    go_ret
    refine ⟨_, rfl, ?_, HO3.out.new.mono (by omega), HB5.out⟩
    rw [HBW.out]
    refine ⟨HR5.out.ints (by rw [List.length_set]; exact HM.out.symm) (by rw [List.length_set]; exact hlm), fun y hy => ?_⟩
    rcases List.mem_or_eq_of_mem_set hy with h | rfl
    · exact HDB.out y h
    · exact wrap_u64R _
  · have hz : r = zeroR := HQR.out.1 rfl
    have HK := Lib.hid (HKEEP.out (by rw [HBV.out, if_neg (fun h => h.2 hz)]))
    clear HKEEP HBV hz
    go_wp2_with (first
      | ((with_reducible refine at_load (.tmp 19) ?_); refine wpList_load_1 41 (.tmp 19) rfl w.heap.size 0 _ (S2.out.t.cell 0) rfl _ Try.underlying41 rfl rfl ?_)
      | ((with_reducible refine at_load (.tmp 23) ?_); refine wpList_load_1 3 (.tmp 23) rfl b (off + k * 240 + 239) _ HT2.out rfl _ Try.underlying3 rfl rfl ?_)
      | ((with_reducible refine at_load (.tmp 6) ?_); refine wpList_load_rng 28 (.tmp 6) rfl (w.heap.size + 1) 0 X (HXR.out _ _ S2.out) rfl _ Try.underlying28 rfl hiX rfl ?_)
      | ((with_reducible refine at_build (some 29) ?_); refine wpList_build_g 28 _ rfl #[] (by simp) (.agg Z) (HBZ.out _) rfl ?_)
      | fail)
    go_ret
    exact ⟨_, rfl, HK.out.1, HK.out.2, S2.out.b⟩
end

/-! WgA -/
section
set_option linter.unusedVariables false
set_option linter.unusedSimpArgs false
open Go.RowKit

set_option maxRecDepth 100000

theorem oneNw (l : List Int) : ∀ u ∈ l.map (Value.int .u64), u.oneCell' = true := by
  intro u hu
  obtain ⟨x, _, rfl⟩ := List.mem_map.1 hu
  rfl

set_option maxHeartbeats 1000000 in
theorem cloneK_zero (a : Addr) (c : Nat) (w : World) :
    Calls Try.prog 27 #[.slice (some a) 0 c] w fun e w' => ∃ v', e = .returned v' ∧ OwnK .u64 22 w' w.heap.size v' [] ∧ Below w.heap.size w w' := by
  obtain ⟨i0, hi, hz0, hz1, hz2⟩ := info_parts info_u64c
  have q22 : ∀ (w : World) (a : Option Addr) (n c n' c' : Nat), (binOp .eql 29 (.slice a n c) (.slice none n' c')).run Try.prog w = .ok (.bool a.isNone) w := fun w a n c n' c' => Lib.run_eql_slice_nil w _ _ a n c n' c' Try.underlying29
  go_enter Try.func27, Try.ntmps27
  go_wp2_with (at_builtin; refine wpList_append_own _ rfl _ _ 29 rfl w.heap.size 22 i0 (.int .u64 0) 1 8 Try.underlying29 hi hz0 hz1 hz2 rfl (by decide) _ _ _ rfl (World.ownsRow_made w #[] 0 (Nat.le_refl _) (Nat.zero_le _) rfl) a 0 c [] rfl rfl (by intro j u hj; simp at hj) (by intro u hu; cases hu) (by unfold maxLen; omega) (by omega) (by simp) ?_)
  intro v' w1 hown hgrow hnil
  go_wp2
  go_ret
  exact ⟨_, rfl, (by unfold OwnK; simpa using hown), ((Below.refl _ w).alloc (Nat.le_refl _) _).grown hgrow (by simp) (by intro k hk; simp [Value.ownBlock] at hk; omega)⟩

/-- slices.Clone of numbers: a row of its own. -/
theorem cloneK (v : Value) (l : List Int) (w : World) (h : NumsV w v l) (hl : l.length ≤ 1000000000) :
    Calls Try.prog 27 #[v] w fun e w' => ∃ v', e = .returned v' ∧ OwnK .u64 22 w' w.heap.size v' l ∧ Below w.heap.size w w' := by
  obtain ⟨⟨a, n, k, rfl, hn, hm, hr⟩, hg⟩ := h
  cases a with
  | none =>
    rcases hr with rfl | ⟨b, off, e, _⟩
    · obtain rfl := List.eq_nil_of_length_eq_zero hn
      refine (Try.slices_Clone_nil 0 k w).mono ?_
      rintro e w' ⟨rfl, rfl⟩
      exact ⟨_, rfl, OwnK.nil _ _ _ _, Below.refl _ _⟩
    · cases e
  | some a =>
    by_cases h0 : n = 0
    · subst h0
      obtain rfl := List.eq_nil_of_length_eq_zero hn
      exact cloneK_zero a k w
    · rcases hr with h1 | ⟨b, off, e, hb, hc⟩
      · exact absurd h1 h0
      · cases e
        obtain ⟨i0, hi, hz0, hz1, hz2⟩ := info_parts info_u64c
        refine (Try.slices_Clone i0 (.int .u64 0) 1 8 hi hz0 hz1 hz2 rfl (by decide) Try.sizeOf22 b off n k (l.map (Value.int .u64)) w (by simp [hn]) hm (by omega) (fun j u hj => ?_) (oneNw l)).mono ?_
        · have hjl : j < l.length := by simpa using (List.getElem?_eq_some_iff.1 hj).1
          rw [hc j (by omega)]
          rw [List.getElem?_map, List.getElem?_eq_getElem hjl] at hj
          simp only [Option.map_some, Option.some.injEq] at hj
          rw [← hj]; simp [List.getD, List.getElem?_eq_getElem hjl]
        · rintro e w' ⟨v', rfl, hown, _, hbl⟩
          exact ⟨v', rfl, (by unfold OwnK; rw [hn]; exact hown), hbl⟩
/-! ### honest -/

/-- The balances; those of the first j that es names are 0. -/
def honJ (es bs : List Int) : Nat → List Int
  | 0 => bs
  | j + 1 => if 0 ≤ es.getD j 0 ∧ es.getD j 0 < bs.length then (honJ es bs j).set (es.getD j 0).toNat 0 else honJ es bs j

def honL (es bs : List Int) : List Int := honJ es bs es.length

theorem honJ_yes {es bs : List Int} {j : Nat} (h : 0 ≤ es.getD j 0 ∧ es.getD j 0 < bs.length) : honJ es bs (j + 1) = (honJ es bs j).set (es.getD j 0).toNat 0 := by
  show (if _ then _ else _) = _
  rw [if_pos h]

theorem honJ_no {es bs : List Int} {j : Nat} (h : ¬ (0 ≤ es.getD j 0 ∧ es.getD j 0 < bs.length)) : honJ es bs (j + 1) = honJ es bs j := by
  show (if _ then _ else _) = _
  rw [if_neg h]

theorem honJ_len (es bs : List Int) : ∀ j, (honJ es bs j).length = bs.length
  | 0 => rfl
  | j + 1 => by
    by_cases h : 0 ≤ es.getD j 0 ∧ es.getD j 0 < bs.length
    · rw [honJ_yes h, List.length_set, honJ_len es bs j]
    · rw [honJ_no h, honJ_len es bs j]

theorem honL_len (es bs : List Int) : (honL es bs).length = bs.length := honJ_len es bs _

theorem getD_set_at {l : List Int} {i k : Nat} {x : Int} (hi : i < l.length) : (l.set i x).getD k 0 = if k = i then x else l.getD k 0 := by
  simp only [List.getD_eq_getElem?_getD, List.getElem?_set]
  by_cases h : k = i
  · subst h; simp [hi]
  · rw [if_neg (Ne.symm h), if_neg h]

theorem honJ_get (es bs : List Int) (k : Nat) (hk : k < bs.length) : ∀ j, j ≤ es.length → (honJ es bs j).getD k 0 = if (k : Int) ∈ es.take j then 0 else bs.getD k 0
  | 0, _ => by simp [honJ]
  | j + 1, hj => by
    have ih := honJ_get es bs k hk j (by omega)
    have hm : ((k : Int) ∈ es.take (j + 1)) ↔ ((k : Int) ∈ es.take j ∨ (k : Int) = es.getD j 0) := by
      rw [List.take_add_one, List.mem_append]
      simp [List.getD, List.getElem?_eq_getElem (show j < es.length from hj)]
    by_cases h : 0 ≤ es.getD j 0 ∧ es.getD j 0 < bs.length
    · rw [honJ_yes h, getD_set_at (by rw [honJ_len]; omega), ih]
      by_cases e : (k : Int) = es.getD j 0
      · rw [if_pos (by omega), if_pos (hm.2 (.inr e))]
      · rw [if_neg (by omega)]
        by_cases h2 : (k : Int) ∈ es.take j
        · rw [if_pos h2, if_pos (hm.2 (.inl h2))]
        · rw [if_neg h2, if_neg (fun h3 => (hm.1 h3).elim h2 e)]
    · rw [honJ_no h, ih]
      have e : ¬ (k : Int) = es.getD j 0 := fun e => h ⟨by omega, by omega⟩
      by_cases h2 : (k : Int) ∈ es.take j
      · rw [if_pos h2, if_pos (hm.2 (.inl h2))]
      · rw [if_neg h2, if_neg (fun h3 => (hm.1 h3).elim h2 e)]

theorem honL_get (es bs : List Int) {k : Nat} (hk : k < bs.length) : (honL es bs).getD k 0 = if (k : Int) ∈ es then 0 else bs.getD k 0 := by
  unfold honL
  rw [honJ_get es bs k hk _ (Nat.le_refl _), List.take_length]

theorem honL_rng {es bs : List Int} (h : ∀ x ∈ bs, 0 ≤ x ∧ x ≤ 18446744073709551615) : ∀ x ∈ honL es bs, 0 ≤ x ∧ x ≤ 18446744073709551615 := by
  intro x hx
  obtain ⟨k, hk, rfl⟩ := List.mem_iff_getElem.1 hx
  have hkb : k < bs.length := by rw [honL_len] at hk; exact hk
  have e : (honL es bs)[k] = (honL es bs).getD k 0 := by simp [List.getD, List.getElem?_eq_getElem hk]
  rw [e, honL_get es bs hkb]
  split
  · omega
  · rw [List.getD, List.getElem?_eq_getElem hkb]; exact h _ (List.getElem_mem hkb)

/-- A row of numbers that may be written, if there is one. -/
structure HoR (B : Nat) (v : Value) (l : List Int) (u : World) : Prop where
  lt : B ≤ u.heap.size
  mx : l.length ≤ 1000000000
  row : (l = [] ∧ ∃ a c, v = .slice a 0 c) ∨ ∃ g c, v = .slice (some ⟨g, 0, none⟩) l.length c ∧ B ≤ g ∧ RowB u g (numL .u64 l)

theorem HoR.of {u : World} {B : Nat} {v : Value} {l : List Int} (h : OwnK .u64 22 u B v l) (hB : B ≤ u.heap.size) (hl : l.length ≤ 1000000000) : HoR B v l u := by
  refine ⟨hB, hl, ?_⟩
  rcases h.2 with ⟨rfl, h0⟩ | ⟨g, cap, cur, rfl, _⟩
  · have h1 : l = [] := by
      have := h0
      cases l with
      | nil => rfl
      | cons x r => simp at this
    subst h1
    exact .inl ⟨rfl, _, _, rfl⟩
  · obtain ⟨h1, h2, h3⟩ := OwnK.rowB h
    exact .inr ⟨g, cap, rfl, h2, h1⟩

theorem HoR.shape {u : World} {B : Nat} {v : Value} {l : List Int} (h : HoR B v l u) : ∃ a c, v = .slice a l.length c := by
  rcases h.row with ⟨rfl, a, c, rfl⟩ | ⟨g, c, rfl, _⟩
  · exact ⟨a, c, rfl⟩
  · exact ⟨_, c, rfl⟩

theorem HoR.nums {u : World} {B : Nat} {v : Value} {l : List Int} (h : HoR B v l u) (hr : ∀ x ∈ l, 0 ≤ x ∧ x ≤ 18446744073709551615) : NumsV u v l := by
  have hm := h.mx
  rcases h.row with ⟨rfl, a, c, rfl⟩ | ⟨g, c, rfl, _, h2⟩
  · exact ⟨⟨_, _, _, rfl, rfl, Nat.zero_le _, .inl rfl⟩, hr⟩
  · exact ⟨h2.ints rfl (by unfold maxLen; omega), hr⟩

theorem HoR.call {u u' : World} {B : Nat} {v : Value} {l : List Int} (h : HoR B v l u) (hb : Below u.heap.size u u') : HoR B v l u' := by
  refine ⟨Nat.le_trans h.lt hb.size, h.mx, ?_⟩
  rcases h.row with h1 | ⟨g, c, e, h2, h3⟩
  · exact .inl h1
  · exact .inr ⟨g, c, e, h2, h3.call hb⟩
end

/-! BtA -/
section
set_option linter.unusedVariables false
set_option linter.unusedSimpArgs false
open Go.RowKit

set_option maxRecDepth 100000

def upOK (up : Int) (k : Nat) : Prop := (k = 0 ∧ up = -1) ∨ (0 < k ∧ 0 ≤ up ∧ up < k)
instance (up : Int) (k : Nat) : Decidable (upOK up k) := by unfold upOK; exact inferInstance

set_option maxHeartbeats 4000000 in
theorem cfind_any (v : Value) (ns : List NdD) (r : List Int) (w : World) (hN : NodesV w v ns) (hr : IsBytes 32 r) :
    Calls Try.prog 28 #[.agg #[v], .agg (bytesL r).toArray] w fun e w' => e = .returned (.int .i64 (findN ns r)) ∧ Below w.heap.size w w' := by
  obtain ⟨a, cap, rfl, hmx⟩ := hN.shape
  unfold maxLen at hmx
  have HN := Lib.hid hN
  have HR := Lib.hid hr
  obtain ⟨q, hq⟩ : ∃ q, Hid (findN ns r = q) := ⟨_, Lib.hid rfl⟩
  rw [hq.out]
  obtain ⟨X, hX⟩ : ∃ X, Hid ((bytesL r).toArray = X) := ⟨_, Lib.hid rfl⟩
  rw [hX.out]
  have hsX : X.size = 32 := by rw [← hX.out, List.size_toArray, bytesL_len hr]
  have hiX : (Try.prog.info? 28).map (·.size) = some X.size := by rw [hsX]; kernel_rfl
  obtain ⟨m, hm⟩ : ∃ m, Hid (ns.length = m) := ⟨_, Lib.hid rfl⟩
  rw [hm.out] at hmx ⊢
  have HBA := Lib.hid (((Below.refl w.heap.size w).alloc (Nat.le_refl _) (.cells #[.slice a m cap] 43)).alloc (by simp) (.cells X 28))
  have HT : Hid (Blk ((w.alloc (.cells #[.slice a m cap] 43)).alloc (.cells X 28)) w.heap.size #[.slice a m cap]) := (Blk.new rfl).alloc _
  have HX : Hid (Blk ((w.alloc (.cells #[.slice a m cap] 43)).alloc (.cells X 28)) (w.heap.size + 1) X) := Blk.new (by simp)
  clear hN hr
  go_enter Try.func28, Try.ntmps28
  go_wp2_with (first
    | ((with_reducible refine at_load (.tmp 6) ?_); refine wpList_load_1 41 (.tmp 6) rfl w.heap.size 0 (.slice a m cap) (HT.out.cell 0) rfl _ Try.underlying41 rfl rfl ?_))
  go_loopw [9] (fun i wr => FindI w ns r #[.slice a m cap] X i wr) (fun i _ => m - (intOf i).toNat)
  case atStart => exact ⟨0, Nat.zero_le _, rfl, rfl, HT.out, HX.out, HBA.out⟩
  case round =>
    obtain ⟨k, hk, rfl, hf, ht, hx, hbl⟩ := hrel
    have HF := Lib.hid hf
    have HTr := Lib.hid ht
    have HXr := Lib.hid hx
    have HBL := Lib.hid hbl
    have hlt0 := ht.lt
    have HC0 : Hid (wr.cell? ⟨w.heap.size, 0, none⟩ = some (.slice a m cap)) := ht.cell 0
    rw [hm.out] at hk
    clear hf ht hx hbl
    by_cases hlt : k < m
    case neg =>
      obtain rfl : k = m := by omega
      have hqv : q = -1 := by rw [← hq.out, ← HF.out, hm.out, Nat.sub_self]; rfl
      have HQ := Lib.hid hqv
      clear hqv
      go_wp2_with fail
      go_ret
      exact ⟨by rw [HQ.out]; rfl, HBL.out⟩
    have hlt' : (k : Int) < m := by omega
    have hkn : k < ns.length := by rw [hm.out]; exact hlt
    obtain ⟨b, off, rfl, hlm, hbb, hna, hok⟩ := HN.out.elem (i := k) hkn
    have hrt := Below.rng HBL.out hbb hna.bk.root
    have HRT := Lib.hid hrt
    have hbw : b < wr.heap.size := Nat.lt_of_lt_of_le hbb HBL.out.size
    have hst := findGo_step (r := r) hkn
    have HEQ := fun u => eq_root hok.1.2.2.2.1 HR.out u
    have hiY : (Try.prog.info? 28).map (·.size) = some (bytesL ns[k].b.root).length := by rw [bytesL_len hok.1.2.2.2.1]; kernel_rfl
    obtain ⟨qr, hqr⟩ : ∃ q : Bool, decide (ns[k].b.root = r) = q := ⟨_, rfl⟩
    rw [hqr] at HEQ
    have HQR : Hid (qr = true ↔ ns[k].b.root = r) := by show _ ↔ _; rw [← hqr]; exact decide_eq_true_iff
    simp only [bytesL_V] at HEQ
    rw [hX.out] at HEQ
    obtain ⟨R, hR⟩ : ∃ R, bytesL ns[k].b.root = R := ⟨_, rfl⟩
    rw [hR] at HRT HEQ hiY
    have HST := Lib.hid hst
    clear hna hok hrt hst hqr hR hlm
    go_wp2_with fail
    refine wp_region_fam2 (by kernel_rfl) (by kernel_rfl) ?_
    intro T F hT hF hG
    have c0 : ∀ t, (F t).cell? ⟨w.heap.size, 0, none⟩ = some (.slice (some ⟨b, off, none⟩) m cap) := fun t => ((hF t).cell (p := ⟨w.heap.size, 0, none⟩) hlt0).trans HC0.out
    have CR := Lib.hid (show ∀ u, (∃ t, u = F t) → u.rangeAt b (off + k * 240 + 67) R by rintro _ ⟨t, rfl⟩; exact Below.rng (hF t) hbw HRT.out)
    have CX := Lib.hid (show ∀ u, (∃ t, u = F t) → Blk u (w.heap.size + 1) X by rintro _ ⟨t, rfl⟩; exact HXr.out.call (hF t))
    repeat (first
      | ((with_reducible refine at_qload (.tmp 17) ?_); refine wpQuiet_load_midE 28 _ rfl b (off + k * 240 + 67) (by simp [Act.eval]) R CR.out Try.underlying28 rfl hiY (by kernel_rfl) ?_; simp only [Act.put, List.setIfInBounds_toArray, List.set_cons_succ, List.set_cons_zero])
      | ((with_reducible refine at_qload (.tmp 3) ?_); refine wpQuiet_load 28 _ rfl (w.heap.size + 1) rfl X CX.out Try.underlying28 rfl hiX (by kernel_rfl) ?_; simp only [Act.put, List.setIfInBounds_toArray, List.set_cons_succ, List.set_cons_zero])
      | (go_big_quiet_step (fail)))
    refine wpQuiet_nil ?_
    rintro _ ⟨t, rfl⟩
    have hft := hF t
    obtain ⟨u, hu⟩ : ∃ u, F t = u := ⟨_, rfl⟩
    rw [hu] at hft ⊢
    have HB1 := Lib.hid (HBL.out.trans (hft.mono HBL.out.size))
    have HT1 := Lib.hid (HTr.out.call hft)
    have HX1 := Lib.hid (HXr.out.call hft)
    clear c0 CR CX hG hu hft hF hT
    clear t F T
    cases qr
    case false =>
      have hne : ¬ ns[k].b.root = r := fun h => by have := HQR.out.2 h; cases this
      rw [if_neg hne] at HST
      go_wp2_with fail
      go_roundw
      case rel => exact ⟨k + 1, by rw [hm.out]; omega, by go_num, by rw [← HST.out]; exact HF.out, HT1.out, HX1.out, HB1.out⟩
      case measure => simp [intOf]; omega
    case true =>
      rw [if_pos (HQR.out.1 rfl)] at HST
      have hqv : q = (k : Int) := by rw [← hq.out, ← HF.out]; exact HST.out
      have HQ := Lib.hid hqv
      clear hqv
      go_wp2_with fail
      go_ret
      exact ⟨by rw [HQ.out]; rfl, HB1.out⟩
end

/-! BsB -/
section
set_option linter.unusedVariables false
set_option linter.unusedSimpArgs false
open Go.RowKit

set_option maxRecDepth 100000

theorem booN_rng {ns : List NdD} {d r : List Int} {amount : Int} (h : ∀ x ∈ d, 0 ≤ x ∧ x ≤ 18446744073709551615) : ∀ x ∈ booN ns d r amount, 0 ≤ x ∧ x ≤ 18446744073709551615 := by
  intro y hy
  unfold booN at hy
  split at hy
  · rcases List.mem_or_eq_of_mem_set hy with h' | rfl
    · exact h y h'
    · exact wrap_u64R _
  · exact h y hy

theorem booN_len (ns : List NdD) (d r : List Int) (amount : Int) : (booN ns d r amount).length = d.length := by
  unfold booN; split
  · rw [List.length_set]
  · rfl

set_option maxHeartbeats 8000000 in
theorem cboo_any (sv dv : Value) (ns : List NdD) (d : List Int) (r : List Int) (amount : Int) (w : World) (hN : NodesV w sv ns) (hd : NumsV w dv d) (hl : d.length = ns.length) (hl2 : d.length ≤ 1000000) (hr : IsBytes 32 r) :
    Calls Try.prog 16 #[.agg #[sv], dv, .agg (bytesL r).toArray, .int .u64 amount] w fun e w' => ∃ v', e = .returned v' ∧ NumsV w' v' (booN ns d r amount) ∧ New w.heap.size v' ∧ Below w.heap.size w w' := by
  obtain ⟨a, cap, rfl, hmx⟩ := hN.shape
  unfold maxLen at hmx
  obtain ⟨da, dc, rfl, hmd⟩ := NumsV.shapeW hd
  have HN := Lib.hid hN
  have HD := Lib.hid hd
  have HFI := Lib.hid (fun u (hu : Below w.heap.size w u) => cfind_any (.slice a ns.length cap) ns r u (hN.call hu) hr)
  have HSP := findN_spec ns r
  have HEQ := fun u => eq_rootL hr zeroR_is u
  obtain ⟨qr, hqr⟩ : ∃ q : Bool, decide (r = zeroR) = q := ⟨_, rfl⟩
  rw [hqr] at HEQ
  have HQR : Hid (qr = true ↔ r = zeroR) := by show _ ↔ _; rw [← hqr]; exact decide_eq_true_iff
  obtain ⟨X, hX⟩ : ∃ X, Hid (bytesL r = X) := ⟨_, Lib.hid rfl⟩
  have hsX : X.length = 32 := by rw [← hX.out, bytesL_len hr]
  have hiX : (Try.prog.info? 28).map (·.size) = some X.length := by rw [hsX]; kernel_rfl
  have HBZ := Lib.hid (fun u => bz_rootT u)
  obtain ⟨Z, hZ⟩ : ∃ Z, Hid ((bytesL zeroR).toArray = Z) := ⟨_, Lib.hid rfl⟩
  rw [hX.out] at HEQ HFI ⊢
  rw [hZ.out] at HEQ HBZ
  obtain ⟨m, hm⟩ : ∃ m, Hid (ns.length = m) := ⟨_, Lib.hid rfl⟩
  have HM : Hid (d.length = m) := Lib.hid (by rw [hl]; exact hm.out)
  rw [hm.out] at HN HFI hmx ⊢
  rw [HM.out] at HD ⊢
  have hm2 : m ≤ 1000000 := by rw [← HM.out]; exact hl2
  have hi1 : (Try.prog.info? 43).map (·.size) = some 1 := by kernel_rfl
  obtain ⟨BO, hBO⟩ : ∃ BO, Hid (booN ns d r amount = BO) := ⟨_, Lib.hid rfl⟩
  rw [hBO.out]
  have S0 := Lib.hid (pad_new w #[.slice a m cap] X.toArray 43 28)
  have HXR : Hid (∀ T u, PaD w T X.toArray u → u.rangeAt (w.heap.size + 1) 0 X) := fun T u hu => by have h := hu.v.range; rwa [List.toList_toArray] at h
  have HCL : Hid (∀ u, Below w.heap.size w u → Calls Try.prog 27 #[.slice da m dc] u fun e w' => ∃ v', e = .returned v' ∧ OwnK .u64 22 w' u.heap.size v' d ∧ Below u.heap.size u w') := fun u hu => cloneK _ d u ⟨HD.out.1.below hu, HD.out.2⟩ (by omega)
  obtain ⟨F, hF⟩ : ∃ F, Hid (findN ns r = F) := ⟨_, Lib.hid rfl⟩
  rw [hF.out] at HFI HSP
  clear hN hd hr hqr hsX hl hl2 hmd
  go_enter Try.func16, Try.ntmps16
  go_upto_region 2 with (first
    | (go_at_call 27; refine (HCL.out _ S0.out.b).mono ?_; rintro e w3 ⟨v3, rfl, ho3, hb3⟩; have HOW := Lib.hid ho3; have S1 := Lib.hid (S0.out.call hb3); clear ho3 hb3)
    | fail)
  have HDB := Lib.hid HD.out.2
  have hlm : d.length ≤ maxLen := by unfold maxLen; have := HM.out; omega
  have HO1 : Hid (OwnK .u64 22 w3 (w.heap.size + 2) v3 d) := by show OwnK .u64 22 w3 (w.heap.size + 1 + 1) v3 d; simpa using HOW.out
  have HKEEP : Hid (∀ u, OwnK .u64 22 u (w.heap.size + 2) v3 d → BO = d → NumsV u v3 BO ∧ New w.heap.size v3) := Lib.hid (fun u ho e => by rw [e]; exact ⟨⟨ho.ints hlm, HDB.out⟩, ho.new.mono (by omega)⟩)
  cases qr
  case true =>
    have hz : r = zeroR := HQR.out.1 rfl
    have HK := Lib.hid (HKEEP.out _ HO1.out (by rw [← hBO.out]; unfold booN; rw [if_neg (fun h => h.2.2 hz)]))
    clear hz HKEEP
    go_wp2_with (first
      | ((with_reducible refine at_load (.tmp 6) ?_); refine wpList_load_rng 28 (.tmp 6) rfl (w.heap.size + 1) 0 X (HXR.out _ _ S1.out) rfl _ Try.underlying28 rfl hiX rfl ?_)
      | ((with_reducible refine at_build (some 14) ?_); refine wpList_build_g 28 _ rfl #[] (by simp) (.agg Z) (HBZ.out _) rfl ?_)
      | fail)
    go_ret
    exact ⟨_, rfl, HK.out.1, HK.out.2, S1.out.b⟩
  case false =>
    have hz : ¬ r = zeroR := fun h => by have := HQR.out.2 h; cases this
    have HZ := Lib.hid hz
    clear hz
    go_upto_region 5 with (first
      | ((with_reducible refine at_load (.tmp 6) ?_); refine wpList_load_rng 28 (.tmp 6) rfl (w.heap.size + 1) 0 X (HXR.out _ _ S1.out) rfl _ Try.underlying28 rfl hiX rfl ?_)
      | ((with_reducible refine at_build (some 14) ?_); refine wpList_build_g 28 _ rfl #[] (by simp) (.agg Z) (HBZ.out _) rfl ?_)
      | ((with_reducible refine at_load (.tmp 4) ?_); refine wpList_load_g 43 (.tmp 4) rfl w.heap.size rfl #[.slice a m cap] _ S1.out.t Try.underlying43 rfl hi1 rfl ?_)
      | (go_at_call 28; refine (HFI.out _ S1.out.b).mono ?_; rintro e w4 ⟨rfl, hb4⟩; have S2 := Lib.hid (S1.out.call hb4); have HO2 := Lib.hid (HO1.out.call hb4); clear hb4)
      | fail)
    rcases HSP with ⟨rfl, hno⟩ | ⟨k, hk, rfl, hrt, hfi⟩
    · have hb : BO = d := by rw [← hBO.out]; unfold booN; rw [if_neg (by rw [hF.out]; omega)]
      have HK := Lib.hid (HKEEP.out _ HO2.out hb)
      clear hno hb HKEEP
      go_wp2_with fail
      go_ret
      exact ⟨_, rfl, HK.out.1, HK.out.2, S2.out.b⟩
    have hk' : k < ns.length := hk
    rw [hm.out] at hk'
    have hkm : (k : Int) < m := by omega
    obtain ⟨b, off, rfl, hl0, hbb, hna, hok⟩ := HN.out.elem hk
    clear hl0
    have HST : Hid (∀ u, PaD w #[.slice (some ⟨b, off, none⟩) m cap] X.toArray u → u.cell? ⟨b, off + k * 240 + 239, none⟩ = some (.int .i64 ns[k].st)) := fun u hu => (hu.b.cell hbb).trans hna.st
    have HBV : Hid (BO = if ns[k].st ≠ 2 then d.set k (IntKind.u64.wrap (d.getD k 0 + amount)) else d) := by
      show _ = _
      rw [← hBO.out]; unfold booN; rw [hF.out, show ((k : Int)).toNat = k from rfl, ndN_at hk]
      by_cases h : ns[k].st ≠ 2
      · rw [if_pos ⟨by omega, h, HZ.out⟩, if_pos h]
      · rw [if_neg (fun g => h g.2.1), if_neg h]
    obtain ⟨st, hst⟩ : ∃ st, ns[k].st = st := ⟨_, rfl⟩
    rw [hst] at HST HBV
    have HT2 := Lib.hid (HST.out _ S2.out)
    have hsh : ∃ g c3, v3 = .slice (some ⟨g, 0, none⟩) m c3 := by
      rcases HO2.out.2 with ⟨e, h0⟩ | ⟨g, cap3, cur, e, _⟩
      · exfalso; have := HM.out; omega
      · exact ⟨g, cap3, by rw [e, HM.out]⟩
    obtain ⟨g, c3, rfl⟩ := hsh
    obtain ⟨hrw, hg, hq3⟩ := HO2.out.rowB
    clear hq3
    have HRW := Lib.hid hrw
    have HG := Lib.hid hg
    have hkd : k < d.length := by have := HM.out; omega
    have hkn : ((k : Int) == -1) = false := by simp
    have hkn2 : ((k : Int) != -1) = true := by simp
    clear hrw hg hna hok hst hrt hfi hk
    by_cases h2 : st = 2
    · have HK := Lib.hid (HKEEP.out _ HO2.out (by rw [HBV.out, if_neg (fun h => h h2)]))
      subst h2
      clear HKEEP
      go_wp2_with (first
        | ((with_reducible refine at_load (.tmp 29) ?_); refine wpList_load_1 41 (.tmp 29) rfl w.heap.size 0 _ (S2.out.t.cell 0) rfl _ Try.underlying41 rfl rfl ?_)
        | ((with_reducible refine at_load (.tmp 33) ?_); refine wpList_load_1 3 (.tmp 33) rfl b (off + k * 240 + 239) _ HT2.out rfl _ Try.underlying3 rfl rfl ?_)
        | fail)
      go_ret
      exact ⟨_, rfl, HK.out.1, HK.out.2, S2.out.b⟩
    have hs2 : (st != 2) = true := by simpa using h2
    have HBW : Hid (BO = d.set k (IntKind.u64.wrap (d.getD k 0 + amount))) := by show _ = _; rw [HBV.out, if_pos h2]
    have HNM := Lib.hid (HRW.out.num hkd)
    have HSB := Lib.hid S2.out.b
    clear HKEEP HBV
    obtain ⟨x, hx⟩ : ∃ x, d.getD k 0 = x := ⟨_, rfl⟩
    rw [hx] at HNM HBW
    clear hx
    go_wp2_with (first
      | ((with_reducible refine at_load (.tmp 29) ?_); refine wpList_load_1 41 (.tmp 29) rfl w.heap.size 0 _ (S2.out.t.cell 0) rfl _ Try.underlying41 rfl rfl ?_)
      | ((with_reducible refine at_load (.tmp 33) ?_); refine wpList_load_1 3 (.tmp 33) rfl b (off + k * 240 + 239) _ HT2.out rfl _ Try.underlying3 rfl rfl ?_)
      | ((with_reducible refine at_load (.tmp 39) ?_); refine wpList_load_1 22 (.tmp 39) rfl g k _ HNM.out rfl _ Try.underlying22 rfl rfl ?_)
      | ((with_reducible refine at_store (.tmp 43) ?_); refine wpList_store_num rfl 22 (.tmp 43) (.tmp 42) rfl g k .u64 d _ HRW.out hkd rfl rfl (by kernel_rfl) ?_; intro w5 U5 R5; have HR5 := Lib.hid R5; have HB5 := Lib.hid (U5.below HSB.out (by have := HG.out; omega)); clear U5 R5)
      | fail)
    go_ret
    refine ⟨_, rfl, ?_, HO2.out.new.mono (by omega), HB5.out⟩
    rw [HBW.out]
    refine ⟨HR5.out.ints (by rw [List.length_set]; exact HM.out.symm) (by rw [List.length_set]; exact hlm), fun y hy => ?_⟩
    rcases List.mem_or_eq_of_mem_set hy with h | rfl
    · exact HDB.out y h
    · exact wrap_u64R _
end

/-! TrC -/
section
set_option linter.unusedVariables false
set_option linter.unusedSimpArgs false
open Go.RowKit

set_option maxRecDepth 100000

theorem i64_and16 (n : Int) : bits .and .i64 n 65535 = n % 65536 := by
  have h3 : (BitVec.ofInt 64 65535).toNat = 2 ^ 16 - 1 := by decide
  have key : (BitVec.ofInt 64 n &&& BitVec.ofInt 64 65535).toNat = (n % ((2 ^ 64 : Nat) : Int)).toNat % 2 ^ 16 := by
    rw [BitVec.toNat_and, BitVec.toNat_ofInt, h3, Nat.and_two_pow_sub_one_eq_mod]
  show IntKind.i64.wrap ((BitVec.ofInt 64 n &&& BitVec.ofInt 64 65535).toNat : Nat) = n % 65536
  rw [key, IntKind.wrap_i64]
  omega

theorem i64_and24 (n : Int) : bits .and .i64 n 16777215 = n % 16777216 := by
  have h3 : (BitVec.ofInt 64 16777215).toNat = 2 ^ 24 - 1 := by decide
  have key : (BitVec.ofInt 64 n &&& BitVec.ofInt 64 16777215).toNat = (n % ((2 ^ 64 : Nat) : Int)).toNat % 2 ^ 24 := by
    rw [BitVec.toNat_and, BitVec.toNat_ofInt, h3, Nat.and_two_pow_sub_one_eq_mod]
  show IntKind.i64.wrap ((BitVec.ofInt 64 n &&& BitVec.ofInt 64 16777215).toNat : Nat) = n % 16777216
  rw [key, IntKind.wrap_i64]
  omega

theorem i64_and16_nat (n : Int) : ∃ m : Nat, m ≤ 65535 ∧ bits .and .i64 n 65535 = m := ⟨(n % 65536).toNat, by omega, by rw [i64_and16]; omega⟩

theorem i64_and24_nat (n : Int) : ∃ m : Nat, m ≤ 16777215 ∧ bits .and .i64 n 16777215 = m := ⟨(n % 16777216).toNat, by omega, by rw [i64_and24]; omega⟩

/-- What At gives, as a plain function. -/
def atN (l : List Int) (i : Nat) : Nat := if l.length = 0 then i % 65536 else (l.getD (i % l.length) 0 % 16777216).toNat + i / l.length

set_option maxHeartbeats 4000000 in
theorem at_val (v : Value) (l : List Int) (i : Nat) (w : World) (h : IntsV w v l) (hi : i ≤ 1000000) :
    Calls Try.prog 25 #[v, .int .i64 i] w fun e w' => e = .returned (.int .i64 (atN l i)) ∧ Below w.heap.size w w' := by
  obtain ⟨a, len, cap, rfl⟩ := ints_shape' h.1
  have HI := Lib.hid h
  have HL := Lib.hid h.len
  have hmx := h.len.2
  unfold maxLen at hmx
  obtain ⟨q, hq⟩ : ∃ q, atN l i = q := ⟨_, rfl⟩
  rw [hq]
  unfold atN at hq
  rw [HL.out.1] at hq
  have HQ := Lib.hid hq
  clear h hq
  by_cases h0 : len = 0
  · subst h0
    have hk : bits .and .i64 i 65535 = (q : Int) := by rw [i64_and16, ← HQ.out, if_pos rfl]; omega
    go_enter Try.func25, Try.ntmps25
    go_wp2_with fail
    go_ret
    exact ⟨rfl, Below.refl _ _⟩
  have hz : ((len : Int) == 0) = false := by simp; omega
  have hz0 : ¬ (len : Int) = 0 := by omega
  have hr : i % len < len := Nat.mod_lt _ (by omega)
  have HQ2 : Hid ((l.getD (i % len) 0 % 16777216).toNat + i / len = q) := by have := HQ.out; rw [if_neg h0] at this; exact this
  have hdl : i / len ≤ i := Nat.div_le_self _ _
  obtain ⟨b, off, rfl, hbb, hce⟩ := HI.out.at (k := i % len) (by rw [HL.out.1]; exact hr)
  have hm : Int.tmod (i : Int) (len : Int) = ((i % len : Nat) : Int) := by rw [Int.tmod_eq_emod_of_nonneg (by omega)]; rfl
  have hd : Int.tdiv (i : Int) (len : Int) = ((i / len : Nat) : Int) := by rw [Int.tdiv_eq_ediv_of_nonneg (by omega)]; rfl
  obtain ⟨r, hrr⟩ : ∃ r, i % len = r := ⟨_, rfl⟩
  obtain ⟨d, hdd⟩ : ∃ d, i / len = d := ⟨_, rfl⟩
  rw [hrr] at hm hce hr HQ2
  rw [hdd] at hd hdl HQ2
  obtain ⟨x, hx⟩ : ∃ x, l.getD r 0 = x := ⟨_, rfl⟩
  rw [hx] at hce HQ2
  have ha : bits .and .i64 x 16777215 = (((x % 16777216).toNat : Nat) : Int) := by rw [i64_and24]; omega
  have hyb : (x % 16777216).toNat ≤ 16777215 := by omega
  obtain ⟨y, hy⟩ : ∃ y, (x % 16777216).toNat = y := ⟨_, rfl⟩
  rw [hy] at ha hyb HQ2
  have HCE := Lib.hid hce
  have hri : (r : Int) < len := by omega
  clear hrr hdd hx hce hy h0 HQ
  go_enter Try.func25, Try.ntmps25
  go_wp2_with fail
  refine wp_region_fam2 (by kernel_rfl) (by kernel_rfl) ?_
  intro T F hT hF hG
  have c0 : ∀ t, (F t).cell? ⟨b, off + r, none⟩ = some (.int .i64 x) := fun t => ((hF t).cell (p := ⟨b, off + r, none⟩) hbb).trans HCE.out
  repeat (go_big_quiet_step (fail))
  refine wpQuiet_nil ?_
  rintro _ ⟨t, rfl⟩
  have hft := hF t
  go_wp2_with fail
  go_ret
  exact ⟨by rw [← HQ2.out]; simp, hft⟩

theorem at_any (v : Value) (l : List Int) (i : Nat) (w : World) (h : IntsV w v l) (hi : i ≤ 1000000) :
    Calls Try.prog 25 #[v, .int .i64 i] w fun e w' => (∃ k : Nat, k ≤ 20000000 ∧ e = .returned (.int .i64 k)) ∧ Below w.heap.size w w' := by
  refine (at_val v l i w h hi).mono ?_
  rintro e w' ⟨rfl, hb⟩
  refine ⟨⟨_, ?_, rfl⟩, hb⟩
  unfold atN
  have := Nat.div_le_self i l.length
  split <;> omega
end

end Go.Proofs.Ytidimiioglgliaa
