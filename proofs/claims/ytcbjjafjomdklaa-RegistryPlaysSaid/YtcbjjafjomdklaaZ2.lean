/- Several texts as one: RgA, RgC, RgD. -/
import Derived.Test.YtcbjjafjomdklaaRm
import Derived.Test.YtcbjjafjomdklaaEqC
import Derived.Test.YtcbjjafjomdklaaVoB
import Derived.Test.YtcbjjafjomdklaaZ1
import Derived.Test.YtcbjjafjomdklaaWeA
import Derived.Test.YtcbjjafjomdklaaBkC
import Derived.Test.YtcbjjafjomdklaaVoD
import Derived.Test.YtcbjjafjomdklaaHeldK
namespace Go.Proofs.Ytcbjjafjomdklaa

/-! RgA -/
section
set_option linter.unusedVariables false
set_option linter.unusedSimpArgs false
open Go.RowKit Go.Maps

set_option maxRecDepth 100000
/-! ### The weight -/

/-- Whether validator k counts for these roots. -/
def wsP (vs : List VoD) (gs : List Bool) (rs : List (List Int)) (k : Nat) : Bool := (vs.getD k zeV).has && !guiV gs k && decide ((vs.getD k zeV).r ∈ rs)

def wsK (vs : List VoD) (gs : List Bool) (bs : List Int) (rs : List (List Int)) : Nat → Int
  | 0 => 0
  | k + 1 => wsK vs gs bs rs k + if wsP vs gs rs k then bs.getD k 0 else 0

theorem wsK_succ (vs : List VoD) (gs : List Bool) (bs : List Int) (rs : List (List Int)) (k : Nat) : wsK vs gs bs rs (k + 1) = wsK vs gs bs rs k + if wsP vs gs rs k then bs.getD k 0 else 0 := rfl

/-- The weights by root, validator k's turn. -/
theorem wsK_out {vs : List VoD} {gs : List Bool} {bs : List Int} {k : Nat} (h : (vs.getD k zeV).has = false ∨ guiV gs k = true) (r : List Int) : wsK vs gs bs [r] (k + 1) = wsK vs gs bs [r] k := by
  rw [wsK_succ, if_neg, Int.add_zero]
  unfold wsP
  rcases h with h | h
  · rw [h]; simp
  · rw [h]; simp

theorem wsK_in {vs : List VoD} {gs : List Bool} {bs : List Int} {k : Nat} (h1 : (vs.getD k zeV).has = true) (h2 : guiV gs k = false) (s : List Int) : wsK vs gs bs [s] (k + 1) = if s = (vs.getD k zeV).r then wsK vs gs bs [(vs.getD k zeV).r] k + bs.getD k 0 else wsK vs gs bs [s] k := by
  rw [wsK_succ]
  unfold wsP
  rw [h1, h2]
  by_cases e : s = (vs.getD k zeV).r
  · rw [if_pos e, e]; simp
  · rw [if_neg e, if_neg (by simp; exact fun h => e h.symm), Int.add_zero]

/-- One more root. -/
theorem wsK_more (vs : List VoD) (gs : List Bool) (bs : List Int) (R : List (List Int)) (r : List Int) : ∀ k, wsK vs gs bs (R ++ [r]) k = wsK vs gs bs R k + if r ∈ R then 0 else wsK vs gs bs [r] k
  | 0 => by simp [wsK]
  | k + 1 => by
    have ih := wsK_more vs gs bs R r k
    rw [wsK_succ, wsK_succ, wsK_succ, ih]
    unfold wsP
    generalize vs.getD k zeV = d
    generalize (d.has && !guiV gs k) = p
    generalize d.r = s
    generalize bs.getD k 0 = x
    cases p
    · simp
    simp only [Bool.true_and, decide_eq_true_eq, List.mem_append, List.mem_singleton]
    by_cases hr : r ∈ R
    · simp only [if_pos hr, Int.add_zero]
      by_cases hv : s ∈ R
      · simp [hv]
      · have : s ≠ r := fun e => hv (e ▸ hr)
        simp [hv, this]
    · simp only [if_neg hr]
      by_cases hv : s ∈ R
      · have : s ≠ r := fun e => hr (e ▸ hv)
        simp [hv, this]; omega
      · by_cases e : s = r
        · simp [hv, e, hr]; omega
        · simp [hv, e]

theorem wsK_bd {vs : List VoD} {gs : List Bool} {bs : List Int} (h : ∀ x ∈ bs, 0 ≤ x) (rs : List (List Int)) : ∀ k, 0 ≤ wsK vs gs bs rs k ∧ wsK vs gs bs rs k ≤ (bs.take k).sum
  | 0 => by simp [wsK]
  | k + 1 => by
    obtain ⟨h1, h2⟩ := wsK_bd h rs k (vs := vs) (gs := gs)
    have hg : 0 ≤ bs.getD k 0 := by
      by_cases hk : k < bs.length
      · rw [List.getD, List.getElem?_eq_getElem hk]; exact h _ (List.getElem_mem hk)
      · rw [List.getD, List.getElem?_eq_none (by omega)]; simp
    have hs : (bs.take (k + 1)).sum = (bs.take k).sum + bs.getD k 0 := by
      rw [List.take_add_one, List.sum_append]
      by_cases hk : k < bs.length
      · simp [List.getD, List.getElem?_eq_getElem hk]
      · simp [List.getD, List.getElem?_eq_none (Nat.le_of_not_lt hk)]
    rw [wsK_succ, hs]
    split <;> omega

theorem wsK_top {vs : List VoD} {gs : List Bool} {bs : List Int} (h : ∀ x ∈ bs, 0 ≤ x) (rs : List (List Int)) (k : Nat) : 0 ≤ wsK vs gs bs rs k ∧ wsK vs gs bs rs k ≤ bs.sum := by
  obtain ⟨h1, h2⟩ := wsK_bd h rs k (vs := vs) (gs := gs)
  have := take_sum_le h k
  omega

theorem wsK_nil (vs : List VoD) (gs : List Bool) (bs : List Int) : ∀ k, wsK vs gs bs [] k = 0
  | 0 => rfl
  | k + 1 => by rw [wsK_succ, wsK_nil vs gs bs k]; simp [wsP]

theorem wsK_none (vs : List VoD) (gs : List Bool) (rs : List (List Int)) : ∀ k, wsK vs gs [] rs k = 0
  | 0 => rfl
  | k + 1 => by rw [wsK_succ, wsK_none vs gs rs k]; simp

/-- The reference's weight is the same. -/
theorem wei_ws {vs : List VoD} {gs : List Bool} {bs : List Int} {rs : List (List Int)} (hg : gs.length ≤ vs.length) (h : ∀ x ∈ bs, 0 ≤ x) (hs : bs.sum ≤ 4611686018427387904) : ∀ k, weiK vs (memS gs) bs rs k = wsK vs gs bs rs k
  | 0 => rfl
  | k + 1 => by
    have ih := wei_ws (rs := rs) hg h hs k
    have e : weiP vs (memS gs) rs k = wsP vs gs rs k := by
      unfold weiP wsP
      have : decide ((k : Int) ∈ memS gs) = guiV gs k := by rw [Bool.eq_iff_iff, decide_eq_true_iff]; exact memS_mem
      rw [this]
    have hb := wsK_top h rs (k + 1) (vs := vs) (gs := gs)
    rw [wsK_succ] at hb
    cases hp : wsP vs gs rs k
    · rw [weiK_no (by rw [e]; exact hp), wsK_succ, hp, ih]; simp
    · rw [weiK_yes (by rw [e]; exact hp), wsK_succ, hp, ih]
      rw [hp] at hb
      simp only [if_true] at hb ⊢
      exact u64_wrap (by omega) (by omega)

theorem weiN_ws {vs : List VoD} {gs : List Bool} {bs : List Int} {rs : List (List Int)} (hg : gs.length ≤ vs.length) (h : ∀ x ∈ bs, 0 ≤ x) (hs : bs.sum ≤ 4611686018427387904) (hl : bs.length = vs.length) : weiN vs (memS gs) bs rs = wsK vs gs bs rs vs.length := by
  unfold weiN
  rw [hl, Nat.min_self]
  exact wei_ws hg h hs _
/-! ### The registry -/

structure RgA where
  b : Nat
  b1 : Nat
  g1 : Nat
  b2 : Nat
  g2 : Nat
  b3 : Nat
  mb : Nat

/-- A registry: what may be written lies from lo on, and below hi. -/
structure RgI (w : World) (lo hi : Nat) (a : RgA) (n lim : Int) (vs : List VoD) (gs : List Bool) (E : List TeD) : Prop where
  blk : Blk w a.b #[.pointer (some ⟨a.b1, 0, none⟩), .pointer (some ⟨a.b2, 0, none⟩), .pointer (some ⟨a.b3, 0, none⟩)]
  vot : VtI w a.b1 a.g1 vs
  set : SetI w a.b2 a.g2 gs
  book : BookIs w a.b3 a.mb n lim E
  nv : (vs.length : Int) = n
  ng : (gs.length : Int) = n
  lo : lo ≤ a.g1 ∧ lo ≤ a.g2 ∧ lo ≤ a.mb
  hi : a.g1 < hi ∧ a.g2 < hi ∧ a.mb < hi ∧ hi ≤ w.heap.size
  ap : a.b ≠ a.g1 ∧ a.b ≠ a.g2 ∧ a.b1 ≠ a.g2 ∧ a.b2 ≠ a.g1 ∧ a.g1 ≠ a.g2 ∧ a.b3 ≠ a.g1 ∧ a.b3 ≠ a.g2 ∧ a.mb ≠ a.g1 ∧ a.mb ≠ a.g2
  off : ∀ e ∈ E, Off a.g1 e.v ∧ Off a.g2 e.v

theorem RgI.call {w w' : World} {lo hi : Nat} {a : RgA} {n lim : Int} {vs : List VoD} {gs : List Bool} {E : List TeD} (h : RgI w lo hi a n lim vs gs E) (hb : Below w.heap.size w w') : RgI w' lo hi a n lim vs gs E :=
  ⟨h.blk.call hb, h.vot.call hb, h.set.call hb, h.book.call hb, h.nv, h.ng, h.lo, ⟨h.hi.1, h.hi.2.1, h.hi.2.2.1, Nat.le_trans h.hi.2.2.2 hb.size⟩, h.ap, h.off⟩

theorem RgI.cells {w : World} {lo hi : Nat} {a : RgA} {n lim : Int} {vs : List VoD} {gs : List Bool} {E : List TeD} (h : RgI w lo hi a n lim vs gs E) :
    w.cell? ⟨a.b, 0, none⟩ = some (.pointer (some ⟨a.b1, 0, none⟩)) ∧ w.cell? ⟨a.b, 1, none⟩ = some (.pointer (some ⟨a.b2, 0, none⟩)) ∧ w.cell? ⟨a.b, 2, none⟩ = some (.pointer (some ⟨a.b3, 0, none⟩)) := ⟨h.blk.cell 0, h.blk.cell 1, h.blk.cell 2⟩

theorem RgI.bal {w : World} {lo hi : Nat} {a : RgA} {n lim : Int} {vs : List VoD} {gs : List Bool} {E : List TeD} (h : RgI w lo hi a n lim vs gs E) (c : CpD) : (∀ x ∈ tlst E c, 0 ≤ x) ∧ (tlst E c).sum ≤ 4611686018427387904 := by
  refine ⟨fun x hx => ?_, tlst_sum h.book c⟩
  have := (h.book.at c).2 x hx
  omega

/-- Votes were cast. -/
theorem RgI.cast {w w' : World} {lo hi : Nat} {a : RgA} {n lim : Int} {vs vs' : List VoD} {gs : List Bool} {E : List TeD} (h : RgI w lo hi a n lim vs gs E) (hv : VtI w' a.b1 a.g1 vs') (hl : vs'.length = vs.length) (hg : w.grownBy w' (some a.g1)) : RgI w' lo hi a n lim vs' gs E where
  blk := h.blk.grown hg (by simpa using h.ap.1)
  vot := hv
  set := h.set.grown hg (by simpa using h.ap.2.2.2.1) (by simpa using h.ap.2.2.2.2.1.symm)
  book := h.book.turned hg h.ap.2.2.2.2.2.1 h.ap.2.2.2.2.2.2.2.1 (fun e he => (h.off e he).1)
  nv := by rw [hl]; exact h.nv
  ng := h.ng
  lo := h.lo
  hi := ⟨h.hi.1, h.hi.2.1, h.hi.2.2.1, Nat.le_trans h.hi.2.2.2 hg.size⟩
  ap := h.ap
  off := h.off

/-- Some were punished. -/
theorem RgI.punish {w w' : World} {lo hi : Nat} {a : RgA} {n lim : Int} {vs : List VoD} {gs gs' : List Bool} {E : List TeD} (h : RgI w lo hi a n lim vs gs E) (hv : SetI w' a.b2 a.g2 gs') (hl : gs'.length = gs.length) (hg : w.grownBy w' (some a.g2)) : RgI w' lo hi a n lim vs gs' E where
  blk := h.blk.grown hg (by simpa using h.ap.2.1)
  vot := h.vot.grown hg (by simpa using h.ap.2.2.1) (by simpa using h.ap.2.2.2.2.1)
  set := hv
  book := h.book.turned hg h.ap.2.2.2.2.2.2.1 h.ap.2.2.2.2.2.2.2.2 (fun e he => (h.off e he).2)
  nv := h.nv
  ng := by rw [hl]; exact h.ng
  lo := h.lo
  hi := ⟨h.hi.1, h.hi.2.1, h.hi.2.2.1, Nat.le_trans h.hi.2.2.2 hg.size⟩
  ap := h.ap
  off := h.off

theorem blk_noMap {w : World} {b mb : Nat} {L : Ents} {cs : Array Value} (h : Blk w b cs) (hm : MapIs w mb L) (hne : 0 < cs.size) : b ≠ mb := fun e => by
  subst e
  have hc := h.cell 0
  rw [hm.noCell (z := ⟨b, 0, none⟩) rfl] at hc
  rw [Array.getElem?_eq_getElem hne] at hc
  cases hc

/-- A table was registered. -/
theorem RgI.register {w w' : World} {lo hi : Nat} {a : RgA} {n lim : Int} {vs : List VoD} {gs : List Bool} {E E' : List TeD} (h : RgI w lo hi a n lim vs gs E) (hB : BookIs w' a.b3 a.mb n lim E') (hg : w.grownBy w' (some a.mb)) (ho : ∀ e ∈ E', Off a.g1 e.v ∧ Off a.g2 e.v) : RgI w' lo hi a n lim vs gs E' where
  blk := h.blk.grown hg (by simpa using blk_noMap h.blk h.book.map (by simp))
  vot := h.vot.grown hg (by simpa using blk_noMap h.vot.blk h.book.map (by simp)) (by simpa using h.ap.2.2.2.2.2.2.2.1.symm)
  set := h.set.grown hg (by simpa using blk_noMap h.set.blk h.book.map (by simp)) (by simpa using h.ap.2.2.2.2.2.2.2.2.symm)
  book := hB
  nv := h.nv
  ng := h.ng
  lo := h.lo
  hi := ⟨h.hi.1, h.hi.2.1, h.hi.2.2.1, Nat.le_trans h.hi.2.2.2 hg.size⟩
  ap := h.ap
  off := ho
end

/-! RgC -/
section
set_option linter.unusedVariables false
set_option linter.unusedSimpArgs false
open Go.RowKit Go.Maps
open RM (WtI)

set_option maxRecDepth 100000

theorem wp_mapEntry {P : Program} {o : Oper} {a : Act} {w w' : World} {K : Act → World → Prop} {Q : Exit → Act → World → Prop} (t : TypeId) (m x : Operand) (ho : o.op = .mapEntry t m x) (mv xv v : Value) (hm : a.eval m = mv) (hx : a.eval x = xv)
    (hr : (Instr.mapEntry t mv xv).run P w = .ok v w') (h : K (a.put o.dst v) w') : o.wp P a w K Q := by
  unfold Oper.wp execOp
  simp only [ho, hm, hx, Sem.run_bind, Sem.run_pure, Result.andThen_ok, hr]
  exact h

theorem wp_entryStore {P : Program} {o : Oper} {a : Act} {w w' : World} {K : Act → World → Prop} {Q : Exit → Act → World → Prop} (t : TypeId) (m s x : Operand) (ho : o.op = .entryStore t m s x) (mv sv xv : Value) (hm : a.eval m = mv) (hs : a.eval s = sv) (hx : a.eval x = xv)
    (hr : (Instr.entryStore t mv sv xv).run P w = .ok () w') (h : K (a.put o.dst undef) w') : o.wp P a w K Q := by
  unfold Oper.wp execOp
  simp only [ho, hm, hs, hx, Sem.run_bind, Sem.run_pure, Result.andThen_ok, hr]
  exact h

/-- A look-up in a map is taken first. -/
theorem k_look {P : Program} {ops : Array Oper} {Q : Exit → Act → World → Prop} {S : World → Prop} {k : Nat} (i : Nat) (r : List Nat) {oi : Oper} {fuel : Nat} {listed : Array Bool} {a : Act} {w : World} (hi : ops[i]? = some oi) (hb : heldB .any ops listed k r i = true)
    (hs : Region.noSelect ops = true) (hf : Region.free .any ops listed i = true) (hr : (Region.ready .any ops listed).contains i = true)
    (hQ : ∀ v c a w, Q (.panic c) (a.put oi.dst v) w → Q (.panic c) a w) (hw : Region.wanted oi (yielded ops a.tmps) = true) (t : TypeId) (m x : Operand) (ho : oi.op = .lookup t m x false) (mv xv v : Value) (hm : a.eval m = mv) (hx : a.eval x = xv)
    (hc : ∀ u, S u → (Instr.lookup t mv xv false).run P u = .ok v u) (hS : S w)
    (h : wpAnyK P .any ops Q S k fuel (listed.setIfInBounds i true) (a.put oi.dst v) w) : wpAnyK P .any ops Q S k (fuel + 1) listed a w :=
  wpAnyK_take r hi hb hs hf hr (hQ _) (.inl ⟨hw, fun u hu' => by
    unfold execOp
    simp only [ho, hm, hx, hc u hu', Sem.run_bind, Sem.run_pure, Result.andThen_ok]⟩) hS h

theorem below_drew (w : World) : Below w.heap.size w w.drew := ⟨rfl, rfl, rfl, Nat.le_refl _, fun _ _ => rfl⟩

/-- The weights of the first k validators, by root. -/
def fWt (vs : List VoD) (gs : List Bool) (E : List TeD) (c : CpD) (k : Nat) (r : List Int) : Int := wsK vs gs (tlst E c) [r] k

/-- What holds at the loop's head: k validators have been seen. -/
structure WbL (w : World) (B : Nat) (c : CpD) (gs : List Bool) (E : List TeD) (lo hi : Nat) (ra : RgA) (n lim : Int) (vs : List VoD) (vv : Value) (k : Nat) (q : Nat) (u : World) : Prop where
  b : Below w.heap.size w u
  rg : RgI u lo hi ra n lim vs gs E
  x : Blk u w.heap.size c.cells.toArray
  m : WtI u (w.heap.size + 1) q (fWt vs gs E c k)
  o : OwnEl VoEl 78 34 u B vv vs
  B : w.heap.size + 1 < B ∧ B ≤ u.heap.size

theorem WbL.call {w u u' : World} {B : Nat} {c : CpD} {gs : List Bool} {E : List TeD} {lo hi : Nat} {ra : RgA} {n lim : Int} {vs : List VoD} {vv : Value} {k q : Nat} (h : WbL w B c gs E lo hi ra n lim vs vv k q u) (hb : Below u.heap.size u u') : WbL w B c gs E lo hi ra n lim vs vv k q u' :=
  ⟨h.b.trans (hb.mono h.b.size), h.rg.call hb, h.x.call hb, h.m.call hb, h.o.call voOK hb, h.B.1, Nat.le_trans h.B.2 hb.size⟩

theorem WbL.wide {w u : World} {B : Nat} {c : CpD} {gs : List Bool} {E : List TeD} {lo hi : Nat} {ra : RgA} {n lim : Int} {vs : List VoD} {vv : Value} {k q q' : Nat} (h : WbL w B c gs E lo hi ra n lim vs vv k q u) (hq : q ≤ q') : WbL w B c gs E lo hi ra n lim vs vv k q' u :=
  ⟨h.b, h.rg, h.x, h.m.wide hq, h.o, h.B⟩

/-- The map was turned. -/
theorem WbL.turned {w u u' : World} {B : Nat} {c : CpD} {gs : List Bool} {E : List TeD} {lo hi : Nat} {ra : RgA} {n lim : Int} {vs : List VoD} {vv : Value} {k q k' q' : Nat} (h : WbL w B c gs E lo hi ra n lim vs vv k q u) (hR : RgI w lo hi ra n lim vs gs E) (hg : u.grownBy u' (some (w.heap.size + 1)))
    (hm : WtI u' (w.heap.size + 1) q' (fWt vs gs E c k')) : WbL w B c gs E lo hi ra n lim vs vv k' q' u' where
  b := h.b.grown hg h.b.size (fun n e => by cases e; omega)
  rg := hR.call (h.b.grown hg h.b.size (fun n e => by cases e; omega))
  x := h.x.grown hg (by simp)
  m := hm
  o := h.o.grown voOK hg (fun j hn e => by cases e; have := (h.o.lt _ hn).1; have := h.B.1; omega) (fun _ _ h => h)
  B := ⟨h.B.1, Nat.le_trans h.B.2 hg.size⟩

/-- What holds in the drawn region: the vote lies in block vb besides. -/
structure WbK (w : World) (B vb : Nat) (c : CpD) (L : List Value) (gs : List Bool) (E : List TeD) (lo hi : Nat) (ra : RgA) (n lim : Int) (vs : List VoD) (vv : Value) (k : Nat) (u : World) : Prop where
  l : WbL w B c gs E lo hi ra n lim vs vv k (k + 1) u
  v : Blk u vb L.toArray
  ne : w.heap.size + 1 < vb

theorem WbK.rt {w u : World} {B vb : Nat} {c : CpD} {L : List Value} {gs : List Bool} {E : List TeD} {lo hi : Nat} {ra : RgA} {n lim : Int} {vs : List VoD} {vv : Value} {k : Nat} {x y : Value} {R : List Value} (h : WbK w B vb c L gs E lo hi ra n lim vs vv k u) (hL : L = x :: y :: R) : u.rangeAt vb 2 R := fun j v hj => by
  rw [h.v.cell, hL]
  rw [List.getElem?_toArray, show 2 + j = j + 2 from by omega]
  simpa using hj

theorem WbK.look {w u : World} {B vb : Nat} {c : CpD} {L : List Value} {gs : List Bool} {E : List TeD} {lo hi : Nat} {ra : RgA} {n lim : Int} {vs : List VoD} {vv : Value} {k : Nat} {r : List Int} {R : List Value} {F0 : Int} (h : WbK w B vb c L gs E lo hi ra n lim vs vv k u) (hr : IsBytes 32 r) (hR : bytesL r = R) (hF : fWt vs gs E c k r = F0) :
    (Instr.lookup 95 (.map (some (w.heap.size + 1))) (.agg R.toArray) false).run Try.prog u = .ok (.int .u64 F0) u := by
  rw [← hR, ← hF]; exact h.l.m.look hr

set_option maxHeartbeats 8000000 in
theorem wbr_any (lo hi : Nat) (ra : RgA) (n lim : Int) (vs : List VoD) (gs : List Bool) (E : List TeD) (c : CpD) (w : World) (hR : RgI w lo hi ra n lim vs gs E) (hc : c.ok) :
    Calls Try.prog 34 #[.pointer (some ⟨ra.b, 0, none⟩), cpX c] w fun e w' => ∃ mb, e = .returned (.map (some mb)) ∧ w.heap.size ≤ mb ∧ WtI w' mb vs.length (fun r => wsK vs gs (tlst E c) [r] vs.length) ∧ Below w.heap.size w w' := by
  have HRG := Lib.hid hR
  have HCC := Lib.hid hc
  have HVL : Hid (vs.length ≤ 1024) := hR.vot.len
  obtain ⟨m, hm⟩ : ∃ m, Hid (vs.length = m) := ⟨_, Lib.hid rfl⟩
  have hm1 : m ≤ 1024 := by rw [← hm.out]; exact HVL.out
  rw [hm.out]
  have hblt := hR.blk.lt
  have hmm := @run_makeMap Try.prog
  have hiC : (Try.prog.info? 34).map (·.size) = some c.cells.length := by rw [CpD.len hc]; kernel_rfl
  obtain ⟨X, HX⟩ : ∃ X, Hid (c.cells.toArray = X) := ⟨_, Lib.hid rfl⟩
  unfold cpX
  rw [HX.out]
  have HB2 : Hid (Below w.heap.size w ((w.alloc (.cells X 34)).alloc (.map #[] 0))) := ((Below.refl w.heap.size w).alloc (Nat.le_refl _) _).alloc (by simp) _
  have HX2 : Hid (Blk ((w.alloc (.cells X 34)).alloc (.map #[] 0)) w.heap.size c.cells.toArray) := by rw [HX.out]; exact (Blk.new rfl).alloc _
  have HM2 : Hid (WtI ((w.alloc (.cells X 34)).alloc (.map #[] 0)) (w.heap.size + 1) 0 (fun _ => 0)) := by
    have h := WtI.made (w.alloc (.cells X 34))
    have e : (w.alloc (.cells X 34)).heap.size = w.heap.size + 1 := by simp
    rw [e] at h
    exact h
  have HS2 : Hid (((w.alloc (.cells X 34)).alloc (.map #[] 0)).heap.size = w.heap.size + 2) := by show _ = _; simp
  have c0 : w.cell? ⟨ra.b, 0, none⟩ = some (.pointer (some ⟨ra.b1, 0, none⟩)) := hR.cells.1
  clear hR hc
  go_enter Try.func34, Try.ntmps34
  go_wp2_with (first
    | (go_at_call 39; refine (votes_any ra.b1 ra.g1 vs _ (HRG.out.vot.call HB2.out)).mono ?_; rintro e w3 ⟨v3, rfl, ho3, hb3⟩; obtain ⟨a3, c3, rfl, hm3, _, _⟩ := ho3.shape; rw [hm.out] at hm3 ho3 ⊢; have HL0 : Hid (WbL w (w.heap.size + 2) c gs E lo hi ra n lim vs (.slice a3 m c3) 0 0 w3) := ⟨HB2.out.trans (hb3.mono HB2.out.size), (HRG.out.call HB2.out).call hb3, HX2.out.call hb3, (HM2.out.call hb3).congr (fun r _ => rfl), by rw [HS2.out] at ho3; exact ho3, by omega, by have := hb3.size; rw [HS2.out] at this; exact this⟩; clear ho3 hb3))
  unfold maxLen at hm3
  go_loopw [15] (fun i wr => ∃ k : Nat, k ≤ m ∧ i = .int .i64 k ∧ WbL w (w.heap.size + 2) c gs E lo hi ra n lim vs (.slice a3 m c3) k k wr) (fun i _ => m - (intOf i).toNat)
  case atStart => exact ⟨0, Nat.zero_le _, rfl, HL0.out⟩
  case round =>
    obtain ⟨k, hk, rfl, hL⟩ := hrel
    have HL := Lib.hid hL
    clear hL HL0 c0
    by_cases hlt : k < m
    case neg =>
      obtain rfl : k = m := by omega
      go_wp2_with fail
      go_ret
      exact ⟨_, rfl, by omega, HL.out.m, HL.out.b⟩
    have hlt' : (k : Int) < m := by omega
    have hkv : k < vs.length := by rw [hm.out]; exact hlt
    obtain ⟨vb0, off, rfl, _hlv, hbb, hra, hok⟩ := VotesV.elem (HL.out.o.elV voOK) hkv
    have HRE := Lib.hid hra
    obtain ⟨d, hd⟩ : ∃ d, Hid (vs.getD k zeV = d) := ⟨_, Lib.hid rfl⟩
    rw [hd.out] at HRE hok
    obtain ⟨dh, dn, dr⟩ := d
    have HOK := Lib.hid hok
    obtain ⟨L, hLL⟩ : ∃ L, Hid ((VoD.mk dh dn dr).cells = L) := ⟨_, Lib.hid rfl⟩
    have hsL : L.length = 34 := by rw [← hLL.out]; exact VoD.len hok
    have HOL : Hid (∀ v ∈ L.toArray, v.oneCell' = true) := by show ∀ v ∈ L.toArray, _; rw [← hLL.out]; exact fun v hv => VoD.one _ v (by simpa using hv)
    rw [hLL.out] at HRE
    have hiL : (Try.prog.info? 78).map (·.size) = some L.length := by rw [hsL]; kernel_rfl
    have hiL' : (Try.prog.info? 78).map (·.size) = some L.toArray.size := by rw [List.size_toArray]; exact hiL
    obtain ⟨Z, hZ⟩ : ∃ Z, zeV.cells.toArray = Z := ⟨_, rfl⟩
    have hszZ : Z.size = 34 := by rw [← hZ]; rfl
    obtain ⟨hz34, hst⟩ := zero_array (P := Try.prog) (t := 78) (n := 34) Z (by rw [← hZ]; kernel_rfl) hszZ (by rw [← hZ]; kernel_rfl)
    have HCH : Hid (L[0]? = some (.bool dh)) := by show _ = _; rw [← hLL.out]; rfl
    have HHAS : Hid ((vs.getD k zeV).has = dh) := by show _ = _; rw [hd.out]
    obtain ⟨gu, hgu⟩ : ∃ gu, Hid (guiV gs k = gu) := ⟨_, Lib.hid rfl⟩
    have HGS := Lib.hid (And.intro hk hm1)
    clear hra hok hst hZ hkv _hlv
    cases dh
    case false =>
      go_wp2_with (first
        | ((with_reducible refine at_load (.tmp 18) ?_); refine wpList_load_at 78 (.tmp 18) rfl vb0 (off + k * 34) (by simp [Act.eval, Act.put]) L HRE.out _ Try.underlying78 rfl hiL rfl ?_)
        | ((with_reducible refine at_store (.tmp 7) ?_); refine wpList_store_blk rfl 78 (.tmp 7) _ rfl wr.heap.size L.toArray rfl rfl Z (Blk.new rfl) (by rw [hszZ, List.size_toArray, hsL]) hiL' HOL.out ?_; intro w4 U4 B4; have hb4 := U4.below ((Below.refl wr.heap.size wr).alloc (Nat.le_refl _) (.cells Z 78)) (Nat.le_refl _); have HL4 := Lib.hid (HL.out.call hb4); have HC4 : Hid (w4.cell? ⟨wr.heap.size, 0, none⟩ = some (.bool false)) := (by show _ = _; rw [B4.cell, List.getElem?_toArray]; exact HCH.out); clear hb4 U4 B4)
        | ((with_reducible refine at_load (.tmp 20) ?_); refine wpList_load_1 4 (.tmp 20) rfl wr.heap.size 0 (.bool false) HC4.out rfl _ Try.underlying4 rfl rfl ?_))
      go_roundw
      case rel => exact ⟨k + 1, by omega, by go_num, HL4.out.b, HL4.out.rg, HL4.out.x, (HL4.out.m.wide (Nat.le_succ k)).congr (fun r _ => (wsK_out (.inl HHAS.out) r).symm), HL4.out.o, HL4.out.B⟩
      case measure => simp [intOf]; omega
    case true =>
      cases gu
      case true =>
        go_wp2_with (first
          | ((with_reducible refine at_load (.tmp 18) ?_); refine wpList_load_at 78 (.tmp 18) rfl vb0 (off + k * 34) (by simp [Act.eval, Act.put]) L HRE.out _ Try.underlying78 rfl hiL rfl ?_)
          | ((with_reducible refine at_store (.tmp 7) ?_); refine wpList_store_blk rfl 78 (.tmp 7) _ rfl wr.heap.size L.toArray rfl rfl Z (Blk.new rfl) (by rw [hszZ, List.size_toArray, hsL]) hiL' HOL.out ?_; intro w4 U4 B4; have hb4 := U4.below ((Below.refl wr.heap.size wr).alloc (Nat.le_refl _) (.cells Z 78)) (Nat.le_refl _); have HL4 := Lib.hid (HL.out.call hb4); have HV4 := Lib.hid B4; have HC4 : Hid (w4.cell? ⟨wr.heap.size, 0, none⟩ = some (.bool true)) := (by show _ = _; rw [B4.cell, List.getElem?_toArray]; exact HCH.out); have c1 : w4.cell? ⟨ra.b, 1, none⟩ = some (.pointer (some ⟨ra.b2, 0, none⟩)) := HL4.out.rg.cells.2.1; clear hb4 U4 B4)
          | ((with_reducible refine at_load (.tmp 20) ?_); refine wpList_load_1 4 (.tmp 20) rfl wr.heap.size 0 (.bool true) HC4.out rfl _ Try.underlying4 rfl rfl ?_)
          | (go_at_call 48; refine (guilty_any ra.b2 ra.g2 gs k w4 HL4.out.rg.set (by have := HGS.out; omega)).mono ?_; rintro e w5 ⟨rfl, h5⟩; rw [hgu.out, h5]; clear h5))
        go_roundw
        case rel => exact ⟨k + 1, by omega, by go_num, HL4.out.b, HL4.out.rg, HL4.out.x, (HL4.out.m.wide (Nat.le_succ k)).congr (fun r _ => (wsK_out (.inr hgu.out) r).symm), HL4.out.o, HL4.out.B⟩
        case measure => simp [intOf]; omega
      go_wp2_with (first
        | ((with_reducible refine at_load (.tmp 18) ?_); refine wpList_load_at 78 (.tmp 18) rfl vb0 (off + k * 34) (by simp [Act.eval, Act.put]) L HRE.out _ Try.underlying78 rfl hiL rfl ?_)
        | ((with_reducible refine at_store (.tmp 7) ?_); refine wpList_store_blk rfl 78 (.tmp 7) _ rfl wr.heap.size L.toArray rfl rfl Z (Blk.new rfl) (by rw [hszZ, List.size_toArray, hsL]) hiL' HOL.out ?_; intro w4 U4 B4; have hb4 := U4.below ((Below.refl wr.heap.size wr).alloc (Nat.le_refl _) (.cells Z 78)) (Nat.le_refl _); have HL4 := Lib.hid (HL.out.call hb4); have HV4 := Lib.hid B4; have HC4 : Hid (w4.cell? ⟨wr.heap.size, 0, none⟩ = some (.bool true)) := (by show _ = _; rw [B4.cell, List.getElem?_toArray]; exact HCH.out); have c1 : w4.cell? ⟨ra.b, 1, none⟩ = some (.pointer (some ⟨ra.b2, 0, none⟩)) := HL4.out.rg.cells.2.1; clear hb4 U4 B4)
        | ((with_reducible refine at_load (.tmp 20) ?_); refine wpList_load_1 4 (.tmp 20) rfl wr.heap.size 0 (.bool true) HC4.out rfl _ Try.underlying4 rfl rfl ?_)
        | (go_at_call 48; refine (guilty_any ra.b2 ra.g2 gs k w4 HL4.out.rg.set (by have := HGS.out; omega)).mono ?_; rintro e w5 ⟨rfl, h5⟩; rw [hgu.out, h5]; clear h5))
      obtain ⟨R, HRX⟩ : ∃ R, Hid (bytesL dr = R) := ⟨_, Lib.hid rfl⟩
      have HLR : Hid (L = .bool true :: .int .u64 dn :: R) := by show _ = _; rw [← hLL.out, ← HRX.out]; rfl
      have HRR : Hid (IsBytes 32 dr) := HOK.out.2.2
      have hiR : (Try.prog.info? 28).map (·.size) = some R.length := by rw [← HRX.out, bytesL_len HRR.out]; kernel_rfl
      obtain ⟨F0, HF0⟩ : ∃ F0, Hid (fWt vs gs E c k dr = F0) := ⟨_, Lib.hid rfl⟩
      obtain ⟨B0, HBV⟩ : ∃ B0, Hid (balV E c k = B0) := ⟨_, Lib.hid rfl⟩
      have HDR : Hid ((vs.getD k zeV).r = dr) := by show _ = _; rw [hd.out]
      have HIN : Hid (∀ s, fWt vs gs E c (k + 1) s = if s = dr then F0 + B0 else fWt vs gs E c k s) := fun s => by
        have h := wsK_in (bs := tlst E c) HHAS.out hgu.out s
        rw [HDR.out] at h
        unfold fWt at HF0 ⊢
        rw [h, HF0.out, ← balV_nat, HBV.out]
      have hwr : IntKind.u64.wrap (F0 + B0) = F0 + B0 := by
        have hb := HRG.out.bal c
        have h1 := wsK_top hb.1 [dr] (k + 1) (vs := vs) (gs := gs)
        have h2 := HIN.out dr
        rw [if_pos rfl] at h2
        unfold fWt at h2
        rw [h2] at h1
        exact u64_wrap h1.1 (by omega)
      obtain ⟨x4, hx4⟩ : ∃ x, w4.drew = x := ⟨_, rfl⟩
      have hbd : Below w4.heap.size w4 x4 := by rw [← hx4]; exact below_drew w4
      have SD : Hid (WbK w (w.heap.size + 2) wr.heap.size c L gs E lo hi ra n lim vs (.slice (some ⟨vb0, off, none⟩) m c3) k x4) := ⟨(HL4.out.call hbd).wide (Nat.le_succ k), HV4.out.call hbd, by have := HL.out.B; omega⟩
      have HM4 : Hid (WtI x4 (w.heap.size + 1) k (fWt vs gs E c k)) := HL4.out.m.call hbd
      clear HL4 HV4 HC4 c1
      refine wp_region_k (S := fun u' => WbK w (w.heap.size + 2) wr.heap.size c L gs E lo hi ra n lim vs (.slice (some ⟨vb0, off, none⟩) m c3) k u') (k := 14) (by kernel_rfl) ?_
      rw [hx4]
      clear hx4 hbd
      (try simp only [Act.put, List.setIfInBounds_toArray, List.set_cons_zero, List.set_cons_succ])
      refine wpAnyK_take (i := 0) (oi := ⟨some 31, _, _, _, _, _⟩) (v := .map (some (w.heap.size + 1))) [0] rfl (by kernel_rfl) (by kernel_rfl) (by kernel_rfl) (by kernel_rfl) (fun _ _ _ h => h) (Or.inl ⟨by rfl, fun wz hz => ?_⟩) SD.out ?_
      · clear hz; go_simp; first | done | with_reducible rfl | rfl
      (try simp only [Act.put, List.setIfInBounds_toArray, List.set_cons_zero, List.set_cons_succ])
      refine wpAnyK_take (i := 1) (oi := ⟨some 32, _, _, _, _, _⟩) (v := .pointer (some ⟨wr.heap.size, 2, none⟩)) [1] rfl (by kernel_rfl) (by kernel_rfl) (by kernel_rfl) (by kernel_rfl) (fun _ _ _ h => h) (Or.inl ⟨by rfl, fun wz hz => ?_⟩) SD.out ?_
      · clear hz; go_simp; first | done | with_reducible rfl | rfl
      (try simp only [Act.put, List.setIfInBounds_toArray, List.set_cons_zero, List.set_cons_succ])
      refine k_load (oi := ⟨some 33, _, _, _, _, _⟩) 2 [2] rfl (by kernel_rfl) (by kernel_rfl) (by kernel_rfl) (by kernel_rfl) (fun _ _ _ _ h => h) rfl 28 (.tmp 32) rfl wr.heap.size 2 rfl R _ (fun u' hu => hu.rt HLR.out) Try.underlying28 rfl (hiR) SD.out ?_
      (try simp only [Act.put, List.setIfInBounds_toArray, List.set_cons_zero, List.set_cons_succ])
      refine k_look (oi := ⟨some 34, _, _, _, _, _⟩) 3 [3] rfl (by kernel_rfl) (by kernel_rfl) (by kernel_rfl) (by kernel_rfl) (fun _ _ _ _ h => h) rfl 95 (.tmp 31) (.tmp 33) rfl _ _ (.int .u64 F0) rfl rfl (fun u' hu => hu.look HRR.out HRX.out HF0.out) SD.out ?_
      (try simp only [Act.put, List.setIfInBounds_toArray, List.set_cons_zero, List.set_cons_succ])
      refine wpAnyK_take (i := 4) (oi := ⟨some 35, _, _, _, _, _⟩) (v := .pointer (some ⟨ra.b, 0, none⟩)) [4] rfl (by kernel_rfl) (by kernel_rfl) (by kernel_rfl) (by kernel_rfl) (fun _ _ _ h => h) (Or.inl ⟨by rfl, fun wz hz => ?_⟩) SD.out ?_
      · clear hz; go_simp; first | done | with_reducible rfl | rfl
      (try simp only [Act.put, List.setIfInBounds_toArray, List.set_cons_zero, List.set_cons_succ])
      refine wpAnyK_take (i := 5) (oi := ⟨some 36, _, _, _, _, _⟩) (v := .pointer (some ⟨ra.b, 0, none⟩)) [5] rfl (by kernel_rfl) (by kernel_rfl) (by kernel_rfl) (by kernel_rfl) (fun _ _ _ h => h) (Or.inl ⟨by rfl, fun wz hz => ?_⟩) SD.out ?_
      · clear hz; go_simp; first | done | with_reducible rfl | rfl
      (try simp only [Act.put, List.setIfInBounds_toArray, List.set_cons_zero, List.set_cons_succ])
      refine wpAnyK_take (i := 6) (oi := ⟨some 37, _, _, _, _, _⟩) (v := .pointer (some ⟨ra.b, 2, none⟩)) [6] rfl (by kernel_rfl) (by kernel_rfl) (by kernel_rfl) (by kernel_rfl) (fun _ _ _ h => h) (Or.inl ⟨by rfl, fun wz hz => ?_⟩) SD.out ?_
      · clear hz; go_simp; first | done | with_reducible rfl | rfl
      (try simp only [Act.put, List.setIfInBounds_toArray, List.set_cons_zero, List.set_cons_succ])
      refine k_load1 (oi := ⟨some 38, _, _, _, _, _⟩) 7 [7] rfl (by kernel_rfl) (by kernel_rfl) (by kernel_rfl) (by kernel_rfl) (fun _ _ _ _ h => h) rfl 59 (.tmp 37) rfl ra.b 2 rfl (.pointer (some ⟨ra.b3, 0, none⟩)) _ (fun u' hu => hu.l.rg.cells.2.2) Try.underlying59 rfl SD.out ?_
      (try simp only [Act.put, List.setIfInBounds_toArray, List.set_cons_zero, List.set_cons_succ])
      refine k_load (oi := ⟨some 39, _, _, _, _, _⟩) 8 [8] rfl (by kernel_rfl) (by kernel_rfl) (by kernel_rfl) (by kernel_rfl) (fun _ _ _ _ h => h) rfl 34 (.tmp 3) rfl w.heap.size 0 rfl c.cells _ (fun u' hu => hu.l.x.range) Try.underlying34 rfl (hiC) SD.out ?_
      (try simp only [Act.put, List.setIfInBounds_toArray, List.set_cons_zero, List.set_cons_succ])
      refine wpAnyK_take (i := 9) (oi := ⟨some 40, _, _, _, _, _⟩) (v := .int .i64 k) [9] rfl (by kernel_rfl) (by kernel_rfl) (by kernel_rfl) (by kernel_rfl) (fun _ _ _ h => h) (Or.inl ⟨by rfl, fun wz hz => ?_⟩) SD.out ?_
      · clear hz; go_simp; first | done | with_reducible rfl | rfl
      (try simp only [Act.put, List.setIfInBounds_toArray, List.set_cons_zero, List.set_cons_succ])
      refine wpAnyK_one (o := ⟨some 41, _, _, _, _, _⟩) (i := 10) (by kernel_rfl) rfl (fun K hK => ?_)
      rw [if_pos (by rfl)]
      go_simp
      refine (bal_any ra.b3 ra.mb n lim E c k _ SD.out.l.rg.book HCC.out).mono ?_
      rintro e w6 ⟨rfl, hb6⟩
      have SD6 : Hid (WbK w (w.heap.size + 2) wr.heap.size c L gs E lo hi ra n lim vs (.slice (some ⟨vb0, off, none⟩) m c3) k w6) := ⟨SD.out.l.call hb6, SD.out.v.call hb6, SD.out.ne⟩
      have HM6 := Lib.hid (HM4.out.call hb6)
      refine hK.out _ _ SD6.out ?_
      clear hK K hb6 SD HM4
      have SD := SD6
      clear SD6
      rw [HBV.out]
      (try simp only [Act.put, List.setIfInBounds_toArray, List.set_cons_zero, List.set_cons_succ])
      refine wpAnyK_take (i := 11) (oi := ⟨some 42, _, _, _, _, _⟩) (v := .int .u64 (F0 + B0)) [11] rfl (by kernel_rfl) (by kernel_rfl) (by kernel_rfl) (by kernel_rfl) (fun _ _ _ h => h) (Or.inl ⟨by rfl, fun wz hz => ?_⟩) SD.out ?_
      · clear hz; go_simp; first | done | with_reducible rfl | rfl
      (try simp only [Act.put, List.setIfInBounds_toArray, List.set_cons_zero, List.set_cons_succ])
      obtain ⟨v0, st, w7, hme, hm7, hg7, hst⟩ := HM6.out.entry HRR.out (by unfold maxLen; omega)
      have hme' : (Instr.mapEntry 95 (.map (some (w.heap.size + 1))) (.agg R.toArray)).run Try.prog w6 = .ok (.tuple #[v0, goInt st]) w7 := by rw [← HRX.out]; exact hme
      have SD7 : Hid (WbK w (w.heap.size + 2) wr.heap.size c L gs E lo hi ra n lim vs (.slice (some ⟨vb0, off, none⟩) m c3) k w7) := ⟨SD.out.l.turned HRG.out hg7 hm7, SD.out.v.grown hg7 (by have := SD.out.ne; simp; omega), SD.out.ne⟩
      refine wpAnyK_one (o := ⟨some 43, _, _, _, _, _⟩) (i := 12) (by kernel_rfl) rfl (fun K hK => ?_)
      rw [if_pos (by rfl)]
      refine wp_mapEntry 95 (.tmp 31) (.tmp 33) rfl _ _ _ rfl rfl hme' ?_
      refine hK.out _ _ SD7.out ?_
      clear hK K hme hme' SD
      have SD := SD7
      clear SD7
      (try simp only [Act.put, List.setIfInBounds_toArray, List.set_cons_zero, List.set_cons_succ])
      refine wpAnyK_take (i := 13) (oi := ⟨some 44, _, _, _, _, _⟩) (v := goInt st) [13] rfl (by kernel_rfl) (by kernel_rfl) (by kernel_rfl) (by kernel_rfl) (fun _ _ _ h => h) (Or.inl ⟨by rfl, fun wz hz => ?_⟩) SD.out ?_
      · clear hz; go_simp; first | done | with_reducible rfl | rfl
      (try simp only [Act.put, List.setIfInBounds_toArray, List.set_cons_zero, List.set_cons_succ])
      obtain ⟨w8, hes, hm8, hg8⟩ := hst w7 (F0 + B0) rfl
      refine wpAnyK_last (o := ⟨none, _, _, _, _, _⟩) (i := 14) (by kernel_rfl) rfl (by kernel_rfl) (fun K hK => ?_)
      rw [if_pos (by rfl)]
      refine wp_entryStore 95 (.tmp 31) (.tmp 44) (.tmp 42) rfl _ _ _ rfl rfl rfl hes ?_
      refine hK.out _ _ ?_
      clear hK K hes hst hm7 hg7
      (try simp only [Act.put, List.setIfInBounds_toArray, List.set_cons_zero, List.set_cons_succ])
      refine wpAnyK_done (by kernel_rfl) ?_ _
      have H8 := Lib.hid (SD.out.l.turned HRG.out hg8 (hm8.congr (fun s _ => (HIN.out s).symm)))
      clear hm8 hg8 SD
      go_wp2_with fail
      go_roundw
      case rel => exact ⟨k + 1, by omega, by go_num, H8.out⟩
      case measure => simp [intOf]; omega
end

/-! RgD -/
section
set_option linter.unusedVariables false
set_option linter.unusedSimpArgs false
open Go.RowKit Go.Maps
open RM (WtI)

set_option maxRecDepth 100000

theorem at_wlook {P : Program} {ops : Array Oper} {Q : Exit → Act → World → Prop} {dst : Option Tmp} {t ty' : TypeId} (m x : Operand) {ok : Bool} {pos : String} {aft : Array Edge} {g : Option (Nat × Bool)} {rest : List Oper} {a : Act} {w : World}
    (h : wpList P ops Q (⟨dst, .lookup t m x ok, ty', pos, aft, g⟩ :: rest) a w) : wpList P ops Q (⟨dst, .lookup t m x ok, ty', pos, aft, g⟩ :: rest) a w := h

theorem wpList_look {P : Program} {ops : Array Oper} {rest : List Oper} {o : Oper} {a : Act} {w : World} {Q : Exit → Act → World → Prop} (hg : o.guard = none) (t : TypeId) (m x : Operand) (ok : Bool) (ho : o.op = .lookup t m x ok) (mv xv v : Value) (hm : a.eval m = mv) (hx : a.eval x = xv)
    (hr : (Instr.lookup t mv xv ok).run P w = .ok v w) (h : wpList P ops Q rest (a.put o.dst v) w) : wpList P ops Q (o :: rest) a w :=
  wpList_yields hg v (by
    unfold execOp
    simp only [ho, hm, hx, Sem.run_bind, hr, Result.andThen_ok, Sem.run_pure]) h

theorem at_wdel {P : Program} {ops : Array Oper} {Q : Exit → Act → World → Prop} {dst : Option Tmp} {ty' : TypeId} (m x : Operand) {tt : Array TypeId} {pos : String} {aft : Array Edge} {g : Option (Nat × Bool)} {rest : List Oper} {a : Act} {w : World}
    (h : wpList P ops Q (⟨dst, .call { callee := .builtin .delete, args := #[m, x], argTypes := tt }, ty', pos, aft, g⟩ :: rest) a w) : wpList P ops Q (⟨dst, .call { callee := .builtin .delete, args := #[m, x], argTypes := tt }, ty', pos, aft, g⟩ :: rest) a w := h

theorem wpList_del {P : Program} {ops : Array Oper} {rest : List Oper} {o : Oper} {a : Act} {w w' : World} {Q : Exit → Act → World → Prop} (hg : o.guard = none) (m x : Operand) (t k : TypeId) (ho : o.op = .call { callee := .builtin .delete, args := #[m, x], argTypes := #[t, k] }) (mv xv : Value) (hm : a.eval m = mv) (hx : a.eval x = xv)
    (hr : (Builtin.delete_ #[t, k] o.type #[mv, xv]).run P w = .ok (.tuple #[]) w') (h : wpList P ops Q rest (a.put o.dst (.tuple #[])) w') : wpList P ops Q (o :: rest) a w := by
  refine wpList_plain hg fun K' hK' => ?_
  unfold Oper.wp
  simp only [execOp, ho, resolve, invoke, builtin, List.map_toArray, List.map_cons, List.map_nil, hm, hx, Sem.run_bind, Sem.run_pure, hr, Result.andThen_ok]
  exact hK' _ _ h

/-- Behind j roots: what has been added, and what is left. -/
structure WgS (w : World) (mb : Nat) (vs : List VoD) (gs : List Bool) (bs : List Int) (rs : List (List Int)) (j : Nat) (u : World) : Prop where
  b : Below w.heap.size w u
  m : WtI u mb vs.length (fun r => if r ∈ rs.take j then 0 else wsK vs gs bs [r] vs.length)
  lo : w.heap.size ≤ mb

theorem WgS.call {w u u' : World} {mb : Nat} {vs : List VoD} {gs : List Bool} {bs : List Int} {rs : List (List Int)} {j : Nat} (h : WgS w mb vs gs bs rs j u) (hb : Below u.heap.size u u') : WgS w mb vs gs bs rs j u' := ⟨h.b.trans (hb.mono h.b.size), h.m.call hb, h.lo⟩

theorem take_more {rs : List (List Int)} {j : Nat} (h : j < rs.length) : rs.take (j + 1) = rs.take j ++ [rs[j]] := by
  rw [List.take_add_one]; simp [List.getElem?_eq_getElem h]

set_option maxHeartbeats 8000000 in
theorem wgt_any (lo hi : Nat) (ra : RgA) (n lim : Int) (vs : List VoD) (gs : List Bool) (E : List TeD) (c : CpD) (rv : Value) (rs : List (List Int)) (w : World) (hR : RgI w lo hi ra n lim vs gs E) (hc : c.ok) (hV : RootsV w rv rs) :
    Calls Try.prog 19 #[.pointer (some ⟨ra.b, 0, none⟩), cpX c, rv] w fun e w' => e = .returned (.int .u64 (wsK vs gs (tlst E c) rs vs.length)) ∧ Below w.heap.size w w' := by
  obtain ⟨a, cap, rfl, hmx⟩ := hV.shape
  unfold maxLen at hmx
  have HN := Lib.hid hV
  have HWB := Lib.hid (fun u hu => wbr_any lo hi ra n lim vs gs E c u hu hc)
  have HRG := Lib.hid hR
  obtain ⟨bs, hbs⟩ : ∃ bs, Hid (tlst E c = bs) := ⟨_, Lib.hid rfl⟩
  have HBD : Hid (∀ rs k, 0 ≤ wsK vs gs bs rs k ∧ wsK vs gs bs rs k ≤ 4611686018427387904) := fun rs k => by
    have hb := hR.bal c
    rw [hbs.out] at hb
    have := wsK_top hb.1 rs k (vs := vs) (gs := gs)
    have := hb.2
    omega
  rw [hbs.out] at HWB ⊢
  obtain ⟨m, hm⟩ : ∃ m, Hid (rs.length = m) := ⟨_, Lib.hid rfl⟩
  have HTOT : Hid (wsK vs gs bs (rs.take m) vs.length = wsK vs gs bs rs vs.length) := by show _ = _; rw [← hm.out, List.take_length]
  rw [hm.out] at hmx HN ⊢
  have hiC : (Try.prog.info? 34).map (·.size) = some c.cells.toArray.size := infoCp hc
  unfold cpX at HWB ⊢
  obtain ⟨X, HX⟩ : ∃ X, Hid (c.cells.toArray = X) := ⟨_, Lib.hid rfl⟩
  rw [HX.out] at HWB hiC ⊢
  have HBA := Lib.hid ((Below.refl w.heap.size w).alloc (Nat.le_refl _) (.cells X 34))
  have HBX : Hid (Blk (w.alloc (.cells X 34)) w.heap.size X) := Blk.new rfl
  obtain ⟨ZR, hZR⟩ : ∃ Z, (bytesL zeroR).toArray = Z := ⟨_, rfl⟩
  have hszR : ZR.size = 32 := by rw [← hZR]; rfl
  obtain ⟨hz32, hst⟩ := zero_array (P := Try.prog) (t := 28) (n := 32) ZR (by rw [← hZR]; kernel_rfl) hszR (by rw [← hZR]; kernel_rfl)
  clear hst hZR hV hR hc
  go_enter Try.func19, Try.ntmps19
  go_wp2_with (first
    | ((with_reducible refine at_load (.tmp 4) ?_); refine wpList_load_blk rfl 34 (.tmp 4) rfl w.heap.size rfl X _ HBX.out Try.underlying34 rfl hiC ?_)
    | (go_at_call 34; refine (HWB.out _ (HRG.out.call HBA.out)).mono ?_; rintro e w1 ⟨mb, rfl, hlo, hm1, hb1⟩; have HS0 : Hid (WgS w mb vs gs bs rs 0 w1) := ⟨HBA.out.trans (hb1.mono HBA.out.size), hm1.congr (fun r _ => by simp), by have := HBA.out.size; omega⟩; clear hlo hm1 hb1))
  go_loopw [8, 16] (fun s i wr => ∃ j : Nat, j ≤ m ∧ i = .int .i64 j ∧ s = .int .u64 (wsK vs gs bs (rs.take j) vs.length) ∧ WgS w mb vs gs bs rs j wr) (fun _ i _ => m - (intOf i).toNat)
  case atStart => exact ⟨0, Nat.zero_le _, rfl, by rw [List.take_zero, wsK_nil], HS0.out⟩
  case round =>
    obtain ⟨j, hj, rfl, rfl, hS⟩ := hrel
    have HS := Lib.hid hS
    clear hS HS0
    by_cases hlt : j < m
    case neg =>
      obtain rfl : j = m := by omega
      go_wp2_with fail
      go_ret
      exact ⟨by rw [HTOT.out]; rfl, HS.out.b⟩
    have hlt' : (j : Int) < m := by omega
    have hjn : j < rs.length := by rw [hm.out]; exact hlt
    obtain ⟨b, off, rfl, hlm, hbb, hra, hok⟩ := HN.out.elem hjn
    have HRT := Lib.hid (Below.rng HS.out.b hbb hra)
    have HNX := Lib.hid (wsK_more vs gs bs (rs.take j) rs[j] vs.length)
    have HTK := Lib.hid (take_more hjn)
    rw [← HTK.out] at HNX
    have HOK := Lib.hid hok
    obtain ⟨r, hr⟩ : ∃ r, Hid (rs[j] = r) := ⟨_, Lib.hid rfl⟩
    rw [hr.out] at HRT HNX HTK HOK
    have hiY : (Try.prog.info? 28).map (·.size) = some (bytesL r).length := by rw [bytesL_len HOK.out]; kernel_rfl
    obtain ⟨R, hR⟩ : ∃ R, Hid (bytesL r = R) := ⟨_, Lib.hid rfl⟩
    rw [hR.out] at HRT hiY
    have hsR : R.toArray.size = 32 := by rw [← hR.out, List.size_toArray, bytesL_len HOK.out]
    have hiR : (Try.prog.info? 28).map (·.size) = some R.toArray.size := by rw [hsR]; kernel_rfl
    have HOR : Hid (∀ v ∈ R.toArray, v.oneCell' = true) := by show ∀ v ∈ R.toArray, _; rw [← hR.out]; exact fun v hv => bytesL_one _ v (by simpa using hv)
    obtain ⟨F0, HF0⟩ : ∃ F0, Hid ((if r ∈ rs.take j then 0 else wsK vs gs bs [r] vs.length) = F0) := ⟨_, Lib.hid rfl⟩
    rw [HF0.out] at HNX
    obtain ⟨s0, HS0⟩ : ∃ s0, Hid (wsK vs gs bs (rs.take j) vs.length = s0) := ⟨_, Lib.hid rfl⟩
    rw [HS0.out] at HNX ⊢
    have hwr : IntKind.u64.wrap (s0 + F0) = s0 + F0 := by
      have h := HBD.out (rs.take (j + 1)) vs.length
      rw [HNX.out] at h
      exact u64_wrap h.1 (by omega)
    have hlook : ∀ u, WgS w mb vs gs bs rs j u → (Instr.lookup 95 (.map (some mb)) (.agg R.toArray) false).run Try.prog u = .ok (.int .u64 F0) u := fun u hu => by
      have := hu.m.look HOK.out
      rw [hR.out, HF0.out] at this
      exact this
    have hdel : ∀ u ty, WgS w mb vs gs bs rs j u → ∃ u', (Builtin.delete_ #[95, 28] ty #[.map (some mb), .agg R.toArray]).run Try.prog u = .ok (.tuple #[]) u' ∧ WgS w mb vs gs bs rs (j + 1) u' := fun u ty hu => by
      obtain ⟨u', h1, h2, h3⟩ := hu.m.del HOK.out ty
      rw [hR.out] at h1
      refine ⟨u', h1, hu.b.grown h3 hu.b.size (fun n e => by cases e; exact hu.lo), h2.congr (fun s _ => ?_), hu.lo⟩
      show (if s = r then 0 else if s ∈ rs.take j then 0 else wsK vs gs bs [s] vs.length) = _
      rw [HTK.out]
      by_cases e : s = r
      · rw [if_pos e, if_pos (by simp [e])]
      · rw [if_neg e]
        by_cases e2 : s ∈ rs.take j
        · rw [if_pos e2, if_pos (by simp [e2])]
        · rw [if_neg e2, if_neg (by simp [e, e2])]
    have HLK := Lib.hid hlook
    have HDL := Lib.hid hdel
    clear hra hok hlm hlook hdel
    go_wp2_with (first
      | ((with_reducible refine at_load (.tmp 18) ?_); refine wpList_load_at 28 (.tmp 18) rfl b (off + j * 32) (by simp [Act.eval, Act.put]) R HRT.out _ Try.underlying28 rfl hiY rfl ?_)
      | ((with_reducible refine at_store (.tmp 10) ?_); refine wpList_store_blk rfl 28 (.tmp 10) _ rfl wr.heap.size R.toArray rfl rfl ZR (Blk.new rfl) (by rw [hszR, hsR]) hiR HOR.out ?_; intro w4 U4 B4; have hb4 := U4.below ((Below.refl wr.heap.size wr).alloc (Nat.le_refl _) (.cells ZR 28)) (Nat.le_refl _); have HS4 := Lib.hid (HS.out.call hb4); have HB4 := Lib.hid B4; clear hb4 U4 B4)
      | ((with_reducible refine at_load (.tmp 10) ?_); refine wpList_load_blk rfl 28 (.tmp 10) rfl wr.heap.size rfl R.toArray _ HB4.out Try.underlying28 rfl hiR ?_)
      | ((with_reducible refine at_wlook (.tmp 21) (.tmp 22) ?_); refine wpList_look rfl _ (.tmp 21) (.tmp 22) false rfl _ _ _ rfl rfl (HLK.out w4 HS4.out) ?_)
      | ((with_reducible refine at_wdel (.tmp 25) (.tmp 26) ?_); obtain ⟨w5, hd5, hs5⟩ := HDL.out w4 0 HS4.out; have HS5 := Lib.hid hs5; refine wpList_del rfl (.tmp 25) (.tmp 26) _ _ rfl _ _ rfl rfl hd5 ?_; clear hd5 hs5))
    go_roundw
    case rel => exact ⟨j + 1, by omega, by go_num, by rw [HNX.out], HS5.out⟩
    case measure => simp [intOf]; omega
end

end Go.Proofs.Ytcbjjafjomdklaa
