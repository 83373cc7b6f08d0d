/- A region that draws its order, whose operations read, call, make variables of their own and store into them once each: one walk of what only reads and calls serves every order. -/
import Derived.Test.YtdbkphkgjaecoaaRow2
import Derived.Deep.Quiet
set_option linter.unusedVariables false
namespace Go.Proofs.Ytdbkphkgjaecoaa
open Go.RowKit

def alOf (o : Oper) : Bool := match o.op with | .alloc _ => true | _ => false

def stOf (o : Oper) : Bool := match o.op with | .store _ _ _ => true | _ => false

def quOf (o : Oper) : Bool := !alOf o && !stOf o

def waits (o : Oper) (j : Nat) : Bool := o.after.any fun e => Region.binds .any e && e.on == j

theorem exec_alloc {P : Program} {ρ : Operand → Value} {o : Oper} {t : TypeId} (ho : o.op = .alloc t) {Z : Array Value} (hz : ∀ w, (zeroValue t).run P w = .ok (.agg Z) w) (w : World) :
    (execOp ρ o).run P w = .ok (.value (.pointer (some ⟨w.heap.size, 0, none⟩))) (w.alloc (.cells Z t)) := by
  unfold execOp
  simp only [ho]
  simp [Instr.alloc, hz w, go_sem]
section
variable {P : Program} {ops : Array Oper} {C : World → Prop} {A : Act}

theorem put_at {a : Act} {d t : Tmp} {v : Value} : (a.put (some d) v).tmps[t]? = if d = t then (if d < a.tmps.size then some v else none) else a.tmps[t]? := by
  simp only [Act.put, Array.getElem?_setIfInBounds]

theorem put_size {a : Act} {x : Option Tmp} {v : Value} : (a.put x v).tmps.size = a.tmps.size := by
  cases x <;> simp [Act.put]

theorem put_defers {a : Act} {x : Option Tmp} {v : Value} : (a.put x v).defers = a.defers := by cases x <;> rfl

theorem put_other {a : Act} {x : Option Tmp} {v : Value} {t : Tmp} (h : x ≠ some t) : (a.put x v).tmps[t]? = a.tmps[t]? := by
  cases x with
  | none => rfl
  | some d => rw [put_at, if_neg (fun e => h (by rw [e]))]

/-- What the walk's end says of the frame it began with. -/
theorem quiet_final : ∀ (l : List Oper) (a : Act), wpQuiet P ops C (fun a' => a' = A) l a → A.defers = a.defers ∧ A.tmps.size = a.tmps.size ∧ ∀ t, (∀ o ∈ l, o.dst ≠ some t) → A.tmps[t]? = a.tmps[t]?
  | [], a, h => by
    have h : a = A := h
    subst h
    exact ⟨rfl, rfl, fun _ _ => rfl⟩
  | o :: l, a, h => by
    have key : ∀ v, wpQuiet P ops C (fun a' => a' = A) l (a.put o.dst v) → A.defers = a.defers ∧ A.tmps.size = a.tmps.size ∧ ∀ t, (∀ o' ∈ o :: l, o'.dst ≠ some t) → A.tmps[t]? = a.tmps[t]? := fun v hv => by
      obtain ⟨h1, h2, h3⟩ := quiet_final l _ hv
      exact ⟨h1.trans put_defers, h2.trans put_size, fun t ht => (h3 t (fun o' ho' => ht o' (List.mem_cons_of_mem _ ho'))).trans (put_other (ht o (List.mem_cons_self ..)))⟩
    unfold wpQuiet at h
    split at h
    · obtain ⟨v, _, hv⟩ := h
      exact key v hv
    · exact key undef h

/-- Each operation of the walk, in the frame in which it comes up. -/
theorem quiet_at : ∀ (pre : List Oper) (o : Oper) (post : List Oper) (a : Act), wpQuiet P ops C (fun a' => a' = A) (pre ++ o :: post) a →
    (pre ++ o :: post).Pairwise (fun x y => ∀ d, x.dst = some d → y.dst ≠ some d) → (∀ x ∈ pre ++ o :: post, ∀ d, x.dst = some d → d < a.tmps.size) →
    ∃ Ao : Act, Ao.defers = a.defers ∧ Ao.tmps.size = a.tmps.size ∧ (∀ t, (∃ p ∈ pre, p.dst = some t) → Ao.tmps[t]? = A.tmps[t]?) ∧ (∀ t, (∀ p ∈ pre, p.dst ≠ some t) → Ao.tmps[t]? = a.tmps[t]?) ∧
      ∃ v, (∀ d, o.dst = some d → A.tmps[d]? = some v) ∧ ((Region.wanted o (yielded ops Ao.tmps) = true ∧ ∀ w, C w → o.quietAt P Ao C w v) ∨ (Region.wanted o (yielded ops Ao.tmps) = false ∧ v = undef))
  | [], o, post, a, h, hp, hs => by
    refine ⟨a, rfl, rfl, (by rintro t ⟨p, hp, _⟩; cases hp), fun _ _ => rfl, ?_⟩
    have key : ∀ v, wpQuiet P ops C (fun a' => a' = A) post (a.put o.dst v) → ∀ d, o.dst = some d → A.tmps[d]? = some v := fun v hv d hd => by
      obtain ⟨_, _, h3⟩ := quiet_final post _ hv
      rw [h3 d (fun o' ho' => (List.pairwise_cons.1 hp).1 o' ho' d hd), hd, put_at, if_pos rfl, if_pos (hs o (by simp) d hd)]
    have h' : wpQuiet P ops C (fun a' => a' = A) (o :: post) a := h
    unfold wpQuiet at h'
    by_cases hw : Region.wanted o (yielded ops a.tmps) = true
    · rw [if_pos hw] at h'
      obtain ⟨v, h1, hv⟩ := h'
      exact ⟨v, key v hv, .inl ⟨hw, h1⟩⟩
    · rw [if_neg hw] at h'
      exact ⟨undef, key undef h', .inr ⟨by simpa using hw, rfl⟩⟩
  | p :: pre, o, post, a, h, hp, hs => by
    have h' : wpQuiet P ops C (fun a' => a' = A) (p :: (pre ++ o :: post)) a := h
    have key : ∀ u, wpQuiet P ops C (fun a' => a' = A) (pre ++ o :: post) (a.put p.dst u) → ∃ Ao : Act, Ao.defers = a.defers ∧ Ao.tmps.size = a.tmps.size ∧ (∀ t, (∃ q ∈ p :: pre, q.dst = some t) → Ao.tmps[t]? = A.tmps[t]?) ∧ (∀ t, (∀ q ∈ p :: pre, q.dst ≠ some t) → Ao.tmps[t]? = a.tmps[t]?) ∧
        ∃ v, (∀ d, o.dst = some d → A.tmps[d]? = some v) ∧ ((Region.wanted o (yielded ops Ao.tmps) = true ∧ ∀ w, C w → o.quietAt P Ao C w v) ∨ (Region.wanted o (yielded ops Ao.tmps) = false ∧ v = undef)) := fun u hu => by
      obtain ⟨Ao, g1, g2, g3, g4, g5⟩ := quiet_at pre o post (a.put p.dst u) hu (List.pairwise_cons.1 hp).2 (fun x hx d hd => by rw [put_size]; exact hs x (List.mem_cons_of_mem _ hx) d hd)
      refine ⟨Ao, g1.trans put_defers, g2.trans put_size, fun t ht => ?_, fun t ht => ?_, g5⟩
      · by_cases hq : ∃ q ∈ pre, q.dst = some t
        · exact g3 t hq
        · have hq' : ∀ q ∈ pre, q.dst ≠ some t := fun q hq1 hq2 => hq ⟨q, hq1, hq2⟩
          obtain ⟨q, hq1, hq2⟩ := ht
          rcases List.mem_cons.1 hq1 with rfl | hq1
          · obtain ⟨_, _, f3⟩ := quiet_final _ _ hu
            rw [g4 t hq', f3 t (fun x hx => (List.pairwise_cons.1 hp).1 x hx t hq2)]
          · exact absurd hq2 (hq' q hq1)
      · rw [g4 t (fun q hq => ht q (List.mem_cons_of_mem _ hq)), put_other (ht p (List.mem_cons_self ..))]
    unfold wpQuiet at h'
    split at h'
    · obtain ⟨u, _, hu⟩ := h'
      exact key u hu
    · exact key undef h'
end
section
variable {P : Program} {ops : Array Oper}

theorem mem_looks_op {o : Oper} {t : Tmp} (h : Operand.tmp t ∈ o.op.operands) : t ∈ o.looksAt ops :=
  List.mem_append_left _ (List.mem_filterMap.2 ⟨.tmp t, by simpa using h, rfl⟩)

theorem exec_same {o : Oper} {a a' : Act} (hs : ∀ cs b, o.op ≠ .select cs b) (h : ∀ t ∈ o.looksAt ops, a.tmps[t]? = a'.tmps[t]?) : execOp a.eval o = execOp a'.eval o :=
  execOp_congr o hs fun x hx => by
    cases x with
    | tmp t => simp [Act.eval, h t (mem_looks_op hx)]
    | _ => rfl

theorem wanted_same {o : Oper} {a a' : Act} (h : ∀ t ∈ o.looksAt ops, a.tmps[t]? = a'.tmps[t]?) : Region.wanted o (yielded ops a.tmps) = Region.wanted o (yielded ops a'.tmps) := by
  unfold Region.wanted
  cases hg : o.guard with
  | none => rfl
  | some gw =>
    obtain ⟨g, want⟩ := gw
    have hy : yielded ops a.tmps g = yielded ops a'.tmps g := by
      unfold yielded
      cases ht : (ops[g]?).bind (·.dst) with
      | none => rfl
      | some t =>
        have := h t (List.mem_append_right _ (by simp [hg, ht]))
        simp [this]
    simp only [hy]

theorem quietAt_same {o : Oper} {a a' : Act} {C : World → Prop} {w : World} {v : Value} (he : execOp a.eval o = execOp a'.eval o) (h : o.quietAt P a' C w v) : o.quietAt P a C w v := by
  unfold Oper.quietAt at *
  rw [he]; exact h
end

/-- What is asked of the region's text; n: how many slots the frame has. -/
structure OwnOK (ops : Array Oper) (n : Nat) : Prop where
  one : ∀ (i j : Nat) (oi oj : Oper) (d : Tmp), ops[i]? = some oi → ops[j]? = some oj → i ≠ j → oi.dst = some d → oj.dst ≠ some d
  inside : ∀ (i : Nat) (oi : Oper) (d : Tmp), ops[i]? = some oi → oi.dst = some d → d < n
  order : ∀ (i j : Nat) (oi oj : Oper) (d : Tmp), ops[i]? = some oi → ops[j]? = some oj → oj.dst = some d → d ∈ oi.looksAt ops → (waits oi j = true ∧ j < i) ∨ (waits oj i = true ∧ i < j)
  lex : ∀ (i : Nat) (oi : Oper), ops[i]? = some oi → ∀ e ∈ oi.after, Region.binds .any e = true → e.on < i
  sel : ∀ (i : Nat) (oi : Oper) cs b, ops[i]? = some oi → oi.op ≠ .select cs b
  alloc : ∀ (i : Nat) (oi : Oper), ops[i]? = some oi → alOf oi = true → oi.guard = none ∧ ∃ d t, oi.dst = some d ∧ oi.op = .alloc t
  store : ∀ (i : Nat) (oi : Oper), ops[i]? = some oi → stOf oi = true → oi.guard = none ∧ oi.dst = none ∧ ∃ ty d y, oi.op = .store ty (.tmp d) y ∧ (∃ (j : Nat) (oj : Oper), ops[j]? = some oj ∧ alOf oj = true ∧ oj.dst = some d ∧ waits oi j = true) ∧
    ∀ (j : Nat) (oj : Oper) (d' : Tmp), ops[j]? = some oj → oj.dst = some d' → y = .tmp d' → quOf oj = true ∧ waits oi j = true
  apart : ∀ (i j : Nat) (oi oj : Oper) (d : Tmp), ops[i]? = some oi → ops[j]? = some oj → alOf oj = true → oj.dst = some d → quOf oi = true → d ∉ oi.looksAt ops
  once : ∀ (i j : Nat) (oi oj : Oper) (ty ty' : TypeId) (d : Tmp) (y y' : Operand), ops[i]? = some oi → ops[j]? = some oj → oi.op = .store ty (.tmp d) y → oj.op = .store ty' (.tmp d) y' → i = j

/-- What holds while the region runs: c: which block an alloc has made; K: what a store stores. -/
structure OwnInv (ops : Array Oper) (a0 A : Act) (W0 : World) (sz : Nat → Nat) (K : Nat → Array Value) (listed : Array Bool) (c : Nat → Nat) (a : Act) (w : World) : Prop where
  size : listed.size = ops.size
  down : ∀ (i : Nat) (oi : Oper), ops[i]? = some oi → listed.getD i false = true → ∀ e ∈ oi.after, Region.binds .any e = true → listed.getD e.on false = true
  defers : a.defers = a0.defers
  tsize : a.tmps.size = a0.tmps.size
  quiet : ∀ (j : Nat) (oj : Oper) (d : Tmp), ops[j]? = some oj → quOf oj = true → listed.getD j false = true → oj.dst = some d → a.tmps[d]? = A.tmps[d]?
  alloc : ∀ (j : Nat) (oj : Oper) (d : Tmp), ops[j]? = some oj → alOf oj = true → listed.getD j false = true → oj.dst = some d → a.tmps[d]? = some (.pointer (some ⟨c j, 0, none⟩))
  rest : ∀ t : Tmp, (∀ (j : Nat) (oj : Oper), ops[j]? = some oj → listed.getD j false = true → oj.dst ≠ some t) → a.tmps[t]? = a0.tmps[t]?
  below : Below W0.heap.size W0 w
  owns : ∀ (j : Nat) (oj : Oper) (d : Tmp), ops[j]? = some oj → alOf oj = true → listed.getD j false = true → oj.dst = some d → W0.heap.size ≤ c j ∧ ∃ cs, Blk w (c j) cs ∧ cs.size = sz j ∧
    ∀ (s : Nat) (os : Oper) (ty : TypeId) (y : Operand), ops[s]? = some os → os.op = .store ty (.tmp d) y → listed.getD s false = true → cs = K s
  inj : ∀ (i j : Nat) (oi oj : Oper), ops[i]? = some oi → ops[j]? = some oj → alOf oi = true → alOf oj = true → listed.getD i false = true → listed.getD j false = true → i ≠ j → c i ≠ c j

theorem listed_set {listed : Array Bool} {i j : Nat} (hi : i < listed.size) : (listed.setIfInBounds i true).getD j false = (decide (i = j) || listed.getD j false) := by
  by_cases h : i = j
  · subst h; simp [hi]
  · simp [h, Array.getElem?_setIfInBounds_ne h]
section
variable {P : Program} {ops : Array Oper} {a0 A : Act} {W0 : World} {sz : Nat → Nat} {K : Nat → Array Value} {listed : Array Bool} {c : Nat → Nat} {a : Act} {w : World}

theorem unlisted_of (hs : listed.size = ops.size) {i : Nat} (h : listed.getD i true = false) : i < listed.size ∧ listed.getD i false = false := by
  by_cases hi : i < listed.size
  · exact ⟨hi, by simp [hi] at h ⊢; exact h⟩
  · simp [Array.getElem?_eq_none (Nat.le_of_not_lt hi)] at h

theorem waits_spec {o : Oper} {j : Nat} (h : waits o j = true) : ∃ e ∈ o.after, Region.binds .any e = true ∧ e.on = j := by
  unfold waits at h
  obtain ⟨e, he, hb⟩ := Array.any_eq_true'.1 h
  simp only [Bool.and_eq_true, beq_iff_eq] at hb
  exact ⟨e, he, hb.1, hb.2⟩

/-- The quiet operations' walk at operation number i. -/
theorem own_at {C : World → Prop} (ok : OwnOK ops a0.tmps.size) (H : wpQuiet P ops C (fun a' => a' = A) (ops.toList.filter quOf) a0) {i : Nat} {oi : Oper} (hi : ops[i]? = some oi) (hq : quOf oi = true) :
    ∃ Ao : Act, (∀ t, (∃ (j : Nat) (oj : Oper), j < i ∧ ops[j]? = some oj ∧ quOf oj = true ∧ oj.dst = some t) → Ao.tmps[t]? = A.tmps[t]?) ∧
      (∀ t, (∀ (j : Nat) (oj : Oper), j < i → ops[j]? = some oj → quOf oj = true → oj.dst ≠ some t) → Ao.tmps[t]? = a0.tmps[t]?) ∧
      ∃ v, (∀ d, oi.dst = some d → A.tmps[d]? = some v) ∧ ((Region.wanted oi (yielded ops Ao.tmps) = true ∧ ∀ w, C w → oi.quietAt P Ao C w v) ∨ (Region.wanted oi (yielded ops Ao.tmps) = false ∧ v = undef)) := by
  have hlt : i < ops.toList.length := by
    have := (Array.getElem?_eq_some_iff.1 hi).1
    simpa using this
  have hget : ops.toList[i] = oi := by
    have := (Array.getElem?_eq_some_iff.1 hi).2
    simpa using this
  have hl : ops.toList.filter quOf = (ops.toList.take i).filter quOf ++ oi :: (ops.toList.drop (i + 1)).filter quOf := by
    conv => lhs; rw [← List.take_append_drop i ops.toList, List.drop_eq_getElem_cons hlt, hget]
    rw [List.filter_append, List.filter_cons_of_pos hq]
  have hpw : ops.toList.Pairwise (fun x y => ∀ d, x.dst = some d → y.dst ≠ some d) := by
    rw [List.pairwise_iff_getElem]
    intro p q hp hq' hpq d hd
    exact ok.one p q _ _ d (by simp) (by simp) (by omega) hd
  rw [hl] at H
  obtain ⟨Ao, _, _, g3, g4, g5⟩ := quiet_at _ _ _ _ H (by rw [← hl]; exact hpw.filter _) (fun x hx d hd => by
    rw [← hl] at hx
    obtain ⟨p, hp⟩ := List.getElem?_of_mem (List.mem_filter.1 hx).1
    exact ok.inside p x d (by simpa using hp) hd)
  have hmem : ∀ x, x ∈ (ops.toList.take i).filter quOf ↔ ∃ (j : Nat), j < i ∧ ops[j]? = some x ∧ quOf x = true := fun x => by
    rw [List.mem_filter]
    constructor
    · rintro ⟨h1, h2⟩
      obtain ⟨p, hp⟩ := List.getElem?_of_mem h1
      rw [List.getElem?_take] at hp
      split at hp
      · exact ⟨p, by assumption, by simpa using hp, h2⟩
      · cases hp
    · rintro ⟨j, hj, h1, h2⟩
      refine ⟨List.mem_of_getElem? (i := j) ?_, h2⟩
      rw [List.getElem?_take, if_pos hj]
      simpa using h1
  refine ⟨Ao, fun t ht => ?_, fun t ht => ?_, g5⟩
  · obtain ⟨j, oj, hj, h1, h2, h3⟩ := ht
    exact g3 t ⟨oj, (hmem oj).2 ⟨j, hj, h1, h2⟩, h3⟩
  · exact g4 t (fun p hp hd => by
      obtain ⟨j, hj, h1, h2⟩ := (hmem p).1 hp
      exact ht j p hj h1 h2 hd)

theorem kind3 (o : Oper) : quOf o = true ∨ alOf o = true ∨ stOf o = true := by
  unfold quOf
  cases alOf o <;> cases stOf o <;> simp

/-- What a ready operation sees. -/
theorem own_sees (ok : OwnOK ops a0.tmps.size) (I : OwnInv ops a0 A W0 sz K listed c a w) {i : Nat} {oi : Oper} (hi : ops[i]? = some oi) (hun : listed.getD i true = false)
    (hr : ∀ e ∈ oi.after, Region.binds .any e = true → listed.getD e.on false = true) {t : Tmp} (ht : t ∈ oi.looksAt ops) (hal : ∀ (j : Nat) (oj : Oper), ops[j]? = some oj → oj.dst = some t → quOf oj = true) :
    ((∃ (j : Nat) (oj : Oper), j < i ∧ ops[j]? = some oj ∧ quOf oj = true ∧ oj.dst = some t) ∧ a.tmps[t]? = A.tmps[t]?) ∨
    ((∀ (j : Nat) (oj : Oper), j < i → ops[j]? = some oj → quOf oj = true → oj.dst ≠ some t) ∧ a.tmps[t]? = a0.tmps[t]?) := by
  by_cases h : ∃ (j : Nat) (oj : Oper), ops[j]? = some oj ∧ oj.dst = some t
  · obtain ⟨j, oj, hj, hd⟩ := h
    rcases ok.order i j oi oj t hi hj hd ht with ⟨hw, hlt⟩ | ⟨hw, hlt⟩
    · obtain ⟨e, he, hb, rfl⟩ := waits_spec hw
      exact .inl ⟨⟨_, oj, hlt, hj, hal _ oj hj hd, hd⟩, I.quiet _ oj t hj (hal _ oj hj hd) (hr e he hb) hd⟩
    · have hnj : listed.getD j false ≠ true := fun hl => by
        obtain ⟨e, he, hb, rfl⟩ := waits_spec hw
        have := I.down j oj hj hl e he hb
        rw [(unlisted_of I.size hun).2] at this
        cases this
      refine .inr ⟨fun k ok' hk h1 _ h3 => ok.one j k oj ok' t hj h1 (by omega) hd h3, I.rest t fun k ok' h1 h2 h3 => ?_⟩
      by_cases hkj : k = j
      · subst hkj; exact hnj h2
      · exact ok.one j k oj ok' t hj h1 (Ne.symm hkj) hd h3
  · refine .inr ⟨fun k ok' _ h1 _ h3 => h ⟨k, ok', h1, h3⟩, I.rest t fun k ok' h1 _ h3 => h ⟨k, ok', h1, h3⟩⟩

/-- A quiet operation has come up. -/
theorem OwnInv.put_quiet (ok : OwnOK ops a0.tmps.size) (I : OwnInv ops a0 A W0 sz K listed c a w) {i : Nat} {oi : Oper} (hi : ops[i]? = some oi) (hq : quOf oi = true) (hun : listed.getD i true = false)
    (hr : ∀ e ∈ oi.after, Region.binds .any e = true → listed.getD e.on false = true) {v : Value} (hv : ∀ d, oi.dst = some d → A.tmps[d]? = some v) {w' : World} (hw : Below w.heap.size w w') :
    OwnInv ops a0 A W0 sz K (listed.setIfInBounds i true) c (a.put oi.dst v) w' := by
  have hls := (unlisted_of I.size hun).1
  have hset : ∀ j, (listed.setIfInBounds i true).getD j false = true → j ≠ i → listed.getD j false = true := fun j h hne => by
    rw [listed_set hls] at h
    simpa [Ne.symm hne] using h
  have hne : ∀ (j : Nat) (oj : Oper), ops[j]? = some oj → quOf oj ≠ true → j ≠ i := fun j oj hj hn e => by
    subst e; rw [hi] at hj; cases hj; exact hn hq
  refine ⟨by simp [I.size], fun j oj hj hl e he hb => ?_, put_defers.trans I.defers, put_size.trans I.tsize, fun j oj d hj hqj hl hd => ?_, fun j oj d hj haj hl hd => ?_, fun t ht => ?_, I.below.trans (hw.mono I.below.size), fun j oj d hj haj hl hd => ?_, fun p q op oq hp hq' hap haq hlp hlq hne' => ?_⟩
  · rw [listed_set hls]
    by_cases hji : j = i
    · subst hji; rw [hi] at hj; cases hj; simp [hr e he hb]
    · simp [I.down j oj hj (hset j hl hji) e he hb]
  · by_cases hji : j = i
    · subst hji; rw [hi] at hj; cases hj
      rw [hd, put_at, if_pos rfl, if_pos (by rw [I.tsize]; exact ok.inside _ _ d hi hd), hv d hd]
    · rw [put_other (fun h => ok.one i j oi oj d hi hj (Ne.symm hji) h hd)]
      exact I.quiet j oj d hj hqj (hset j hl hji) hd
  · have hji := hne j oj hj (by unfold quOf; simp [haj])
    rw [put_other (fun h => ok.one i j oi oj d hi hj (Ne.symm hji) h hd)]
    exact I.alloc j oj d hj haj (hset j hl hji) hd
  · rw [put_other (fun h => ht i oi hi (by rw [listed_set hls]; simp) h)]
    exact I.rest t fun j oj hj hl => ht j oj hj (by rw [listed_set hls]; simp [hl])
  · have hji := hne j oj hj (by unfold quOf; simp [haj])
    obtain ⟨h1, cs, h2, h3, h4⟩ := I.owns j oj d hj haj (hset j hl hji) hd
    refine ⟨h1, cs, h2.call hw, h3, fun s os ty y hs ho hl' => h4 s os ty y hs ho (hset s hl' ?_)⟩
    exact hne s os hs (by unfold quOf stOf; simp [ho])
  · exact I.inj p q op oq hp hq' hap haq (hset p hlp (hne p op hp (by unfold quOf; simp [hap]))) (hset q hlq (hne q oq hq' (by unfold quOf; simp [haq]))) hne'

/-- An alloc has come up. -/
theorem OwnInv.put_alloc (ok : OwnOK ops a0.tmps.size) (I : OwnInv ops a0 A W0 sz K listed c a w) {i : Nat} {oi : Oper} (hi : ops[i]? = some oi) (hal : alOf oi = true) (hun : listed.getD i true = false)
    (hr : ∀ e ∈ oi.after, Region.binds .any e = true → listed.getD e.on false = true) {Z : Array Value} {t : TypeId} (hz : Z.size = sz i) :
    OwnInv ops a0 A W0 sz K (listed.setIfInBounds i true) (fun j => if j = i then w.heap.size else c j) (a.put oi.dst (.pointer (some ⟨w.heap.size, 0, none⟩))) (w.alloc (.cells Z t)) := by
  have hls := (unlisted_of I.size hun).1
  have hnl := (unlisted_of I.size hun).2
  have hset : ∀ j, (listed.setIfInBounds i true).getD j false = true → j ≠ i → listed.getD j false = true := fun j h hne => by
    rw [listed_set hls] at h
    simpa [Ne.symm hne] using h
  have hne : ∀ (j : Nat) (oj : Oper), ops[j]? = some oj → alOf oj ≠ true → j ≠ i := fun j oj hj hn e => by
    subst e; rw [hi] at hj; cases hj; exact hn hal
  obtain ⟨_, d0, t0, hd0, _⟩ := ok.alloc i oi hi hal
  refine ⟨by simp [I.size], fun j oj hj hl e he hb => ?_, put_defers.trans I.defers, put_size.trans I.tsize, fun j oj d hj hqj hl hd => ?_, fun j oj d hj haj hl hd => ?_, fun t ht => ?_, I.below.alloc I.below.size _, fun j oj d hj haj hl hd => ?_, fun p q op oq hp hq' hap haq hlp hlq hne' => ?_⟩
  · rw [listed_set hls]
    by_cases hji : j = i
    · subst hji; rw [hi] at hj; cases hj; simp [hr e he hb]
    · simp [I.down j oj hj (hset j hl hji) e he hb]
  · have hji := hne j oj hj (by unfold quOf at hqj; simp at hqj; simp [hqj.1])
    rw [put_other (fun h => ok.one i j oi oj d hi hj (Ne.symm hji) h hd)]
    exact I.quiet j oj d hj hqj (hset j hl hji) hd
  · by_cases hji : j = i
    · subst hji; rw [hi] at hj; cases hj
      rw [hd, put_at, if_pos rfl, if_pos (by rw [I.tsize]; exact ok.inside _ _ d hi hd), if_pos rfl]
    · rw [put_other (fun h => ok.one i j oi oj d hi hj (Ne.symm hji) h hd), if_neg hji]
      exact I.alloc j oj d hj haj (hset j hl hji) hd
  · rw [put_other (fun h => ht i oi hi (by rw [listed_set hls]; simp) h)]
    exact I.rest t fun j oj hj hl => ht j oj hj (by rw [listed_set hls]; simp [hl])
  · by_cases hji : j = i
    · subst hji; rw [hi] at hj; cases hj
      rw [if_pos rfl]
      refine ⟨I.below.size, Z, Blk.new rfl, hz, fun s os ty y hs ho hl' => ?_⟩
      have hsi : s ≠ j := hne s os hs (by unfold alOf; simp [ho])
      obtain ⟨_, _, ty', d', y', ho', ⟨k, ok', hk, hak, hdk, hwk⟩, _⟩ := ok.store s os hs (by unfold stOf; rw [ho])
      rw [ho] at ho'
      cases ho'
      have hkj : k = j := Classical.byContradiction fun hc => ok.one k j ok' oi d hk hi hc hdk hd
      subst hkj
      obtain ⟨e, he, hb, he'⟩ := waits_spec hwk
      have := I.down s os hs (hset s hl' hsi) e he hb
      rw [he', hnl] at this
      cases this
    · rw [if_neg hji]
      obtain ⟨h1, cs, h2, h3, h4⟩ := I.owns j oj d hj haj (hset j hl hji) hd
      exact ⟨h1, cs, h2.alloc _, h3, fun s os ty y hs ho hl' => h4 s os ty y hs ho (hset s hl' (hne s os hs (by unfold alOf; simp [ho])))⟩
  · obtain ⟨_, dp, _, hdp, _⟩ := ok.alloc p op hp hap
    obtain ⟨_, dq, _, hdq, _⟩ := ok.alloc q oq hq' haq
    by_cases hpi : p = i
    · have hqi : q ≠ i := fun h => hne' (hpi.trans h.symm)
      obtain ⟨_, cs, h2, _⟩ := I.owns q oq dq hq' haq (hset q hlq hqi) hdq
      rw [if_pos hpi, if_neg hqi]
      exact Ne.symm (Nat.ne_of_lt h2.lt)
    · by_cases hqi : q = i
      · obtain ⟨_, cs, h2, _⟩ := I.owns p op dp hp hap (hset p hlp hpi) hdp
        rw [if_neg hpi, if_pos hqi]
        exact Nat.ne_of_lt h2.lt
      · rw [if_neg hpi, if_neg hqi]
        exact I.inj p q op oq hp hq' hap haq (hset p hlp hpi) (hset q hlq hqi) hne'

/-- A store has come up: what it stores is there. -/
theorem OwnInv.put_store (ok : OwnOK ops a0.tmps.size) (I : OwnInv ops a0 A W0 sz K listed c a w) {i j : Nat} {oi oj : Oper} (hi : ops[i]? = some oi) {ty : TypeId} {d : Tmp} {y : Operand} (ho : oi.op = .store ty (.tmp d) y) (hun : listed.getD i true = false)
    (hr : ∀ e ∈ oi.after, Region.binds .any e = true → listed.getD e.on false = true) (hj : ops[j]? = some oj) (haj : alOf oj = true) (hdj : oj.dst = some d) {w' : World} (U : Upd (c j) w w') (hB : Blk w' (c j) (K i)) (hsz : (K i).size = sz j) (hlj : listed.getD j false = true) :
    OwnInv ops a0 A W0 sz K (listed.setIfInBounds i true) c (a.put oi.dst undef) w' := by
  have hls := (unlisted_of I.size hun).1
  have hset : ∀ j, (listed.setIfInBounds i true).getD j false = true → j ≠ i → listed.getD j false = true := fun j h hne => by
    rw [listed_set hls] at h
    simpa [Ne.symm hne] using h
  have hsi : stOf oi = true := by unfold stOf; rw [ho]
  have hne : ∀ (j : Nat) (oj : Oper), ops[j]? = some oj → stOf oj ≠ true → j ≠ i := fun j oj hj hn e => by
    subst e; rw [hi] at hj; cases hj; exact hn hsi
  obtain ⟨_, hdn, _⟩ := ok.store i oi hi hsi
  rw [hdn]
  obtain ⟨hcj, _⟩ := I.owns j oj d hj haj hlj hdj
  have hal2 : ∀ (o : Oper), alOf o = true → stOf o ≠ true := fun o h => by unfold alOf at h; unfold stOf; cases hop : o.op <;> rw [hop] at h <;> simp at h ⊢
  refine ⟨by simp [I.size], fun p op hp hl e he hb => ?_, I.defers, I.tsize, fun p op d' hp hqp hl hd => ?_, fun p op d' hp hap hl hd => ?_, fun t ht => ?_, U.below I.below hcj, fun p op d' hp hap hl hd => ?_, fun p q op oq hp hq' hap haq hlp hlq hne' => ?_⟩
  · rw [listed_set hls]
    by_cases hpi : p = i
    · subst hpi; rw [hi] at hp; cases hp; simp [hr e he hb]
    · simp [I.down p op hp (hset p hl hpi) e he hb]
  · exact I.quiet p op d' hp hqp (hset p hl (hne p op hp (by unfold quOf at hqp; simp at hqp; simp [hqp.2]))) hd
  · exact I.alloc p op d' hp hap (hset p hl (hne p op hp (hal2 op hap))) hd
  · exact I.rest t fun p op hp hl => ht p op hp (by rw [listed_set hls]; simp [hl])
  · have hlp := hset p hl (hne p op hp (hal2 op hap))
    obtain ⟨h1, cs, h2, h3, h4⟩ := I.owns p op d' hp hap hlp hd
    by_cases hpj : p = j
    · subst hpj
      rw [hj] at hp; cases hp
      rw [hdj] at hd; cases hd
      refine ⟨h1, K i, hB, hsz, fun s os ty' y' hs ho' hl' => ?_⟩
      rw [ok.once s i os oi ty' ty d y' y hs hi ho' ho]
    · refine ⟨h1, cs, U.blk h2 (I.inj p j op oj hp hj hap haj hlp hlj hpj), h3, fun s os ty' y' hs ho' hl' => h4 s os ty' y' hs ho' (hset s hl' fun e => ?_)⟩
      subst e
      rw [hi] at hs; cases hs
      rw [ho] at ho'; cases ho'
      exact ok.one p j op oj d hp hj hpj hd hdj
  · exact I.inj p q op oq hp hq' hap haq (hset p hlp (hne p op hp (hal2 op hap))) (hset q hlq (hne q oq hq' (hal2 oq haq))) hne'

/-- What is asked of the allocs' types and of the stores' values. -/
structure OwnVal (P : Program) (ops : Array Oper) (A : Act) (sz : Nat → Nat) (K : Nat → Array Value) : Prop where
  zero : ∀ (i : Nat) (oi : Oper) (t : TypeId), ops[i]? = some oi → oi.op = .alloc t → ∃ Z : Array Value, (∀ w, (zeroValue t).run P w = .ok (.agg Z) w) ∧ Z.size = sz i
  val : ∀ (s : Nat) (os : Oper) (ty : TypeId) (d : Tmp) (y : Operand), ops[s]? = some os → os.op = .store ty (.tmp d) y → A.eval y = .agg (K s) ∧ (P.info? ty).map (·.size) = some (K s).size ∧ (∀ v ∈ K s, v.oneCell' = true) ∧
    ∀ (j : Nat) (oj : Oper), ops[j]? = some oj → alOf oj = true → oj.dst = some d → (K s).size = sz j

theorem own_step {Q : Exit → Act → World → Prop} (ok : OwnOK ops a0.tmps.size) (vl : OwnVal P ops A sz K) (HA : ∀ W1, Below W0.heap.size W0 W1 → wpQuiet P ops (fun u => Below W1.heap.size W1 u) (fun a' => a' = A) (ops.toList.filter quOf) a0)
    (I : OwnInv ops a0 A W0 sz K listed c a w) {i : Nat} (hrd : i ∈ Region.ready .any ops listed) : wpOp P ops Q i (fun a' w' => ∃ c', OwnInv ops a0 A W0 sz K (listed.setIfInBounds i true) c' a' w') a w := by
  obtain ⟨hun, oi, hi, hr⟩ := mem_ready.1 hrd
  have hF := (quiet_final _ _ (HA w I.below)).2.2
  unfold wpOp
  simp only [hi]
  rcases kind3 oi with hq | hal | hst
  · obtain ⟨Ao, g3, g4, v, hv, hw⟩ := own_at ok (HA w I.below) hi hq
    have sees : ∀ t ∈ oi.looksAt ops, a.tmps[t]? = Ao.tmps[t]? := fun t ht => by
      rcases own_sees ok I hi hun hr ht (fun j oj hj hd => by
        rcases kind3 oj with h | h | h
        · exact h
        · exact absurd ht (ok.apart i j oi oj t hi hj h hd hq)
        · rw [(ok.store j oj hj h).2.1] at hd; cases hd) with ⟨h1, h2⟩ | ⟨h1, h2⟩
      · rw [h2, g3 t h1]
      · rw [h2, g4 t h1]
    have he := exec_same (fun cs b => ok.sel i oi cs b hi) sees
    have hwt := wanted_same sees
    rcases hw with ⟨hw, hat⟩ | ⟨hw, rfl⟩
    · rw [if_pos (hwt.trans hw)]
      refine .inl (Oper.wp_of_quiet (C := fun u => Below w.heap.size w u) (Below.refl _ _) (K := fun a' => a' = a.put oi.dst v) (fun a' w' hC hK' => ?_) ⟨v, fun w1 hw1 => quietAt_same he (hat w1 hw1), rfl⟩)
      rw [hK']
      exact ⟨c, I.put_quiet ok hi hq hun hr hv hC⟩
    · rw [if_neg (by rw [hwt, hw]; simp)]
      exact ⟨c, I.put_quiet ok hi hq hun hr hv (Below.refl _ _)⟩
  · obtain ⟨hg, d, t, hd, ho⟩ := ok.alloc i oi hi hal
    obtain ⟨Z, hz, hsz⟩ := vl.zero i oi t hi ho
    have hw : Region.wanted oi (yielded ops a.tmps) = true := by simp [Region.wanted, hg]
    rw [if_pos hw]
    refine .inl ?_
    unfold Oper.wp
    rw [exec_alloc ho hz]
    simp only [Oper.upon]
    exact ⟨_, I.put_alloc ok hi hal hun hr hsz⟩
  · obtain ⟨hg, hdn, ty, d, y, ho, ⟨j, oj, hj, haj, hdj, hwj⟩, hy⟩ := ok.store i oi hi hst
    obtain ⟨hv, hinf, h1, hszj⟩ := vl.val i oi ty d y hi ho
    have hw : Region.wanted oi (yielded ops a.tmps) = true := by simp [Region.wanted, hg]
    rw [if_pos hw]
    refine .inl ?_
    obtain ⟨e, he, hb, hej⟩ := waits_spec hwj
    have hlj : listed.getD j false = true := by rw [← hej]; exact hr e he hb
    obtain ⟨hcj, cs, hB, hcs, _⟩ := I.owns j oj d hj haj hlj hdj
    have hx : a.eval (.tmp d) = .pointer (some ⟨c j, 0, none⟩) := by simp [Act.eval, I.alloc j oj d hj haj hlj hdj]
    have hya : a.eval y = .agg (K i) := by
      rw [← hv]
      cases y with
      | tmp t =>
        have ht : t ∈ oi.looksAt ops := mem_looks_op (by rw [ho]; simp [Op.operands])
        have : a.tmps[t]? = A.tmps[t]? := by
          rcases own_sees ok I hi hun hr ht (fun k ok' hk hd => (hy k ok' t hk hd rfl).1) with ⟨_, h2⟩ | ⟨h1', h2⟩
          · exact h2
          · rw [h2, hF t (fun o' ho' hd => by
              obtain ⟨p, hp⟩ := List.getElem?_of_mem (List.mem_filter.1 ho').1
              have hp' : ops[p]? = some o' := by simpa using hp
              obtain ⟨hq', hwp⟩ := hy p o' t hp' hd rfl
              obtain ⟨e', he', hb', rfl⟩ := waits_spec hwp
              exact h1' _ o' (ok.lex i oi hi e' he' hb') hp' hq' hd)]
        simp [Act.eval, this]
      | _ => rfl
    have hth : w.there (c j) 0 (K i).size := by rw [hszj j oj hj haj hdj, ← hcs]; exact hB.isThere
    refine wp_store_mid ty (.tmp d) y ho (c j) 0 (K i) hx hya hth hinf (Array.all_eq_true_iff_forall_mem.2 h1) ?_
    obtain ⟨c', h2, h3, U⟩ := setCells_blk (w := w) (b := c j) (K i).toList 0 cs hB
    have hr' := World.rangeAt_setCells_same w (c j) 0 (K i).toList (by simpa using hth)
    have hc' : c' = K i := by
      apply Array.ext_getElem?
      intro p
      by_cases hp : p < (K i).size
      · have := hr' p (K i)[p] (by simp [hp])
        rw [Nat.zero_add, h2.cell] at this
        rw [this]; simp [hp]
      · rw [Array.getElem?_eq_none (by rw [h3, hcs, ← hszj j oj hj haj hdj]; omega), Array.getElem?_eq_none (by omega)]
    rw [hc'] at h2
    exact ⟨c, I.put_store ok hi ho hun hr hj haj hdj U h2 (hszj j oj hj haj hdj) hlj⟩

def cntOf (n : Nat) (listed : Array Bool) : Nat := ((List.range n).filter fun i => !(listed.getD i false)).length

theorem cnt_set {n : Nat} {listed : Array Bool} {i : Nat} (hi : i < listed.size) (hn : i < n) (hl : listed.getD i false = false) : cntOf n (listed.setIfInBounds i true) < cntOf n listed := by
  unfold cntOf
  have e : (List.range n).filter (fun j => !((listed.setIfInBounds i true).getD j false)) = ((List.range n).filter fun j => !(listed.getD j false)).filter fun j => decide (j ≠ i) := by
    rw [List.filter_filter]
    apply List.filter_congr
    intro j _
    rw [listed_set hi]
    by_cases h : i = j
    · subst h; simp
    · simp [h, Ne.symm h]
  rw [e]
  refine List.length_filter_lt_length_iff_exists.2 ⟨i, List.mem_filter.2 ⟨List.mem_range.2 hn, by rw [hl]; rfl⟩, by simp⟩

theorem all_listed (ok : OwnOK ops a0.tmps.size) (hs : listed.size = ops.size) (h : Region.ready .any ops listed = []) : ∀ i, i < ops.size → listed.getD i false = true := by
  intro i
  induction i using Nat.strongRecOn with
  | ind i ih =>
    intro hi
    apply Classical.byContradiction
    intro hn
    have hoi : ops[i]? = some ops[i] := Array.getElem?_eq_getElem hi
    have hmem : i ∈ Region.ready .any ops listed := mem_ready.2 ⟨by simp [hs, hi] at hn ⊢; exact hn, _, hoi, fun e he hb => ih _ (ok.lex i _ hoi e he hb) (by have := ok.lex i _ hoi e he hb; omega)⟩
    rw [h] at hmem
    cases hmem

theorem own_any {Q : Exit → Act → World → Prop} (ok : OwnOK ops a0.tmps.size) (vl : OwnVal P ops A sz K) (HA : ∀ W1, Below W0.heap.size W0 W1 → wpQuiet P ops (fun u => Below W1.heap.size W1 u) (fun a' => a' = A) (ops.toList.filter quOf) a0)
    (hQ : ∀ listed c a w, OwnInv ops a0 A W0 sz K listed c a w → (∀ i, i < ops.size → listed.getD i false = true) → Q .normal a w) :
    ∀ (fuel : Nat) (listed : Array Bool) (c : Nat → Nat) (a : Act) (w : World), OwnInv ops a0 A W0 sz K listed c a w → cntOf ops.size listed ≤ fuel → wpAny P .any ops Q fuel listed a w
  | 0, listed, c, a, w, I, hc => by
    have hall : ∀ i, i < ops.size → listed.getD i false = true := fun i hi => by
      apply Classical.byContradiction
      intro hn
      have : i ∈ (List.range ops.size).filter fun i => !(listed.getD i false) := List.mem_filter.2 ⟨List.mem_range.2 hi, by simpa using hn⟩
      unfold cntOf at hc
      rw [List.eq_nil_of_length_eq_zero (Nat.le_zero.1 hc)] at this
      cases this
    have hnil : Region.ready .any ops listed = [] := by
      apply List.eq_nil_iff_forall_not_mem.2
      intro i hi
      obtain ⟨hun, oi, hoi, _⟩ := mem_ready.1 hi
      have := hall i (Array.getElem?_eq_some_iff.1 hoi).1
      rw [(unlisted_of I.size hun).2] at this
      cases this
    exact ⟨hnil, hQ _ _ _ _ I hall⟩
  | fuel + 1, listed, c, a, w, I, hc => by
    refine ⟨fun h => hQ _ _ _ _ I (all_listed ok I.size h), fun i hi => wpOp_mono (fun a' w' h => ?_) (own_step ok vl HA I hi)⟩
    obtain ⟨c', I'⟩ := h
    obtain ⟨hun, oi, hoi, _⟩ := mem_ready.1 hi
    have hu := unlisted_of I.size hun
    have := cnt_set hu.1 (Array.getElem?_eq_some_iff.1 hoi).1 hu.2
    exact own_any ok vl HA hQ fuel _ c' a' w' I' (by omega)
end
end Go.Proofs.Ytdbkphkgjaecoaa
