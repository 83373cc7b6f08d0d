/- Several texts as one: Own, Own2, TrE, BtK, NdW. -/
import Derived.Test.YtdmjpmigejpkmaaRow2
import Derived.Deep.Quiet
import Derived.Test.YtdmjpmigejpkmaaZ6
import Derived.Test.YtdmjpmigejpkmaaZ2
import Derived.Deep.CutRange
import Derived.Test.YtdmjpmigejpkmaaVa
import Derived.Test.YtdmjpmigejpkmaaZ5
namespace Go.Proofs.Ytdmjpmigejpkmaa

/-! Own -/
section
set_option linter.unusedVariables false
open Go.RowKit

def alOf (o : Oper) : Bool := match o.op with | .alloc _ => true | _ => false

def stOf (o : Oper) : Bool := match o.op with | .store _ _ _ => true | _ => false

def quOf (o : Oper) : Bool := !alOf o && !stOf o

def waits (o : Oper) (j : Nat) : Bool := o.after.any fun e => Region.binds .any e && e.on == j

theorem exec_alloc {P : Program} {ρ : Operand → Value} {o : Oper} {t : TypeId} (ho : o.op = .alloc t) {Z : Array Value} (hz : ∀ w, (zeroValue t).run P w = .ok (.agg Z) w) (w : World) :
    (execOp ρ o).run P w = .ok (.value (.pointer (some ⟨w.heap.size, 0, none⟩))) (w.alloc (.cells Z t)) := by
  unfold execOp
  simp only [ho]
  simp [Instr.alloc, hz w, go_sem]
section
variable {P : Program} {ops : Array Oper} {C : World → Prop} {A : Act}

theorem put_at {a : Act} {d t : Tmp} {v : Value} : (a.put (some d) v).tmps[t]? = if d = t then (if d < a.tmps.size then some v else none) else a.tmps[t]? := by
  simp only [Act.put, Array.getElem?_setIfInBounds]

theorem put_size {a : Act} {x : Option Tmp} {v : Value} : (a.put x v).tmps.size = a.tmps.size := by
  cases x <;> simp [Act.put]

theorem put_defers {a : Act} {x : Option Tmp} {v : Value} : (a.put x v).defers = a.defers := by cases x <;> rfl

theorem put_other {a : Act} {x : Option Tmp} {v : Value} {t : Tmp} (h : x ≠ some t) : (a.put x v).tmps[t]? = a.tmps[t]? := by
  cases x with
  | none => rfl
  | some d => rw [put_at, if_neg (fun e => h (by rw [e]))]

/-- What the walk's end says of the frame it began with. -/
theorem quiet_final : ∀ (l : List Oper) (a : Act), wpQuiet P ops C (fun a' => a' = A) l a → A.defers = a.defers ∧ A.tmps.size = a.tmps.size ∧ ∀ t, (∀ o ∈ l, o.dst ≠ some t) → A.tmps[t]? = a.tmps[t]?
  | [], a, h => by
    have h : a = A := h
    subst h
    exact ⟨rfl, rfl, fun _ _ => rfl⟩
  | o :: l, a, h => by
    have key : ∀ v, wpQuiet P ops C (fun a' => a' = A) l (a.put o.dst v) → A.defers = a.defers ∧ A.tmps.size = a.tmps.size ∧ ∀ t, (∀ o' ∈ o :: l, o'.dst ≠ some t) → A.tmps[t]? = a.tmps[t]? := fun v hv => by
      obtain ⟨h1, h2, h3⟩ := quiet_final l _ hv
      exact ⟨h1.trans put_defers, h2.trans put_size, fun t ht => (h3 t (fun o' ho' => ht o' (List.mem_cons_of_mem _ ho'))).trans (put_other (ht o (List.mem_cons_self ..)))⟩
    unfold wpQuiet at h
    split at h
    · obtain ⟨v, _, hv⟩ := h
      exact key v hv
    · exact key undef h

/-- Each operation of the walk, in the frame in which it comes up. -/
theorem quiet_at : ∀ (pre : List Oper) (o : Oper) (post : List Oper) (a : Act), wpQuiet P ops C (fun a' => a' = A) (pre ++ o :: post) a →
    (pre ++ o :: post).Pairwise (fun x y => ∀ d, x.dst = some d → y.dst ≠ some d) → (∀ x ∈ pre ++ o :: post, ∀ d, x.dst = some d → d < a.tmps.size) →
    ∃ Ao : Act, Ao.defers = a.defers ∧ Ao.tmps.size = a.tmps.size ∧ (∀ t, (∃ p ∈ pre, p.dst = some t) → Ao.tmps[t]? = A.tmps[t]?) ∧ (∀ t, (∀ p ∈ pre, p.dst ≠ some t) → Ao.tmps[t]? = a.tmps[t]?) ∧
      ∃ v, (∀ d, o.dst = some d → A.tmps[d]? = some v) ∧ ((Region.wanted o (yielded ops Ao.tmps) = true ∧ ∀ w, C w → o.quietAt P Ao C w v) ∨ (Region.wanted o (yielded ops Ao.tmps) = false ∧ v = undef))
  | [], o, post, a, h, hp, hs => by
    refine ⟨a, rfl, rfl, (by rintro t ⟨p, hp, _⟩; cases hp), fun _ _ => rfl, ?_⟩
    have key : ∀ v, wpQuiet P ops C (fun a' => a' = A) post (a.put o.dst v) → ∀ d, o.dst = some d → A.tmps[d]? = some v := fun v hv d hd => by
      obtain ⟨_, _, h3⟩ := quiet_final post _ hv
      rw [h3 d (fun o' ho' => (List.pairwise_cons.1 hp).1 o' ho' d hd), hd, put_at, if_pos rfl, if_pos (hs o (by simp) d hd)]
    have h' : wpQuiet P ops C (fun a' => a' = A) (o :: post) a := h
    unfold wpQuiet at h'
    by_cases hw : Region.wanted o (yielded ops a.tmps) = true
    · rw [if_pos hw] at h'
      obtain ⟨v, h1, hv⟩ := h'
      exact ⟨v, key v hv, .inl ⟨hw, h1⟩⟩
    · rw [if_neg hw] at h'
      exact ⟨undef, key undef h', .inr ⟨by simpa using hw, rfl⟩⟩
  | p :: pre, o, post, a, h, hp, hs => by
    have h' : wpQuiet P ops C (fun a' => a' = A) (p :: (pre ++ o :: post)) a := h
    have key : ∀ u, wpQuiet P ops C (fun a' => a' = A) (pre ++ o :: post) (a.put p.dst u) → ∃ Ao : Act, Ao.defers = a.defers ∧ Ao.tmps.size = a.tmps.size ∧ (∀ t, (∃ q ∈ p :: pre, q.dst = some t) → Ao.tmps[t]? = A.tmps[t]?) ∧ (∀ t, (∀ q ∈ p :: pre, q.dst ≠ some t) → Ao.tmps[t]? = a.tmps[t]?) ∧
        ∃ v, (∀ d, o.dst = some d → A.tmps[d]? = some v) ∧ ((Region.wanted o (yielded ops Ao.tmps) = true ∧ ∀ w, C w → o.quietAt P Ao C w v) ∨ (Region.wanted o (yielded ops Ao.tmps) = false ∧ v = undef)) := fun u hu => by
      obtain ⟨Ao, g1, g2, g3, g4, g5⟩ := quiet_at pre o post (a.put p.dst u) hu (List.pairwise_cons.1 hp).2 (fun x hx d hd => by rw [put_size]; exact hs x (List.mem_cons_of_mem _ hx) d hd)
      refine ⟨Ao, g1.trans put_defers, g2.trans put_size, fun t ht => ?_, fun t ht => ?_, g5⟩
      · by_cases hq : ∃ q ∈ pre, q.dst = some t
        · exact g3 t hq
        · have hq' : ∀ q ∈ pre, q.dst ≠ some t := fun q hq1 hq2 => hq ⟨q, hq1, hq2⟩
          obtain ⟨q, hq1, hq2⟩ := ht
          rcases List.mem_cons.1 hq1 with rfl | hq1
          · obtain ⟨_, _, f3⟩ := quiet_final _ _ hu
            rw [g4 t hq', f3 t (fun x hx => (List.pairwise_cons.1 hp).1 x hx t hq2)]
          · exact absurd hq2 (hq' q hq1)
      · rw [g4 t (fun q hq => ht q (List.mem_cons_of_mem _ hq)), put_other (ht p (List.mem_cons_self ..))]
    unfold wpQuiet at h'
    split at h'
    · obtain ⟨u, _, hu⟩ := h'
      exact key u hu
    · exact key undef h'
end
section
variable {P : Program} {ops : Array Oper}

theorem mem_looks_op {o : Oper} {t : Tmp} (h : Operand.tmp t ∈ o.op.operands) : t ∈ o.looksAt ops :=
  List.mem_append_left _ (List.mem_filterMap.2 ⟨.tmp t, by simpa using h, rfl⟩)

theorem exec_same {o : Oper} {a a' : Act} (hs : ∀ cs b, o.op ≠ .select cs b) (h : ∀ t ∈ o.looksAt ops, a.tmps[t]? = a'.tmps[t]?) : execOp a.eval o = execOp a'.eval o :=
  execOp_congr o hs fun x hx => by
    cases x with
    | tmp t => simp [Act.eval, h t (mem_looks_op hx)]
    | _ => rfl

theorem wanted_same {o : Oper} {a a' : Act} (h : ∀ t ∈ o.looksAt ops, a.tmps[t]? = a'.tmps[t]?) : Region.wanted o (yielded ops a.tmps) = Region.wanted o (yielded ops a'.tmps) := by
  unfold Region.wanted
  cases hg : o.guard with
  | none => rfl
  | some gw =>
    obtain ⟨g, want⟩ := gw
    have hy : yielded ops a.tmps g = yielded ops a'.tmps g := by
      unfold yielded
      cases ht : (ops[g]?).bind (·.dst) with
      | none => rfl
      | some t =>
        have := h t (List.mem_append_right _ (by simp [hg, ht]))
        simp [this]
    simp only [hy]

theorem quietAt_same {o : Oper} {a a' : Act} {C : World → Prop} {w : World} {v : Value} (he : execOp a.eval o = execOp a'.eval o) (h : o.quietAt P a' C w v) : o.quietAt P a C w v := by
  unfold Oper.quietAt at *
  rw [he]; exact h
end

/-- What is asked of the region's text; n: how many slots the frame has. -/
structure OwnOK (ops : Array Oper) (n : Nat) : Prop where
  one : ∀ (i j : Nat) (oi oj : Oper) (d : Tmp), ops[i]? = some oi → ops[j]? = some oj → i ≠ j → oi.dst = some d → oj.dst ≠ some d
  inside : ∀ (i : Nat) (oi : Oper) (d : Tmp), ops[i]? = some oi → oi.dst = some d → d < n
  order : ∀ (i j : Nat) (oi oj : Oper) (d : Tmp), ops[i]? = some oi → ops[j]? = some oj → oj.dst = some d → d ∈ oi.looksAt ops → (waits oi j = true ∧ j < i) ∨ (waits oj i = true ∧ i < j)
  lex : ∀ (i : Nat) (oi : Oper), ops[i]? = some oi → ∀ e ∈ oi.after, Region.binds .any e = true → e.on < i
  sel : ∀ (i : Nat) (oi : Oper) cs b, ops[i]? = some oi → oi.op ≠ .select cs b
  alloc : ∀ (i : Nat) (oi : Oper), ops[i]? = some oi → alOf oi = true → oi.guard = none ∧ ∃ d t, oi.dst = some d ∧ oi.op = .alloc t
  store : ∀ (i : Nat) (oi : Oper), ops[i]? = some oi → stOf oi = true → oi.guard = none ∧ oi.dst = none ∧ ∃ ty d y, oi.op = .store ty (.tmp d) y ∧ (∃ (j : Nat) (oj : Oper), ops[j]? = some oj ∧ alOf oj = true ∧ oj.dst = some d ∧ waits oi j = true) ∧
    ∀ (j : Nat) (oj : Oper) (d' : Tmp), ops[j]? = some oj → oj.dst = some d' → y = .tmp d' → quOf oj = true ∧ waits oi j = true
  apart : ∀ (i j : Nat) (oi oj : Oper) (d : Tmp), ops[i]? = some oi → ops[j]? = some oj → alOf oj = true → oj.dst = some d → quOf oi = true → d ∉ oi.looksAt ops
  once : ∀ (i j : Nat) (oi oj : Oper) (ty ty' : TypeId) (d : Tmp) (y y' : Operand), ops[i]? = some oi → ops[j]? = some oj → oi.op = .store ty (.tmp d) y → oj.op = .store ty' (.tmp d) y' → i = j

/-- What holds while the region runs: c: which block an alloc has made; K: what a store stores. -/
structure OwnInv (ops : Array Oper) (a0 A : Act) (W0 : World) (sz : Nat → Nat) (K : Nat → Array Value) (listed : Array Bool) (c : Nat → Nat) (a : Act) (w : World) : Prop where
  size : listed.size = ops.size
  down : ∀ (i : Nat) (oi : Oper), ops[i]? = some oi → listed.getD i false = true → ∀ e ∈ oi.after, Region.binds .any e = true → listed.getD e.on false = true
  defers : a.defers = a0.defers
  tsize : a.tmps.size = a0.tmps.size
  quiet : ∀ (j : Nat) (oj : Oper) (d : Tmp), ops[j]? = some oj → quOf oj = true → listed.getD j false = true → oj.dst = some d → a.tmps[d]? = A.tmps[d]?
  alloc : ∀ (j : Nat) (oj : Oper) (d : Tmp), ops[j]? = some oj → alOf oj = true → listed.getD j false = true → oj.dst = some d → a.tmps[d]? = some (.pointer (some ⟨c j, 0, none⟩))
  rest : ∀ t : Tmp, (∀ (j : Nat) (oj : Oper), ops[j]? = some oj → listed.getD j false = true → oj.dst ≠ some t) → a.tmps[t]? = a0.tmps[t]?
  below : Below W0.heap.size W0 w
  owns : ∀ (j : Nat) (oj : Oper) (d : Tmp), ops[j]? = some oj → alOf oj = true → listed.getD j false = true → oj.dst = some d → W0.heap.size ≤ c j ∧ ∃ cs, Blk w (c j) cs ∧ cs.size = sz j ∧
    ∀ (s : Nat) (os : Oper) (ty : TypeId) (y : Operand), ops[s]? = some os → os.op = .store ty (.tmp d) y → listed.getD s false = true → cs = K s
  inj : ∀ (i j : Nat) (oi oj : Oper), ops[i]? = some oi → ops[j]? = some oj → alOf oi = true → alOf oj = true → listed.getD i false = true → listed.getD j false = true → i ≠ j → c i ≠ c j

theorem listed_set {listed : Array Bool} {i j : Nat} (hi : i < listed.size) : (listed.setIfInBounds i true).getD j false = (decide (i = j) || listed.getD j false) := by
  by_cases h : i = j
  · subst h; simp [hi]
  · simp [h, Array.getElem?_setIfInBounds_ne h]
section
variable {P : Program} {ops : Array Oper} {a0 A : Act} {W0 : World} {sz : Nat → Nat} {K : Nat → Array Value} {listed : Array Bool} {c : Nat → Nat} {a : Act} {w : World}

theorem unlisted_of (hs : listed.size = ops.size) {i : Nat} (h : listed.getD i true = false) : i < listed.size ∧ listed.getD i false = false := by
  by_cases hi : i < listed.size
  · exact ⟨hi, by simp [hi] at h ⊢; exact h⟩
  · simp [Array.getElem?_eq_none (Nat.le_of_not_lt hi)] at h

theorem waits_spec {o : Oper} {j : Nat} (h : waits o j = true) : ∃ e ∈ o.after, Region.binds .any e = true ∧ e.on = j := by
  unfold waits at h
  obtain ⟨e, he, hb⟩ := Array.any_eq_true'.1 h
  simp only [Bool.and_eq_true, beq_iff_eq] at hb
  exact ⟨e, he, hb.1, hb.2⟩

/-- The quiet operations' walk at operation number i. -/
theorem own_at {C : World → Prop} (ok : OwnOK ops a0.tmps.size) (H : wpQuiet P ops C (fun a' => a' = A) (ops.toList.filter quOf) a0) {i : Nat} {oi : Oper} (hi : ops[i]? = some oi) (hq : quOf oi = true) :
    ∃ Ao : Act, (∀ t, (∃ (j : Nat) (oj : Oper), j < i ∧ ops[j]? = some oj ∧ quOf oj = true ∧ oj.dst = some t) → Ao.tmps[t]? = A.tmps[t]?) ∧
      (∀ t, (∀ (j : Nat) (oj : Oper), j < i → ops[j]? = some oj → quOf oj = true → oj.dst ≠ some t) → Ao.tmps[t]? = a0.tmps[t]?) ∧
      ∃ v, (∀ d, oi.dst = some d → A.tmps[d]? = some v) ∧ ((Region.wanted oi (yielded ops Ao.tmps) = true ∧ ∀ w, C w → oi.quietAt P Ao C w v) ∨ (Region.wanted oi (yielded ops Ao.tmps) = false ∧ v = undef)) := by
  have hlt : i < ops.toList.length := by
    have := (Array.getElem?_eq_some_iff.1 hi).1
    simpa using this
  have hget : ops.toList[i] = oi := by
    have := (Array.getElem?_eq_some_iff.1 hi).2
    simpa using this
  have hl : ops.toList.filter quOf = (ops.toList.take i).filter quOf ++ oi :: (ops.toList.drop (i + 1)).filter quOf := by
    conv => lhs; rw [← List.take_append_drop i ops.toList, List.drop_eq_getElem_cons hlt, hget]
    rw [List.filter_append, List.filter_cons_of_pos hq]
  have hpw : ops.toList.Pairwise (fun x y => ∀ d, x.dst = some d → y.dst ≠ some d) := by
    rw [List.pairwise_iff_getElem]
    intro p q hp hq' hpq d hd
    exact ok.one p q _ _ d (by simp) (by simp) (by omega) hd
  rw [hl] at H
  obtain ⟨Ao, _, _, g3, g4, g5⟩ := quiet_at _ _ _ _ H (by rw [← hl]; exact hpw.filter _) (fun x hx d hd => by
    rw [← hl] at hx
    obtain ⟨p, hp⟩ := List.getElem?_of_mem (List.mem_filter.1 hx).1
    exact ok.inside p x d (by simpa using hp) hd)
  have hmem : ∀ x, x ∈ (ops.toList.take i).filter quOf ↔ ∃ (j : Nat), j < i ∧ ops[j]? = some x ∧ quOf x = true := fun x => by
    rw [List.mem_filter]
    constructor
    · rintro ⟨h1, h2⟩
      obtain ⟨p, hp⟩ := List.getElem?_of_mem h1
      rw [List.getElem?_take] at hp
      split at hp
      · exact ⟨p, by assumption, by simpa using hp, h2⟩
      · cases hp
    · rintro ⟨j, hj, h1, h2⟩
      refine ⟨List.mem_of_getElem? (i := j) ?_, h2⟩
      rw [List.getElem?_take, if_pos hj]
      simpa using h1
  refine ⟨Ao, fun t ht => ?_, fun t ht => ?_, g5⟩
  · obtain ⟨j, oj, hj, h1, h2, h3⟩ := ht
    exact g3 t ⟨oj, (hmem oj).2 ⟨j, hj, h1, h2⟩, h3⟩
  · exact g4 t (fun p hp hd => by
      obtain ⟨j, hj, h1, h2⟩ := (hmem p).1 hp
      exact ht j p hj h1 h2 hd)

theorem kind3 (o : Oper) : quOf o = true ∨ alOf o = true ∨ stOf o = true := by
  unfold quOf
  cases alOf o <;> cases stOf o <;> simp

/-- What a ready operation sees. -/
theorem own_sees (ok : OwnOK ops a0.tmps.size) (I : OwnInv ops a0 A W0 sz K listed c a w) {i : Nat} {oi : Oper} (hi : ops[i]? = some oi) (hun : listed.getD i true = false)
    (hr : ∀ e ∈ oi.after, Region.binds .any e = true → listed.getD e.on false = true) {t : Tmp} (ht : t ∈ oi.looksAt ops) (hal : ∀ (j : Nat) (oj : Oper), ops[j]? = some oj → oj.dst = some t → quOf oj = true) :
    ((∃ (j : Nat) (oj : Oper), j < i ∧ ops[j]? = some oj ∧ quOf oj = true ∧ oj.dst = some t) ∧ a.tmps[t]? = A.tmps[t]?) ∨
    ((∀ (j : Nat) (oj : Oper), j < i → ops[j]? = some oj → quOf oj = true → oj.dst ≠ some t) ∧ a.tmps[t]? = a0.tmps[t]?) := by
  by_cases h : ∃ (j : Nat) (oj : Oper), ops[j]? = some oj ∧ oj.dst = some t
  · obtain ⟨j, oj, hj, hd⟩ := h
    rcases ok.order i j oi oj t hi hj hd ht with ⟨hw, hlt⟩ | ⟨hw, hlt⟩
    · obtain ⟨e, he, hb, rfl⟩ := waits_spec hw
      exact .inl ⟨⟨_, oj, hlt, hj, hal _ oj hj hd, hd⟩, I.quiet _ oj t hj (hal _ oj hj hd) (hr e he hb) hd⟩
    · have hnj : listed.getD j false ≠ true := fun hl => by
        obtain ⟨e, he, hb, rfl⟩ := waits_spec hw
        have := I.down j oj hj hl e he hb
        rw [(unlisted_of I.size hun).2] at this
        cases this
      refine .inr ⟨fun k ok' hk h1 _ h3 => ok.one j k oj ok' t hj h1 (by omega) hd h3, I.rest t fun k ok' h1 h2 h3 => ?_⟩
      by_cases hkj : k = j
      · subst hkj; exact hnj h2
      · exact ok.one j k oj ok' t hj h1 (Ne.symm hkj) hd h3
  · refine .inr ⟨fun k ok' _ h1 _ h3 => h ⟨k, ok', h1, h3⟩, I.rest t fun k ok' h1 _ h3 => h ⟨k, ok', h1, h3⟩⟩

/-- A quiet operation has come up. -/
theorem OwnInv.put_quiet (ok : OwnOK ops a0.tmps.size) (I : OwnInv ops a0 A W0 sz K listed c a w) {i : Nat} {oi : Oper} (hi : ops[i]? = some oi) (hq : quOf oi = true) (hun : listed.getD i true = false)
    (hr : ∀ e ∈ oi.after, Region.binds .any e = true → listed.getD e.on false = true) {v : Value} (hv : ∀ d, oi.dst = some d → A.tmps[d]? = some v) {w' : World} (hw : Below w.heap.size w w') :
    OwnInv ops a0 A W0 sz K (listed.setIfInBounds i true) c (a.put oi.dst v) w' := by
  have hls := (unlisted_of I.size hun).1
  have hset : ∀ j, (listed.setIfInBounds i true).getD j false = true → j ≠ i → listed.getD j false = true := fun j h hne => by
    rw [listed_set hls] at h
    simpa [Ne.symm hne] using h
  have hne : ∀ (j : Nat) (oj : Oper), ops[j]? = some oj → quOf oj ≠ true → j ≠ i := fun j oj hj hn e => by
    subst e; rw [hi] at hj; cases hj; exact hn hq
  refine ⟨by simp [I.size], fun j oj hj hl e he hb => ?_, put_defers.trans I.defers, put_size.trans I.tsize, fun j oj d hj hqj hl hd => ?_, fun j oj d hj haj hl hd => ?_, fun t ht => ?_, I.below.trans (hw.mono I.below.size), fun j oj d hj haj hl hd => ?_, fun p q op oq hp hq' hap haq hlp hlq hne' => ?_⟩
  · rw [listed_set hls]
    by_cases hji : j = i
    · subst hji; rw [hi] at hj; cases hj; simp [hr e he hb]
    · simp [I.down j oj hj (hset j hl hji) e he hb]
  · by_cases hji : j = i
    · subst hji; rw [hi] at hj; cases hj
      rw [hd, put_at, if_pos rfl, if_pos (by rw [I.tsize]; exact ok.inside _ _ d hi hd), hv d hd]
    · rw [put_other (fun h => ok.one i j oi oj d hi hj (Ne.symm hji) h hd)]
      exact I.quiet j oj d hj hqj (hset j hl hji) hd
  · have hji := hne j oj hj (by unfold quOf; simp [haj])
    rw [put_other (fun h => ok.one i j oi oj d hi hj (Ne.symm hji) h hd)]
    exact I.alloc j oj d hj haj (hset j hl hji) hd
  · rw [put_other (fun h => ht i oi hi (by rw [listed_set hls]; simp) h)]
    exact I.rest t fun j oj hj hl => ht j oj hj (by rw [listed_set hls]; simp [hl])
  · have hji := hne j oj hj (by unfold quOf; simp [haj])
    obtain ⟨h1, cs, h2, h3, h4⟩ := I.owns j oj d hj haj (hset j hl hji) hd
    refine ⟨h1, cs, h2.call hw, h3, fun s os ty y hs ho hl' => h4 s os ty y hs ho (hset s hl' ?_)⟩
    exact hne s os hs (by unfold quOf stOf; simp [ho])
  · exact I.inj p q op oq hp hq' hap haq (hset p hlp (hne p op hp (by unfold quOf; simp [hap]))) (hset q hlq (hne q oq hq' (by unfold quOf; simp [haq]))) hne'

/-- An alloc has come up. -/
theorem OwnInv.put_alloc (ok : OwnOK ops a0.tmps.size) (I : OwnInv ops a0 A W0 sz K listed c a w) {i : Nat} {oi : Oper} (hi : ops[i]? = some oi) (hal : alOf oi = true) (hun : listed.getD i true = false)
    (hr : ∀ e ∈ oi.after, Region.binds .any e = true → listed.getD e.on false = true) {Z : Array Value} {t : TypeId} (hz : Z.size = sz i) :
    OwnInv ops a0 A W0 sz K (listed.setIfInBounds i true) (fun j => if j = i then w.heap.size else c j) (a.put oi.dst (.pointer (some ⟨w.heap.size, 0, none⟩))) (w.alloc (.cells Z t)) := by
  have hls := (unlisted_of I.size hun).1
  have hnl := (unlisted_of I.size hun).2
  have hset : ∀ j, (listed.setIfInBounds i true).getD j false = true → j ≠ i → listed.getD j false = true := fun j h hne => by
    rw [listed_set hls] at h
    simpa [Ne.symm hne] using h
  have hne : ∀ (j : Nat) (oj : Oper), ops[j]? = some oj → alOf oj ≠ true → j ≠ i := fun j oj hj hn e => by
    subst e; rw [hi] at hj; cases hj; exact hn hal
  obtain ⟨_, d0, t0, hd0, _⟩ := ok.alloc i oi hi hal
  refine ⟨by simp [I.size], fun j oj hj hl e he hb => ?_, put_defers.trans I.defers, put_size.trans I.tsize, fun j oj d hj hqj hl hd => ?_, fun j oj d hj haj hl hd => ?_, fun t ht => ?_, I.below.alloc I.below.size _, fun j oj d hj haj hl hd => ?_, fun p q op oq hp hq' hap haq hlp hlq hne' => ?_⟩
  · rw [listed_set hls]
    by_cases hji : j = i
    · subst hji; rw [hi] at hj; cases hj; simp [hr e he hb]
    · simp [I.down j oj hj (hset j hl hji) e he hb]
  · have hji := hne j oj hj (by unfold quOf at hqj; simp at hqj; simp [hqj.1])
    rw [put_other (fun h => ok.one i j oi oj d hi hj (Ne.symm hji) h hd)]
    exact I.quiet j oj d hj hqj (hset j hl hji) hd
  · by_cases hji : j = i
    · subst hji; rw [hi] at hj; cases hj
      rw [hd, put_at, if_pos rfl, if_pos (by rw [I.tsize]; exact ok.inside _ _ d hi hd), if_pos rfl]
    · rw [put_other (fun h => ok.one i j oi oj d hi hj (Ne.symm hji) h hd), if_neg hji]
      exact I.alloc j oj d hj haj (hset j hl hji) hd
  · rw [put_other (fun h => ht i oi hi (by rw [listed_set hls]; simp) h)]
    exact I.rest t fun j oj hj hl => ht j oj hj (by rw [listed_set hls]; simp [hl])
  · by_cases hji : j = i
    · subst hji; rw [hi] at hj; cases hj
      rw [if_pos rfl]
      refine ⟨I.below.size, Z, Blk.new rfl, hz, fun s os ty y hs ho hl' => ?_⟩
      have hsi : s ≠ j := hne s os hs (by unfold alOf; simp [ho])
      obtain ⟨_, _, ty', d', y', ho', ⟨k, ok', hk, hak, hdk, hwk⟩, _⟩ := ok.store s os hs (by unfold stOf; rw [ho])
      rw [ho] at ho'
      cases ho'
      have hkj : k = j := Classical.byContradiction fun hc => ok.one k j ok' oi d hk hi hc hdk hd
      subst hkj
      obtain ⟨e, he, hb, he'⟩ := waits_spec hwk
      have := I.down s os hs (hset s hl' hsi) e he hb
      rw [he', hnl] at this
      cases this
    · rw [if_neg hji]
      obtain ⟨h1, cs, h2, h3, h4⟩ := I.owns j oj d hj haj (hset j hl hji) hd
      exact ⟨h1, cs, h2.alloc _, h3, fun s os ty y hs ho hl' => h4 s os ty y hs ho (hset s hl' (hne s os hs (by unfold alOf; simp [ho])))⟩
  · obtain ⟨_, dp, _, hdp, _⟩ := ok.alloc p op hp hap
    obtain ⟨_, dq, _, hdq, _⟩ := ok.alloc q oq hq' haq
    by_cases hpi : p = i
    · have hqi : q ≠ i := fun h => hne' (hpi.trans h.symm)
      obtain ⟨_, cs, h2, _⟩ := I.owns q oq dq hq' haq (hset q hlq hqi) hdq
      rw [if_pos hpi, if_neg hqi]
      exact Ne.symm (Nat.ne_of_lt h2.lt)
    · by_cases hqi : q = i
      · obtain ⟨_, cs, h2, _⟩ := I.owns p op dp hp hap (hset p hlp hpi) hdp
        rw [if_neg hpi, if_pos hqi]
        exact Nat.ne_of_lt h2.lt
      · rw [if_neg hpi, if_neg hqi]
        exact I.inj p q op oq hp hq' hap haq (hset p hlp hpi) (hset q hlq hqi) hne'

/-- A store has come up: what it stores is there. -/
theorem OwnInv.put_store (ok : OwnOK ops a0.tmps.size) (I : OwnInv ops a0 A W0 sz K listed c a w) {i j : Nat} {oi oj : Oper} (hi : ops[i]? = some oi) {ty : TypeId} {d : Tmp} {y : Operand} (ho : oi.op = .store ty (.tmp d) y) (hun : listed.getD i true = false)
    (hr : ∀ e ∈ oi.after, Region.binds .any e = true → listed.getD e.on false = true) (hj : ops[j]? = some oj) (haj : alOf oj = true) (hdj : oj.dst = some d) {w' : World} (U : Upd (c j) w w') (hB : Blk w' (c j) (K i)) (hsz : (K i).size = sz j) (hlj : listed.getD j false = true) :
    OwnInv ops a0 A W0 sz K (listed.setIfInBounds i true) c (a.put oi.dst undef) w' := by
  have hls := (unlisted_of I.size hun).1
  have hset : ∀ j, (listed.setIfInBounds i true).getD j false = true → j ≠ i → listed.getD j false = true := fun j h hne => by
    rw [listed_set hls] at h
    simpa [Ne.symm hne] using h
  have hsi : stOf oi = true := by unfold stOf; rw [ho]
  have hne : ∀ (j : Nat) (oj : Oper), ops[j]? = some oj → stOf oj ≠ true → j ≠ i := fun j oj hj hn e => by
    subst e; rw [hi] at hj; cases hj; exact hn hsi
  obtain ⟨_, hdn, _⟩ := ok.store i oi hi hsi
  rw [hdn]
  obtain ⟨hcj, _⟩ := I.owns j oj d hj haj hlj hdj
  have hal2 : ∀ (o : Oper), alOf o = true → stOf o ≠ true := fun o h => by unfold alOf at h; unfold stOf; cases hop : o.op <;> rw [hop] at h <;> simp at h ⊢
  refine ⟨by simp [I.size], fun p op hp hl e he hb => ?_, I.defers, I.tsize, fun p op d' hp hqp hl hd => ?_, fun p op d' hp hap hl hd => ?_, fun t ht => ?_, U.below I.below hcj, fun p op d' hp hap hl hd => ?_, fun p q op oq hp hq' hap haq hlp hlq hne' => ?_⟩
  · rw [listed_set hls]
    by_cases hpi : p = i
    · subst hpi; rw [hi] at hp; cases hp; simp [hr e he hb]
    · simp [I.down p op hp (hset p hl hpi) e he hb]
  · exact I.quiet p op d' hp hqp (hset p hl (hne p op hp (by unfold quOf at hqp; simp at hqp; simp [hqp.2]))) hd
  · exact I.alloc p op d' hp hap (hset p hl (hne p op hp (hal2 op hap))) hd
  · exact I.rest t fun p op hp hl => ht p op hp (by rw [listed_set hls]; simp [hl])
  · have hlp := hset p hl (hne p op hp (hal2 op hap))
    obtain ⟨h1, cs, h2, h3, h4⟩ := I.owns p op d' hp hap hlp hd
    by_cases hpj : p = j
    · subst hpj
      rw [hj] at hp; cases hp
      rw [hdj] at hd; cases hd
      refine ⟨h1, K i, hB, hsz, fun s os ty' y' hs ho' hl' => ?_⟩
      rw [ok.once s i os oi ty' ty d y' y hs hi ho' ho]
    · refine ⟨h1, cs, U.blk h2 (I.inj p j op oj hp hj hap haj hlp hlj hpj), h3, fun s os ty' y' hs ho' hl' => h4 s os ty' y' hs ho' (hset s hl' fun e => ?_)⟩
      subst e
      rw [hi] at hs; cases hs
      rw [ho] at ho'; cases ho'
      exact ok.one p j op oj d hp hj hpj hd hdj
  · exact I.inj p q op oq hp hq' hap haq (hset p hlp (hne p op hp (hal2 op hap))) (hset q hlq (hne q oq hq' (hal2 oq haq))) hne'

/-- What is asked of the allocs' types and of the stores' values. -/
structure OwnVal (P : Program) (ops : Array Oper) (A : Act) (sz : Nat → Nat) (K : Nat → Array Value) : Prop where
  zero : ∀ (i : Nat) (oi : Oper) (t : TypeId), ops[i]? = some oi → oi.op = .alloc t → ∃ Z : Array Value, (∀ w, (zeroValue t).run P w = .ok (.agg Z) w) ∧ Z.size = sz i
  val : ∀ (s : Nat) (os : Oper) (ty : TypeId) (d : Tmp) (y : Operand), ops[s]? = some os → os.op = .store ty (.tmp d) y → A.eval y = .agg (K s) ∧ (P.info? ty).map (·.size) = some (K s).size ∧ (∀ v ∈ K s, v.oneCell' = true) ∧
    ∀ (j : Nat) (oj : Oper), ops[j]? = some oj → alOf oj = true → oj.dst = some d → (K s).size = sz j

theorem own_step {Q : Exit → Act → World → Prop} (ok : OwnOK ops a0.tmps.size) (vl : OwnVal P ops A sz K) (HA : ∀ W1, Below W0.heap.size W0 W1 → wpQuiet P ops (fun u => Below W1.heap.size W1 u) (fun a' => a' = A) (ops.toList.filter quOf) a0)
    (I : OwnInv ops a0 A W0 sz K listed c a w) {i : Nat} (hrd : i ∈ Region.ready .any ops listed) : wpOp P ops Q i (fun a' w' => ∃ c', OwnInv ops a0 A W0 sz K (listed.setIfInBounds i true) c' a' w') a w := by
  obtain ⟨hun, oi, hi, hr⟩ := mem_ready.1 hrd
  have hF := (quiet_final _ _ (HA w I.below)).2.2
  unfold wpOp
  simp only [hi]
  rcases kind3 oi with hq | hal | hst
  · obtain ⟨Ao, g3, g4, v, hv, hw⟩ := own_at ok (HA w I.below) hi hq
    have sees : ∀ t ∈ oi.looksAt ops, a.tmps[t]? = Ao.tmps[t]? := fun t ht => by
      rcases own_sees ok I hi hun hr ht (fun j oj hj hd => by
        rcases kind3 oj with h | h | h
        · exact h
        · exact absurd ht (ok.apart i j oi oj t hi hj h hd hq)
        · rw [(ok.store j oj hj h).2.1] at hd; cases hd) with ⟨h1, h2⟩ | ⟨h1, h2⟩
      · rw [h2, g3 t h1]
      · rw [h2, g4 t h1]
    have he := exec_same (fun cs b => ok.sel i oi cs b hi) sees
    have hwt := wanted_same sees
    rcases hw with ⟨hw, hat⟩ | ⟨hw, rfl⟩
    · rw [if_pos (hwt.trans hw)]
      refine .inl (Oper.wp_of_quiet (C := fun u => Below w.heap.size w u) (Below.refl _ _) (K := fun a' => a' = a.put oi.dst v) (fun a' w' hC hK' => ?_) ⟨v, fun w1 hw1 => quietAt_same he (hat w1 hw1), rfl⟩)
      rw [hK']
      exact ⟨c, I.put_quiet ok hi hq hun hr hv hC⟩
    · rw [if_neg (by rw [hwt, hw]; simp)]
      exact ⟨c, I.put_quiet ok hi hq hun hr hv (Below.refl _ _)⟩
  · obtain ⟨hg, d, t, hd, ho⟩ := ok.alloc i oi hi hal
    obtain ⟨Z, hz, hsz⟩ := vl.zero i oi t hi ho
    have hw : Region.wanted oi (yielded ops a.tmps) = true := by simp [Region.wanted, hg]
    rw [if_pos hw]
    refine .inl ?_
    unfold Oper.wp
    rw [exec_alloc ho hz]
    simp only [Oper.upon]
    exact ⟨_, I.put_alloc ok hi hal hun hr hsz⟩
  · obtain ⟨hg, hdn, ty, d, y, ho, ⟨j, oj, hj, haj, hdj, hwj⟩, hy⟩ := ok.store i oi hi hst
    obtain ⟨hv, hinf, h1, hszj⟩ := vl.val i oi ty d y hi ho
    have hw : Region.wanted oi (yielded ops a.tmps) = true := by simp [Region.wanted, hg]
    rw [if_pos hw]
    refine .inl ?_
    obtain ⟨e, he, hb, hej⟩ := waits_spec hwj
    have hlj : listed.getD j false = true := by rw [← hej]; exact hr e he hb
    obtain ⟨hcj, cs, hB, hcs, _⟩ := I.owns j oj d hj haj hlj hdj
    have hx : a.eval (.tmp d) = .pointer (some ⟨c j, 0, none⟩) := by simp [Act.eval, I.alloc j oj d hj haj hlj hdj]
    have hya : a.eval y = .agg (K i) := by
      rw [← hv]
      cases y with
      | tmp t =>
        have ht : t ∈ oi.looksAt ops := mem_looks_op (by rw [ho]; simp [Op.operands])
        have : a.tmps[t]? = A.tmps[t]? := by
          rcases own_sees ok I hi hun hr ht (fun k ok' hk hd => (hy k ok' t hk hd rfl).1) with ⟨_, h2⟩ | ⟨h1', h2⟩
          · exact h2
          · rw [h2, hF t (fun o' ho' hd => by
              obtain ⟨p, hp⟩ := List.getElem?_of_mem (List.mem_filter.1 ho').1
              have hp' : ops[p]? = some o' := by simpa using hp
              obtain ⟨hq', hwp⟩ := hy p o' t hp' hd rfl
              obtain ⟨e', he', hb', rfl⟩ := waits_spec hwp
              exact h1' _ o' (ok.lex i oi hi e' he' hb') hp' hq' hd)]
        simp [Act.eval, this]
      | _ => rfl
    have hth : w.there (c j) 0 (K i).size := by rw [hszj j oj hj haj hdj, ← hcs]; exact hB.isThere
    refine wp_store_mid ty (.tmp d) y ho (c j) 0 (K i) hx hya hth hinf (Array.all_eq_true_iff_forall_mem.2 h1) ?_
    obtain ⟨c', h2, h3, U⟩ := setCells_blk (w := w) (b := c j) (K i).toList 0 cs hB
    have hr' := World.rangeAt_setCells_same w (c j) 0 (K i).toList (by simpa using hth)
    have hc' : c' = K i := by
      apply Array.ext_getElem?
      intro p
      by_cases hp : p < (K i).size
      · have := hr' p (K i)[p] (by simp [hp])
        rw [Nat.zero_add, h2.cell] at this
        rw [this]; simp [hp]
      · rw [Array.getElem?_eq_none (by rw [h3, hcs, ← hszj j oj hj haj hdj]; omega), Array.getElem?_eq_none (by omega)]
    rw [hc'] at h2
    exact ⟨c, I.put_store ok hi ho hun hr hj haj hdj U h2 (hszj j oj hj haj hdj) hlj⟩

def cntOf (n : Nat) (listed : Array Bool) : Nat := ((List.range n).filter fun i => !(listed.getD i false)).length

theorem cnt_set {n : Nat} {listed : Array Bool} {i : Nat} (hi : i < listed.size) (hn : i < n) (hl : listed.getD i false = false) : cntOf n (listed.setIfInBounds i true) < cntOf n listed := by
  unfold cntOf
  have e : (List.range n).filter (fun j => !((listed.setIfInBounds i true).getD j false)) = ((List.range n).filter fun j => !(listed.getD j false)).filter fun j => decide (j ≠ i) := by
    rw [List.filter_filter]
    apply List.filter_congr
    intro j _
    rw [listed_set hi]
    by_cases h : i = j
    · subst h; simp
    · simp [h, Ne.symm h]
  rw [e]
  refine List.length_filter_lt_length_iff_exists.2 ⟨i, List.mem_filter.2 ⟨List.mem_range.2 hn, by rw [hl]; rfl⟩, by simp⟩

theorem all_listed (ok : OwnOK ops a0.tmps.size) (hs : listed.size = ops.size) (h : Region.ready .any ops listed = []) : ∀ i, i < ops.size → listed.getD i false = true := by
  intro i
  induction i using Nat.strongRecOn with
  | ind i ih =>
    intro hi
    apply Classical.byContradiction
    intro hn
    have hoi : ops[i]? = some ops[i] := Array.getElem?_eq_getElem hi
    have hmem : i ∈ Region.ready .any ops listed := mem_ready.2 ⟨by simp [hs, hi] at hn ⊢; exact hn, _, hoi, fun e he hb => ih _ (ok.lex i _ hoi e he hb) (by have := ok.lex i _ hoi e he hb; omega)⟩
    rw [h] at hmem
    cases hmem

theorem own_any {Q : Exit → Act → World → Prop} (ok : OwnOK ops a0.tmps.size) (vl : OwnVal P ops A sz K) (HA : ∀ W1, Below W0.heap.size W0 W1 → wpQuiet P ops (fun u => Below W1.heap.size W1 u) (fun a' => a' = A) (ops.toList.filter quOf) a0)
    (hQ : ∀ listed c a w, OwnInv ops a0 A W0 sz K listed c a w → (∀ i, i < ops.size → listed.getD i false = true) → Q .normal a w) :
    ∀ (fuel : Nat) (listed : Array Bool) (c : Nat → Nat) (a : Act) (w : World), OwnInv ops a0 A W0 sz K listed c a w → cntOf ops.size listed ≤ fuel → wpAny P .any ops Q fuel listed a w
  | 0, listed, c, a, w, I, hc => by
    have hall : ∀ i, i < ops.size → listed.getD i false = true := fun i hi => by
      apply Classical.byContradiction
      intro hn
      have : i ∈ (List.range ops.size).filter fun i => !(listed.getD i false) := List.mem_filter.2 ⟨List.mem_range.2 hi, by simpa using hn⟩
      unfold cntOf at hc
      rw [List.eq_nil_of_length_eq_zero (Nat.le_zero.1 hc)] at this
      cases this
    have hnil : Region.ready .any ops listed = [] := by
      apply List.eq_nil_iff_forall_not_mem.2
      intro i hi
      obtain ⟨hun, oi, hoi, _⟩ := mem_ready.1 hi
      have := hall i (Array.getElem?_eq_some_iff.1 hoi).1
      rw [(unlisted_of I.size hun).2] at this
      cases this
    exact ⟨hnil, hQ _ _ _ _ I hall⟩
  | fuel + 1, listed, c, a, w, I, hc => by
    refine ⟨fun h => hQ _ _ _ _ I (all_listed ok I.size h), fun i hi => wpOp_mono (fun a' w' h => ?_) (own_step ok vl HA I hi)⟩
    obtain ⟨c', I'⟩ := h
    obtain ⟨hun, oi, hoi, _⟩ := mem_ready.1 hi
    have hu := unlisted_of I.size hun
    have := cnt_set hu.1 (Array.getElem?_eq_some_iff.1 hoi).1 hu.2
    exact own_any ok vl HA hQ fuel _ c' a' w' I' (by omega)
end
end

/-! Own2 -/
section
set_option linter.unusedVariables false
open Go.RowKit

def pairB (ops : Array Oper) (i j : Nat) (oi oj : Oper) : Bool :=
  (i == j || match oi.dst with | some d => oj.dst != some d | none => true) &&
  (match oj.dst with | some d => (!(oi.looksAt ops).contains d || (waits oi j && decide (j < i)) || (waits oj i && decide (i < j))) && (!(alOf oj && quOf oi) || !(oi.looksAt ops).contains d) | none => true) &&
  (match oi.op with
   | .store _ (.tmp d) y => (i == j || match oj.op with | .store _ (.tmp d') _ => d != d' | _ => true) && (match y with | .tmp t => (match oj.dst with | some d' => d' != t || (quOf oj && waits oi j) | none => true) | _ => true)
   | _ => true)

def soloB (ops : Array Oper) (n i : Nat) (oi : Oper) : Bool :=
  (match oi.dst with | some d => decide (d < n) | none => true) && oi.after.all (fun e => !Region.binds .any e || decide (e.on < i)) &&
  (match oi.op with
   | .select _ _ => false
   | .alloc _ => oi.guard.isNone && oi.dst.isSome
   | .store _ (.tmp d) _ => oi.guard.isNone && oi.dst.isNone && (List.range ops.size).any fun j => match ops[j]? with | some oj => alOf oj && oj.dst == some d && waits oi j | none => false
   | .store _ _ _ => false
   | _ => true)

def ownB (ops : Array Oper) (n : Nat) : Bool := (List.range ops.size).all fun i => match ops[i]? with
  | some oi => soloB ops n i oi && (List.range ops.size).all fun j => match ops[j]? with | some oj => pairB ops i j oi oj | none => true
  | none => true

theorem ownB_solo {ops : Array Oper} {n : Nat} (h : ownB ops n = true) {i : Nat} {oi : Oper} (hi : ops[i]? = some oi) : soloB ops n i oi = true ∧ ∀ (j : Nat) (oj : Oper), ops[j]? = some oj → pairB ops i j oi oj = true := by
  have hlt := (Array.getElem?_eq_some_iff.1 hi).1
  unfold ownB at h
  rw [List.all_eq_true] at h
  have h1 := h i (List.mem_range.2 hlt)
  rw [hi] at h1
  simp only [Bool.and_eq_true, List.all_eq_true] at h1
  refine ⟨h1.1, fun j oj hj => ?_⟩
  have h2 := h1.2 j (List.mem_range.2 (Array.getElem?_eq_some_iff.1 hj).1)
  rw [hj] at h2
  exact h2

theorem own_of {ops : Array Oper} {n : Nat} (h : ownB ops n = true) : OwnOK ops n := by
  have solo : ∀ (i : Nat) (oi : Oper), ops[i]? = some oi → soloB ops n i oi = true := fun i oi hi => (ownB_solo h hi).1
  have pair : ∀ (i j : Nat) (oi oj : Oper), ops[i]? = some oi → ops[j]? = some oj → pairB ops i j oi oj = true := fun i j oi oj hi hj => (ownB_solo h hi).2 j oj hj
  refine ⟨fun i j oi oj d hi hj hne hd => ?_, fun i oi d hi hd => ?_, fun i j oi oj d hi hj hd hl => ?_, fun i oi hi e he hb => ?_, fun i oi cs b hi ho => ?_, fun i oi hi ha => ?_, fun i oi hi hs => ?_, fun i j oi oj d hi hj ha hd hq hl => ?_, fun i j oi oj ty ty' d y y' hi hj ho ho' => ?_⟩
  · have := pair i j oi oj hi hj
    unfold pairB at this
    simp only [Bool.and_eq_true, hd] at this
    simpa [hne] using this.1.1
  · have := solo i oi hi
    unfold soloB at this
    simp only [Bool.and_eq_true, hd, decide_eq_true_eq] at this
    exact this.1.1
  · have := pair i j oi oj hi hj
    unfold pairB at this
    simp only [Bool.and_eq_true, hd] at this
    have h2 := this.1.2.1
    simpa [hl] using h2
  · have := solo i oi hi
    unfold soloB at this
    simp only [Bool.and_eq_true] at this
    have h2 := Array.all_eq_true_iff_forall_mem.1 this.1.2 e he
    simpa [hb] using h2
  · have := solo i oi hi
    unfold soloB at this
    rw [ho] at this
    simp at this
  · have := solo i oi hi
    unfold soloB at this
    unfold alOf at ha
    cases hop : oi.op <;> rw [hop] at ha <;> simp at ha
    rw [hop] at this
    simp only [Bool.and_eq_true, Option.isNone_iff_eq_none, Option.isSome_iff_exists] at this
    obtain ⟨d, hd⟩ := this.2.2
    exact ⟨this.2.1, d, _, hd, rfl⟩
  · have hsolo := solo i oi hi
    unfold soloB at hsolo
    unfold stOf at hs
    cases hop : oi.op <;> rw [hop] at hs <;> simp at hs
    rename_i ty x y
    rw [hop] at hsolo
    cases x with
    | tmp d =>
      simp only [Bool.and_eq_true, Option.isNone_iff_eq_none, List.any_eq_true] at hsolo
      obtain ⟨_, ⟨hg, hdn⟩, j, hjm, hj⟩ := hsolo
      refine ⟨hg, hdn, ty, d, y, rfl, ?_, fun k ok hk d' hd' hy => ?_⟩
      · cases hoj : ops[j]? with
        | none => rw [hoj] at hj; simp at hj
        | some oj =>
          rw [hoj] at hj
          simp only [Bool.and_eq_true, beq_iff_eq] at hj
          exact ⟨j, oj, hoj, hj.1.1, hj.1.2, hj.2⟩
      · have := pair i k oi ok hi d'
        unfold pairB at this
        rw [hop, hy, hd'] at this
        simp only [Bool.and_eq_true] at this
        have h2 := this.2.2
        simpa using h2
    | _ => simp at hsolo
  · have := pair i j oi oj hi hj
    unfold pairB at this
    simp only [Bool.and_eq_true, hd] at this
    have h2 := this.1.2.2
    simp [ha, hq, hl] at h2
  · have := pair i j oi oj hi hj
    unfold pairB at this
    rw [ho] at this
    simp only [Bool.and_eq_true, ho'] at this
    have h2 := this.2.1
    simpa using h2

theorem wp_region_own {P : Program} {l : List Oper} {id : Nat} {Q : Exit → Act → World → Prop} {a0 : Act} {w : World} {A : Act} {sz : Nat → Nat} {K : Nat → Array Value} (hm : P.follows .mixedOrders = true) (hB : ownB l.toArray a0.tmps.size = true)
    (HA : ∀ W1, Below w.heap.size w W1 → ∀ (T : Type) (F : T → World), Nonempty T → (∀ t, Below W1.heap.size W1 (F t)) → (∀ w', Below W1.heap.size W1 w' → ∃ t, w' = F t) →
      wpQuiet P l.toArray (fun w' => ∃ t, w' = F t) (fun a' => a' = A) (l.filter quOf) a0)
    (vl : OwnVal P l.toArray A sz K)
    (hQ : ∀ (c : Nat → Nat) (a' : Act) (w' : World), a'.defers = A.defers → a'.tmps.size = A.tmps.size → (∀ t : Tmp, (∀ (j : Nat) (oj : Oper), l[j]? = some oj → alOf oj = true → oj.dst ≠ some t) → a'.tmps[t]? = A.tmps[t]?) →
      (∀ (j : Nat) (oj : Oper) (d : Tmp), l[j]? = some oj → alOf oj = true → oj.dst = some d → a'.tmps[d]? = some (.pointer (some ⟨c j, 0, none⟩)) ∧ d < A.tmps.size) → Below w.heap.size w w' →
      (∀ (j s : Nat) (oj os : Oper) (d : Tmp) (ty : TypeId) (y : Operand), l[j]? = some oj → alOf oj = true → oj.dst = some d → l[s]? = some os → os.op = .store ty (.tmp d) y → w.heap.size ≤ c j ∧ Blk w' (c j) (K s)) →
      (∀ (i j : Nat) (oi oj : Oper), l[i]? = some oi → l[j]? = some oj → alOf oi = true → alOf oj = true → i ≠ j → c i ≠ c j) → Q .normal a' w') :
    (Code.region id l.toArray true).wp P Q a0 w := by
  have ok := own_of hB
  have HA' : ∀ W1, Below w.heap.size w W1 → wpQuiet P l.toArray (fun u => Below W1.heap.size W1 u) (fun a' => a' = A) (l.toArray.toList.filter quOf) a0 := fun W1 hW1 => by
    have h := HA W1 hW1 {u // Below W1.heap.size W1 u} Subtype.val ⟨⟨W1, Below.refl _ _⟩⟩ (fun t => t.2) (fun w' h => ⟨⟨w', h⟩, rfl⟩)
    have e : (fun w' => ∃ t : {u // Below W1.heap.size W1 u}, w' = t.val) = fun u => Below W1.heap.size W1 u := by
      funext u
      apply propext
      exact ⟨fun ⟨t, ht⟩ => ht ▸ t.2, fun h => ⟨⟨u, h⟩, rfl⟩⟩
    rw [e] at h
    simpa using h
  have hF := quiet_final _ _ (HA' w (Below.refl _ _))
  refine wp_region_any hm (own_any (W0 := w) ok vl HA' (fun listed c a w' I hall => ?_) _ _ (fun _ => 0) a0 _ ?_ ?_)
  · have hget : ∀ (j : Nat) (oj : Oper), l[j]? = some oj → l.toArray[j]? = some oj := fun j oj h => by simpa using h
    have hl : ∀ (j : Nat) (oj : Oper), l[j]? = some oj → listed.getD j false = true := fun j oj h => hall j (by have := (List.getElem?_eq_some_iff.1 h).1; simpa using this)
    refine hQ c a w' (I.defers.trans hF.1.symm) (I.tsize.trans hF.2.1.symm) (fun t ht => ?_) (fun j oj d hj haj hd => ⟨I.alloc j oj d (hget j oj hj) haj (hl j oj hj) hd, by rw [hF.2.1]; exact ok.inside j oj d (hget j oj hj) hd⟩) I.below (fun j s oj os d ty y hj haj hd hs ho => ?_) (fun i j oi oj hi hj hai haj hne => I.inj i j oi oj (hget i oi hi) (hget j oj hj) hai haj (hl i oi hi) (hl j oj hj) hne)
    · by_cases hq : ∃ (j : Nat) (oj : Oper), l[j]? = some oj ∧ quOf oj = true ∧ oj.dst = some t
      · obtain ⟨j, oj, hj, hqj, hd⟩ := hq
        exact I.quiet j oj t (hget j oj hj) hqj (hl j oj hj) hd
      · have hno : ∀ (j : Nat) (oj : Oper), l[j]? = some oj → oj.dst ≠ some t := fun j oj hj hd => by
          rcases kind3 oj with h | h | h
          · exact hq ⟨j, oj, hj, h, hd⟩
          · exact ht j oj hj h hd
          · rw [(ok.store j oj (hget j oj hj) h).2.1] at hd; cases hd
        rw [I.rest t (fun j oj hj _ => hno j oj (by simpa using hj)), hF.2.2 t (fun o ho hd => by
          obtain ⟨p, hp⟩ := List.getElem?_of_mem (List.mem_filter.1 ho).1
          exact hno p o (by simpa using hp) hd)]
    · obtain ⟨h1, cs, h2, _, h4⟩ := I.owns j oj d (hget j oj hj) haj (hl j oj hj) hd
      rw [h4 s os ty y (hget s os hs) ho (hl s os hs)] at h2
      exact ⟨h1, h2⟩
  · have hno : ∀ j, (Array.replicate l.toArray.size false).getD j false ≠ true := fun j => by
      by_cases hj : j < l.toArray.size
      · simp at hj; simp [hj]
      · simp at hj; simp [hj]
    exact ⟨by simp, fun i oi _ hl => absurd hl (hno i), rfl, rfl, fun j oj d _ _ hl => absurd hl (hno j), fun j oj d _ _ hl => absurd hl (hno j), fun _ _ => rfl, ⟨rfl, rfl, rfl, Nat.le_refl _, fun _ _ => rfl⟩, fun j oj d _ _ hl => absurd hl (hno j), fun i j oi oj _ _ _ _ hl => absurd hl (hno i)⟩
  · unfold cntOf
    exact Nat.le_trans (List.length_filter_le _ _) (by simp)

theorem act_ext {a b : Act} (hd : a.defers = b.defers) (hs : a.tmps.size = b.tmps.size) (h : ∀ t : Nat, a.tmps[t]? = b.tmps[t]?) : a = b := by
  cases a; cases b
  simp only at *
  subst hd
  congr 1
  exact Array.ext_getElem? h

def alsOf (l : List Oper) : List Nat := (List.range l.length).filter fun i => match l[i]? with | some o => alOf o | none => false

def stsOf (l : List Oper) : List Nat := (List.range l.length).filter fun i => match l[i]? with | some o => stOf o | none => false

theorem mem_als {l : List Oper} {i : Nat} {o : Oper} (hi : l[i]? = some o) (h : alOf o = true) : i ∈ alsOf l :=
  List.mem_filter.2 ⟨List.mem_range.2 (List.getElem?_eq_some_iff.1 hi).1, by rw [hi]; exact h⟩

theorem mem_sts {l : List Oper} {i : Nat} {o : Oper} (hi : l[i]? = some o) (h : stOf o = true) : i ∈ stsOf l :=
  List.mem_filter.2 ⟨List.mem_range.2 (List.getElem?_eq_some_iff.1 hi).1, by rw [hi]; exact h⟩

/-- One variable. -/
theorem wp_region_own1 {P : Program} {l : List Oper} {id : Nat} {Q : Exit → Act → World → Prop} {a0 : Act} {w : World} {A : Act} (j s : Nat) {d : Tmp} {t ty : TypeId} {y : Operand} (K Z : Array Value) (hm : P.follows .mixedOrders = true) (hB : ownB l.toArray a0.tmps.size = true)
    (hal : alsOf l = [j]) (hst : stsOf l = [s]) (hj : (l[j]?).map (fun o => (o.dst, o.op)) = some (some d, .alloc t)) (hs : (l[s]?).map (·.op) = some (.store ty (.tmp d) y))
    (hz : ∀ w, (zeroValue t).run P w = .ok (.agg Z) w) (hsz : Z.size = K.size) (hi : (P.info? ty).map (·.size) = some K.size) (h1 : ∀ v ∈ K, v.oneCell' = true)
    (HA : ∀ W1, Below w.heap.size w W1 → ∀ (T : Type) (F : T → World), Nonempty T → (∀ t, Below W1.heap.size W1 (F t)) → (∀ w', Below W1.heap.size W1 w' → ∃ t, w' = F t) →
      wpQuiet P l.toArray (fun w' => ∃ t, w' = F t) (fun a' => a' = A) (l.filter quOf) a0)
    (hy : A.eval y = .agg K)
    (hQ : ∀ (b : Nat) (w' : World), w.heap.size ≤ b → Below w.heap.size w w' → Blk w' b K → Q .normal (A.put (some d) (.pointer (some ⟨b, 0, none⟩))) w') :
    (Code.region id l.toArray true).wp P Q a0 w := by
  obtain ⟨oj, hoj, hoj'⟩ := Option.map_eq_some_iff.1 hj
  obtain ⟨os, hos, hos'⟩ := Option.map_eq_some_iff.1 hs
  simp only [Prod.mk.injEq] at hoj'
  have haj : alOf oj = true := by unfold alOf; rw [hoj'.2]
  have oneA : ∀ (i : Nat) (oi : Oper), l[i]? = some oi → alOf oi = true → i = j ∧ oi = oj := fun i oi h ha => by
    have hm' := mem_als h ha
    rw [hal] at hm'
    obtain rfl : i = j := by simpa using hm'
    rw [hoj] at h; cases h; exact ⟨rfl, rfl⟩
  have oneS : ∀ (i : Nat) (oi : Oper), l[i]? = some oi → stOf oi = true → i = s ∧ oi = os := fun i oi h ha => by
    have hm' := mem_sts h ha
    rw [hst] at hm'
    obtain rfl : i = s := by simpa using hm'
    rw [hos] at h; cases h; exact ⟨rfl, rfl⟩
  refine wp_region_own (A := A) (sz := fun _ => K.size) (K := fun _ => K) hm hB HA ⟨fun i oi t' h ho => ?_, fun i oi ty' d' y' h ho => ?_⟩ (fun c a' w' g1 g2 g3 g4 g5 g6 _ => ?_)
  · obtain ⟨rfl, rfl⟩ := oneA i oi (by simpa using h) (by unfold alOf; rw [ho])
    rw [hoj'.2] at ho; cases ho
    exact ⟨Z, hz, hsz⟩
  · obtain ⟨rfl, rfl⟩ := oneS i oi (by simpa using h) (by unfold stOf; rw [ho])
    rw [hos'] at ho; cases ho
    exact ⟨hy, hi, h1, fun _ _ _ _ _ => rfl⟩
  · obtain ⟨p1, p2⟩ := g4 j oj d hoj haj hoj'.1
    obtain ⟨q1, q2⟩ := g6 j s oj os d ty y hoj haj hoj'.1 hos hos'
    have e : a' = A.put (some d) (.pointer (some ⟨c j, 0, none⟩)) := act_ext (g1.trans put_defers.symm) (g2.trans put_size.symm) fun t' => by
      rw [put_at]
      by_cases h : d = t'
      · subst h; rw [if_pos rfl, if_pos p2, p1]
      · rw [if_neg h]
        exact g3 t' fun i oi hi' ha hd => by
          obtain ⟨rfl, rfl⟩ := oneA i oi hi' ha
          rw [hoj'.1] at hd; cases hd; exact h rfl
    rw [e]
    exact hQ _ w' q1 g5 q2

/-- Two variables. -/
theorem wp_region_own2 {P : Program} {l : List Oper} {id : Nat} {Q : Exit → Act → World → Prop} {a0 : Act} {w : World} {A : Act} (j1 s1 j2 s2 : Nat) {d1 d2 : Tmp} {t1 ty1 t2 ty2 : TypeId} {y1 y2 : Operand} (K1 Z1 K2 Z2 : Array Value) (hm : P.follows .mixedOrders = true) (hB : ownB l.toArray a0.tmps.size = true)
    (hal : alsOf l = [j1, j2]) (hst : stsOf l = [s1, s2]) (hne : j1 ≠ j2 ∧ s1 ≠ s2) (hj1 : (l[j1]?).map (fun o => (o.dst, o.op)) = some (some d1, .alloc t1)) (hs1 : (l[s1]?).map (·.op) = some (.store ty1 (.tmp d1) y1))
    (hj2 : (l[j2]?).map (fun o => (o.dst, o.op)) = some (some d2, .alloc t2)) (hs2 : (l[s2]?).map (·.op) = some (.store ty2 (.tmp d2) y2))
    (hz1 : ∀ w, (zeroValue t1).run P w = .ok (.agg Z1) w) (hsz1 : Z1.size = K1.size) (hi1 : (P.info? ty1).map (·.size) = some K1.size) (h11 : ∀ v ∈ K1, v.oneCell' = true)
    (hz2 : ∀ w, (zeroValue t2).run P w = .ok (.agg Z2) w) (hsz2 : Z2.size = K2.size) (hi2 : (P.info? ty2).map (·.size) = some K2.size) (h12 : ∀ v ∈ K2, v.oneCell' = true)
    (HA : ∀ W1, Below w.heap.size w W1 → ∀ (T : Type) (F : T → World), Nonempty T → (∀ t, Below W1.heap.size W1 (F t)) → (∀ w', Below W1.heap.size W1 w' → ∃ t, w' = F t) →
      wpQuiet P l.toArray (fun w' => ∃ t, w' = F t) (fun a' => a' = A) (l.filter quOf) a0)
    (hy1 : A.eval y1 = .agg K1) (hy2 : A.eval y2 = .agg K2)
    (hQ : ∀ (b1 b2 : Nat) (w' : World), b1 ≠ b2 → w.heap.size ≤ b1 → w.heap.size ≤ b2 → Below w.heap.size w w' → Blk w' b1 K1 → Blk w' b2 K2 → Q .normal ((A.put (some d1) (.pointer (some ⟨b1, 0, none⟩))).put (some d2) (.pointer (some ⟨b2, 0, none⟩))) w') :
    (Code.region id l.toArray true).wp P Q a0 w := by
  obtain ⟨oj1, hoj1, hoj1'⟩ := Option.map_eq_some_iff.1 hj1
  obtain ⟨os1, hos1, hos1'⟩ := Option.map_eq_some_iff.1 hs1
  obtain ⟨oj2, hoj2, hoj2'⟩ := Option.map_eq_some_iff.1 hj2
  obtain ⟨os2, hos2, hos2'⟩ := Option.map_eq_some_iff.1 hs2
  simp only [Prod.mk.injEq] at hoj1' hoj2'
  have haj1 : alOf oj1 = true := by unfold alOf; rw [hoj1'.2]
  have haj2 : alOf oj2 = true := by unfold alOf; rw [hoj2'.2]
  have ok := own_of hB
  have hdne : d1 ≠ d2 := fun e => by
    have := ok.one j1 j2 oj1 oj2 d1 (by simpa using hoj1) (by simpa using hoj2) hne.1 hoj1'.1
    rw [hoj2'.1, e] at this
    exact this rfl
  have oneA : ∀ (i : Nat) (oi : Oper), l[i]? = some oi → alOf oi = true → (i = j1 ∧ oi = oj1) ∨ (i = j2 ∧ oi = oj2) := fun i oi h ha => by
    have hm' := mem_als h ha
    rw [hal] at hm'
    have : i = j1 ∨ i = j2 := by simpa using hm'
    rcases this with rfl | rfl
    · rw [hoj1] at h; cases h; exact .inl ⟨rfl, rfl⟩
    · rw [hoj2] at h; cases h; exact .inr ⟨rfl, rfl⟩
  have oneS : ∀ (i : Nat) (oi : Oper), l[i]? = some oi → stOf oi = true → (i = s1 ∧ oi = os1) ∨ (i = s2 ∧ oi = os2) := fun i oi h ha => by
    have hm' := mem_sts h ha
    rw [hst] at hm'
    have : i = s1 ∨ i = s2 := by simpa using hm'
    rcases this with rfl | rfl
    · rw [hos1] at h; cases h; exact .inl ⟨rfl, rfl⟩
    · rw [hos2] at h; cases h; exact .inr ⟨rfl, rfl⟩
  refine wp_region_own (A := A) (sz := fun i => if i = j1 then K1.size else K2.size) (K := fun i => if i = s1 then K1 else K2) hm hB HA ⟨fun i oi t' h ho => ?_, fun i oi ty' d' y' h ho => ?_⟩ (fun c a' w' g1 g2 g3 g4 g5 g6 g7 => ?_)
  · rcases oneA i oi (by simpa using h) (by unfold alOf; rw [ho]) with ⟨rfl, rfl⟩ | ⟨rfl, rfl⟩
    · rw [hoj1'.2] at ho; cases ho
      exact ⟨Z1, hz1, by rw [if_pos rfl]; exact hsz1⟩
    · rw [hoj2'.2] at ho; cases ho
      exact ⟨Z2, hz2, by rw [if_neg (Ne.symm hne.1)]; exact hsz2⟩
  · rcases oneS i oi (by simpa using h) (by unfold stOf; rw [ho]) with ⟨rfl, rfl⟩ | ⟨rfl, rfl⟩
    · rw [hos1'] at ho; cases ho
      refine ⟨by rw [if_pos rfl]; exact hy1, by rw [if_pos rfl]; exact hi1, by rw [if_pos rfl]; exact h11, fun k ok' hk hak hdk => ?_⟩
      rcases oneA k ok' (by simpa using hk) hak with ⟨rfl, rfl⟩ | ⟨rfl, rfl⟩
      · rw [if_pos rfl, if_pos rfl]
      · rw [hoj2'.1] at hdk; cases hdk; exact absurd rfl hdne
    · rw [hos2'] at ho; cases ho
      refine ⟨by rw [if_neg (Ne.symm hne.2)]; exact hy2, by rw [if_neg (Ne.symm hne.2)]; exact hi2, by rw [if_neg (Ne.symm hne.2)]; exact h12, fun k ok' hk hak hdk => ?_⟩
      rcases oneA k ok' (by simpa using hk) hak with ⟨rfl, rfl⟩ | ⟨rfl, rfl⟩
      · rw [hoj1'.1] at hdk; cases hdk; exact absurd rfl hdne
      · rw [if_neg (Ne.symm hne.1), if_neg (Ne.symm hne.2)]
  · obtain ⟨p1, p2⟩ := g4 j1 oj1 d1 hoj1 haj1 hoj1'.1
    obtain ⟨p3, p4⟩ := g4 j2 oj2 d2 hoj2 haj2 hoj2'.1
    obtain ⟨q1, q2⟩ := g6 j1 s1 oj1 os1 d1 ty1 y1 hoj1 haj1 hoj1'.1 hos1 hos1'
    obtain ⟨q3, q4⟩ := g6 j2 s2 oj2 os2 d2 ty2 y2 hoj2 haj2 hoj2'.1 hos2 hos2'
    rw [if_pos rfl] at q2
    rw [if_neg (Ne.symm hne.2)] at q4
    have e : a' = (A.put (some d1) (.pointer (some ⟨c j1, 0, none⟩))).put (some d2) (.pointer (some ⟨c j2, 0, none⟩)) := act_ext (g1.trans (put_defers.trans put_defers).symm) (g2.trans (put_size.trans put_size).symm) fun t' => by
      rw [put_at, put_at, put_size]
      by_cases h2 : d2 = t'
      · subst h2; rw [if_pos rfl, if_pos p4, p3]
      · rw [if_neg h2]
        by_cases h : d1 = t'
        · subst h; rw [if_pos rfl, if_pos p2, p1]
        · rw [if_neg h]
          exact g3 t' fun i oi hi' ha hd => by
            rcases oneA i oi hi' ha with ⟨rfl, rfl⟩ | ⟨rfl, rfl⟩
            · rw [hoj1'.1] at hd; cases hd; exact h rfl
            · rw [hoj2'.1] at hd; cases hd; exact h2 rfl
    rw [e]
    exact hQ _ _ w' (g7 j1 j2 oj1 oj2 hoj1 hoj2 haj1 haj2 hne.1) q1 q3 g5 q2 q4

/-- .. the frame at the walk's end is found by the walk: 'apply Exists.intro; refine ⟨?HA, ?h1, ?hQ⟩'. -/
theorem own1 {P : Program} {l : List Oper} {id : Nat} {Q : Exit → Act → World → Prop} {a0 : Act} {w : World} (j s : Nat) {d : Tmp} {t ty : TypeId} {y : Operand} (K Z : Array Value) (hm : P.follows .mixedOrders = true) (hB : ownB l.toArray a0.tmps.size = true)
    (hal : alsOf l = [j]) (hst : stsOf l = [s]) (hj : (l[j]?).map (fun o => (o.dst, o.op)) = some (some d, .alloc t)) (hs : (l[s]?).map (·.op) = some (.store ty (.tmp d) y))
    (hz : ∀ w, (zeroValue t).run P w = .ok (.agg Z) w) (hsz : Z.size = K.size) (hi : (P.info? ty).map (·.size) = some K.size) (h1 : ∀ v ∈ K, v.oneCell' = true)
    (h : ∃ A : Act, (∀ W1, Below w.heap.size w W1 → ∀ (T : Type) (F : T → World), Nonempty T → (∀ t, Below W1.heap.size W1 (F t)) → (∀ w', Below W1.heap.size W1 w' → ∃ t, w' = F t) →
        wpQuiet P l.toArray (fun w' => ∃ t, w' = F t) (fun a' => a' = A) (l.filter quOf) a0) ∧ A.eval y = .agg K ∧
      ∀ (b : Nat) (w' : World), w.heap.size ≤ b → Below w.heap.size w w' → Blk w' b K → Q .normal (A.put (some d) (.pointer (some ⟨b, 0, none⟩))) w') :
    (Code.region id l.toArray true).wp P Q a0 w := by
  obtain ⟨A, HA, hy, hQ⟩ := h
  exact wp_region_own1 (A := A) j s K Z hm hB hal hst hj hs hz hsz hi h1 HA hy hQ

theorem own2 {P : Program} {l : List Oper} {id : Nat} {Q : Exit → Act → World → Prop} {a0 : Act} {w : World} (j1 s1 j2 s2 : Nat) {d1 d2 : Tmp} {t1 ty1 t2 ty2 : TypeId} {y1 y2 : Operand} (K1 Z1 K2 Z2 : Array Value) (hm : P.follows .mixedOrders = true) (hB : ownB l.toArray a0.tmps.size = true)
    (hal : alsOf l = [j1, j2]) (hst : stsOf l = [s1, s2]) (hne : j1 ≠ j2 ∧ s1 ≠ s2) (hj1 : (l[j1]?).map (fun o => (o.dst, o.op)) = some (some d1, .alloc t1)) (hs1 : (l[s1]?).map (·.op) = some (.store ty1 (.tmp d1) y1))
    (hj2 : (l[j2]?).map (fun o => (o.dst, o.op)) = some (some d2, .alloc t2)) (hs2 : (l[s2]?).map (·.op) = some (.store ty2 (.tmp d2) y2))
    (hz1 : ∀ w, (zeroValue t1).run P w = .ok (.agg Z1) w) (hsz1 : Z1.size = K1.size) (hi1 : (P.info? ty1).map (·.size) = some K1.size) (h11 : ∀ v ∈ K1, v.oneCell' = true)
    (hz2 : ∀ w, (zeroValue t2).run P w = .ok (.agg Z2) w) (hsz2 : Z2.size = K2.size) (hi2 : (P.info? ty2).map (·.size) = some K2.size) (h12 : ∀ v ∈ K2, v.oneCell' = true)
    (h : ∃ A : Act, (∀ W1, Below w.heap.size w W1 → ∀ (T : Type) (F : T → World), Nonempty T → (∀ t, Below W1.heap.size W1 (F t)) → (∀ w', Below W1.heap.size W1 w' → ∃ t, w' = F t) →
        wpQuiet P l.toArray (fun w' => ∃ t, w' = F t) (fun a' => a' = A) (l.filter quOf) a0) ∧ A.eval y1 = .agg K1 ∧ A.eval y2 = .agg K2 ∧
      ∀ (b1 b2 : Nat) (w' : World), b1 ≠ b2 → w.heap.size ≤ b1 → w.heap.size ≤ b2 → Below w.heap.size w w' → Blk w' b1 K1 → Blk w' b2 K2 → Q .normal ((A.put (some d1) (.pointer (some ⟨b1, 0, none⟩))).put (some d2) (.pointer (some ⟨b2, 0, none⟩))) w') :
    (Code.region id l.toArray true).wp P Q a0 w := by
  obtain ⟨A, HA, hy1, hy2, hQ⟩ := h
  exact wp_region_own2 (A := A) j1 s1 j2 s2 K1 Z1 K2 Z2 hm hB hal hst hne hj1 hs1 hj2 hs2 hz1 hsz1 hi1 h11 hz2 hsz2 hi2 h12 HA hy1 hy2 hQ
end

/-! TrE -/
section
set_option linter.unusedVariables false
set_option linter.unusedSimpArgs false
open Go.RowKit

set_option maxRecDepth 100000

/-- A block of which only these fields are set. -/
def bk4 (slot : Int) (root parent payload : List Int) : BkD := ⟨⟨0, zeroR⟩, ⟨0, zeroR⟩, slot, root, parent, payload, 0, 0, ⟨0, zeroR⟩, ⟨0, zeroR⟩, false⟩

theorem bk4_ok {slot : Int} {root parent payload : List Int} (h1 : 0 ≤ slot ∧ slot ≤ 18446744073709551615) (h2 : IsBytes 32 root) (h3 : IsBytes 32 parent) (h4 : IsBytes 32 payload) : (bk4 slot root parent payload).ok :=
  ⟨⟨by show (0 : Int) ≤ 0; omega, by show (0 : Int) ≤ _; omega, zeroR_is⟩, ⟨by show (0 : Int) ≤ 0; omega, by show (0 : Int) ≤ _; omega, zeroR_is⟩, h1, h2, h3, h4, W256.zero, W256.zero, ⟨by show (0 : Int) ≤ 0; omega, by show (0 : Int) ≤ _; omega, zeroR_is⟩, ⟨by show (0 : Int) ≤ 0; omega, by show (0 : Int) ≤ _; omega, zeroR_is⟩⟩

def zeBk10 : List (List Value) := [(.int .u64 0 :: bytesL zeroR) ++ (.int .u64 0 :: bytesL zeroR), [.int .u64 0], bytesL zeroR, bytesL zeroR, bytesL zeroR, List.replicate 4 (.int .u64 0), List.replicate 4 (.int .u64 0), .int .u64 0 :: bytesL zeroR, .int .u64 0 :: bytesL zeroR, [.bool false]]

theorem zeBk_hz (w : World) : (zeroValue 39).run Try.prog w = .ok (.agg (flatP zeBk10)) w := by kernel_rfl

theorem zeBk_pl (w : World) : ∃ fields, Try.prog.underlying 39 = some (.struct fields) ∧ Sem.run Try.prog (fields.mapM fun f => do pure (f.offset, ← sizeOf f.type)) w = .ok #[(0, 66), (66, 1), (67, 32), (99, 32), (131, 32), (163, 4), (167, 4), (171, 33), (204, 33), (237, 1)] w :=
  ⟨_, Try.underlying39, by kernel_rfl⟩

theorem zeBk_off : offP zeBk10 2 = 67 ∧ offP zeBk10 4 = 131 := by constructor <;> rfl

/-- The block of the root: root and payload. -/
theorem build_b0 {r p : List Int} (hr : IsBytes 32 r) (hp : IsBytes 32 p) (u : World) : (Instr.build 39 #[(2, .agg (bytesL r).toArray), (4, .agg (bytesL p).toArray)]).run Try.prog u = .ok (.agg (flatP (bk4 0 r zeroR p).parts)) u := by
  have hl := bytesL_len hr
  have hl2 := bytesL_len hp
  refine build_struct (zero := flatP zeBk10) zeBk_hz Try.underlying39 (places := #[(0, 66), (66, 1), (67, 32), (99, 32), (131, 32), (163, 4), (167, 4), (171, 33), (204, 33), (237, 1)]) (fun w => by kernel_rfl) ?_ u
  show Instr.fill _ (flatP zeBk10) [(2, .agg (bytesL r).toArray), (4, .agg (bytesL p).toArray)] = _
  rw [fill_part (i := 2) (o := 67) 2 (bytesL zeroR) (bytesL r) rfl rfl (by rw [hl]; rfl) rfl (by rw [hl]; rfl), fill_part (i := 4) (o := 131) 4 (bytesL zeroR) (bytesL p) rfl rfl (by rw [hl2]; rfl) (by simp [zeBk10, offP, hl, bytesL_len zeroR_is]) (by rw [hl2]; rfl)]
  unfold Instr.fill
  simp [flatP, zeBk10, bk4, BkD.parts, CpD.cells, wideL, l0, l1, l2, l3, List.replicate]

/-- .. of another node. -/
theorem build_b1 {s : Int} {r q p : List Int} (hr : IsBytes 32 r) (hq : IsBytes 32 q) (hp : IsBytes 32 p) (u : World) : (Instr.build 39 #[(2, .agg (bytesL r).toArray), (3, .agg (bytesL q).toArray), (1, .int .u64 s), (4, .agg (bytesL p).toArray)]).run Try.prog u = .ok (.agg (flatP (bk4 s r q p).parts)) u := by
  have hl := bytesL_len hr
  have hl1 := bytesL_len hq
  have hl2 := bytesL_len hp
  refine build_struct (zero := flatP zeBk10) zeBk_hz Try.underlying39 (places := #[(0, 66), (66, 1), (67, 32), (99, 32), (131, 32), (163, 4), (167, 4), (171, 33), (204, 33), (237, 1)]) (fun w => by kernel_rfl) ?_ u
  show Instr.fill _ (flatP zeBk10) [(2, .agg (bytesL r).toArray), (3, .agg (bytesL q).toArray), (1, .int .u64 s), (4, .agg (bytesL p).toArray)] = _
  rw [fill_part (i := 2) (o := 67) 2 (bytesL zeroR) (bytesL r) rfl rfl (by rw [hl]; rfl) rfl (by rw [hl]; rfl), fill_part (i := 3) (o := 99) 3 (bytesL zeroR) (bytesL q) rfl rfl (by rw [hl1]; rfl) (by simp [zeBk10, offP, hl, bytesL_len zeroR_is]) (by rw [hl1]; rfl), fill_part (i := 1) (o := 66) 1 [.int .u64 0] [.int .u64 s] rfl rfl rfl rfl rfl, fill_part (i := 4) (o := 131) 4 (bytesL zeroR) (bytesL p) rfl rfl (by rw [hl2]; rfl) (by simp [zeBk10, offP, hl, hl1, bytesL_len zeroR_is]) (by rw [hl2]; rfl)]
  unfold Instr.fill
  simp [flatP, zeBk10, bk4, BkD.parts, CpD.cells, wideL, l0, l1, l2, l3, List.replicate]

/-- No root is zero. -/
def NzR (ns : List NdD) : Prop := ∀ d ∈ ns, d.b.root ≠ zeroR

theorem rootK_nz {k : Int} (h : 1 ≤ k ∧ k ≤ 255) : rootK k ≠ zeroR := by
  intro e
  have e2 : (rootK k).head? = zeroR.head? := by rw [e]
  have e3 : k % 256 = 0 := by simpa [rootK, rootL, zeroR, List.replicate] using e2
  omega

theorem root_nz {n t : Int} (hn : 1 ≤ n ∧ n ≤ 8) (ht : 0 ≤ t ∧ t ≤ 2) : rootK (wrap64 (1 + wrap64 (n * (1 + t)))) ≠ zeroR := by
  obtain ⟨m, hm, hm1⟩ : ∃ m, n * (1 + t) = m ∧ 0 ≤ m ∧ m ≤ 24 := by
    refine ⟨_, rfl, ?_⟩
    have h : t = 0 ∨ t = 1 ∨ t = 2 := by omega
    rcases h with rfl | rfl | rfl <;> omega
  have e : wrap64 (1 + wrap64 (n * (1 + t))) = 1 + m := by rw [hm]; unfold wrap64; omega
  rw [e]
  exact rootK_nz (by omega)

/-- What Tree gives. -/
def TreeE (w : World) (e : Ending) (w' : World) : Prop :=
  ∃ v ns, e = .returned (.agg #[v]) ∧ NodesV w' v ns ∧ CapOK v ∧ TrOK ns ∧ ns.length ≤ 9 ∧ Below w.heap.size w w'

/-- The loop's relation. -/
def TreeI (w : World) (B c : Nat) (i : Value) (wr : World) : Prop :=
  ∃ (n : Nat) (ns : List NdD) (s : Value), i = .int .i64 n ∧ 1 ≤ n ∧ n ≤ 1 + c ∧ ns.length = n ∧ TrOK ns ∧ TrV w w.heap.size B s ns wr ∧ NzR ns

/-- .. and the node that was picked, in block bp. -/
def TrQ (w : World) (B bp : Nat) (s : Value) (ns : List NdD) (u : World) : Prop :=
  ∃ (q : Nat) (hq : q < ns.length), TrV w w.heap.size B s ns u ∧ Blk u bp ns[q].cells.toArray

/-- .. and the new block, in block bq. -/
def TrB (w : World) (B bp bq : Nat) (s : Value) (ns : List NdD) (d : NdD) (u : World) : Prop :=
  ∃ bd : BkD, bd.ok ∧ (bd.parent = d.b.root ∧ bd.root ≠ zeroR) ∧ TrV w w.heap.size B s ns u ∧ Blk u bp d.cells.toArray ∧ Blk u bq (flatP bd.parts)

theorem BkD.off5 {x : BkD} (h : x.ok) : offP x.parts 5 = 131 := by
  obtain ⟨h1, h2, _, h3, h4, h5, _, _, h6, h7⟩ := h
  simp [BkD.parts, offP, CpD.len h1, CpD.len h2, bytesL_len h3, bytesL_len h4]

theorem TrB.call {w u u' : World} {B bp bq : Nat} {s : Value} {ns : List NdD} {d : NdD} (h : TrB w B bp bq s ns d u) (hb : Below u.heap.size u u') : TrB w B bp bq s ns d u' := by
  obtain ⟨bd, h1, h2, h3, h4, h5⟩ := h
  exact ⟨bd, h1, h2, h3.call hb, h4.call hb, h5.call hb⟩

/-- .. and the status. -/
def TrS (w : World) (B bp bq : Nat) (s : Value) (ns : List NdD) (d : NdD) (s8 : Value) (u : World) : Prop :=
  ∃ st : Int, s8 = .int .i64 st ∧ (0 ≤ st ∧ st ≤ 2) ∧ (st = 1 → d.st = 1) ∧ (d.st = 2 → st = 2) ∧ TrB w B bp bq s ns d u

theorem tmod_nat (a b : Nat) : Int.tmod (a : Int) (b : Int) = ((a % b : Nat) : Int) := by rw [Int.tmod_eq_emod_of_nonneg (by omega)]; rfl

def TreeN (w : World) (e : Ending) (w' : World) : Prop :=
  ∃ v ns, e = .returned (.agg #[v]) ∧ NodesV w' v ns ∧ CapOK v ∧ TrOK ns ∧ ns.length ≤ 9 ∧ Below w.heap.size w w' ∧ NzR ns

set_option maxHeartbeats 16000000 in
theorem treen_any (v : Value) (l : List Int) (w : World) (hl : IntsV w v l) : Calls Try.prog 9 #[v] w (TreeN w) := by
  have HRS := Lib.hid root_some
  have HRN : Hid (∀ u, Calls Try.prog 25 #[.int .i64 1] u fun e w' => (∃ r, IsBytes 32 r ∧ r ≠ zeroR ∧ e = .returned (.agg (bytesL r).toArray)) ∧ Below u.heap.size u w') := fun u => (root_k 1 u).mono fun _ _ h => ⟨⟨_, rootK_is 1, rootK_nz (by omega), h.1⟩, h.2⟩
  have HA0 : Hid (∀ u, Below w.heap.size w u → Calls Try.prog 26 #[v, .int .i64 0] u fun e w' => (∃ k : Nat, k ≤ 20000000 ∧ e = .returned (.int .i64 k)) ∧ Below u.heap.size u w') := fun u hu => at_any v l 0 u (hl.below hu) (by omega)
  have HA1 : Hid (∀ u, Below w.heap.size w u → Calls Try.prog 26 #[v, .int .i64 1] u fun e w' => (∃ k : Nat, k ≤ 20000000 ∧ e = .returned (.int .i64 k)) ∧ Below u.heap.size u w') := fun u hu => at_any v l 1 u (hl.below hu) (by omega)
  obtain ⟨m2, hm2⟩ : ∃ m, atN l 2 = m := ⟨_, rfl⟩
  have HA2 : Hid (∀ u, Below w.heap.size w u → Calls Try.prog 26 #[v, .int .i64 2] u fun e w' => e = .returned (.int .i64 m2) ∧ Below u.heap.size u w') := fun u hu => by rw [← hm2]; exact at_val v l 2 u (hl.below hu) (by omega)
  have HAK : Hid (∀ (n : Nat) u, n ≤ 1000 → Below w.heap.size w u → Calls Try.prog 26 #[v, .int .i64 (2 + (n : Int))] u fun e w' => (∃ k : Nat, k ≤ 20000000 ∧ e = .returned (.int .i64 k)) ∧ Below u.heap.size u w') := fun n u hn hu => by
    have h := at_any v l (2 + n) u (hl.below hu) (by omega)
    rw [show ((2 + n : Nat) : Int) = 2 + (n : Int) by omega] at h
    exact h
  have ht9 : (m2 : Int) % 9 = ((m2 % 9 : Nat) : Int) := by omega
  have hc8 : m2 % 9 ≤ 8 := by omega
  obtain ⟨c, hc⟩ : ∃ c, m2 % 9 = c := ⟨_, rfl⟩
  rw [hc] at ht9 hc8
  have hi1 : (Try.prog.info? 25).map (·.size) = some 1 := by kernel_rfl
  obtain ⟨hz1, hst1⟩ := zero_array (P := Try.prog) (t := 25) (n := 1) #[.slice none 0 0] (by kernel_rfl) rfl (by kernel_rfl)
  obtain ⟨ZN, hZN⟩ : ∃ Z, flatP (zeBkP ++ [[.int .i64 0], [.int .i64 0]]) = Z := ⟨_, rfl⟩
  have hszN : ZN.size = 240 := by rw [← hZN]; rfl
  obtain ⟨hz240, hst240⟩ := zero_array (P := Try.prog) (t := 41) (n := 240) ZN (by rw [← hZN]; kernel_rfl) hszN (by rw [← hZN]; kernel_rfl)
  obtain ⟨ZB, hZB⟩ : ∃ Z, flatP zeBk10 = Z := ⟨_, rfl⟩
  have hszB : ZB.size = 238 := by rw [← hZB]; rfl
  obtain ⟨hz238, hst238⟩ := zero_array (P := Try.prog) (t := 39) (n := 238) ZB (by rw [← hZB]; kernel_rfl) hszB (by rw [← hZB]; kernel_rfl)
  clear hst240 hst238 hZN hZB
  have HR0 : Hid (Blk (w.alloc (.cells #[.slice none 0 0] 25)) w.heap.size #[.slice none 0 0]) := Blk.new rfl
  have HB0 := Lib.hid ((Below.refl w.heap.size w).alloc (Nat.le_refl _) (.cells #[.slice none 0 0] 25))
  have HB0I := Lib.hid (fun (r p : List Int) (hr : IsBytes 32 r) (hp : IsBytes 32 p) (u : World) => build_b0 hr hp u)
  clear hm2 hc hst1 hl
  go_enter Try.func9, Try.ntmps9
  go_wp2_with (first
    | (go_at_call 24; refine (newt_any b0 _ w4 HOK0.out (by constructor <;> omega)).mono ?_; rintro e w5 ⟨s, rfl, hn5, hw5, hc5, hb5⟩; have HN5 := Lib.hid hn5; have HW5 := Lib.hid hw5; have HB5 := Lib.hid (HB4.out.trans (hb5.mono HB4.out.size)); have HR5 := Lib.hid (HR4.out.call hb5); have HC5 := Lib.hid hc5; have hs1 : s.oneCell' = true := (by obtain ⟨a, c, e, _⟩ := hn5.shape; rw [e]; rfl); have hlt5 := HR5.out.lt; clear hn5 hw5 hc5 hb5)
    | ((with_reducible refine at_store (.tmp 3) ?_); refine wpList_store_blk rfl 25 (.tmp 3) _ rfl w5.heap.size #[s] rfl rfl #[.slice none 0 0] (Blk.new rfl) rfl hi1 (by simpa using hs1) ?_; intro w6 U6 B6; have hb56 := U6.below ((Below.refl w5.heap.size w5).alloc (Nat.le_refl _) (.cells #[.slice none 0 0] 25)) (Nat.le_refl _); have HV6 : Hid (TrV w w.heap.size w5.heap.size s [⟨b0, -1, (k4 : Int) % 3⟩] w6) := ⟨HR5.out.call hb56, B6, HN5.out.call hb56, HW5.out.off (by have := HR4.out.lt; omega), HN5.out.off (Nat.le_refl _), HB5.out.trans (hb56.mono HB5.out.size), hlt5, rfl, HC5.out⟩; clear hb56 U6 B6)
    | ((with_reducible refine at_build (some 17) ?_); refine wpList_build_g 39 _ rfl #[(2, .agg (bytesL r1).toArray), (4, .agg (bytesL r3).toArray)] (by simp [Act.eval, Act.put]) (.agg (flatP (bk4 0 r1 zeroR r3).parts)) (HB0I.out r1 r3 HQ1.out HQ3.out _) rfl ?_; obtain ⟨b0, hb0⟩ : ∃ b : BkD, Hid (bk4 0 r1 zeroR r3 = b) := ⟨_, Lib.hid rfl⟩; rw [hb0.out]; have HOK0 : Hid b0.ok := (by show b0.ok; rw [← hb0.out]; exact bk4_ok (by omega) HQ1.out zeroR_is HQ3.out))
    | (go_at_call_of 26 (1 : Int); refine (HA1.out _ HB3.out).mono ?_; rintro e w4 ⟨⟨k4, hk4, rfl⟩, hb4⟩; have ht3 := tmod_nat k4 3; have HB4 := Lib.hid (HB3.out.trans (hb4.mono HB3.out.size)); have HR4 := Lib.hid (HR3.out.call hb4); clear hb4)
    | (go_at_call_of 26 (0 : Int); refine (HA0.out _ HB1.out).mono ?_; rintro e w2 ⟨⟨k2, hk2, rfl⟩, hb2⟩; have ht2 := tmod_nat k2 2; have HB2 := Lib.hid (HB1.out.trans (hb2.mono HB1.out.size)); have HR2 := Lib.hid (HR1.out.call hb2); clear hb2)
    | (go_at_call 25; refine (HRS.out _ w2).mono ?_; rintro e w3 ⟨⟨r3, hr3, rfl⟩, hb3⟩; have HQ3 := Lib.hid hr3; have HB3 := Lib.hid (HB2.out.trans (hb3.mono HB2.out.size)); have HR3 := Lib.hid (HR2.out.call hb3); clear hr3 hb3)
    | (go_at_call 25; refine (HRN.out _).mono ?_; rintro e w1 ⟨⟨r1, hr1, hz1r, rfl⟩, hb1⟩; have HQ1 := Lib.hid hr1; have HZ1 := Lib.hid hz1r; have HB1 := Lib.hid (HB0.out.trans (hb1.mono HB0.out.size)); have HR1 := Lib.hid (HR0.out.call hb1); clear hr1 hz1r hb1))
  have HI0 : Hid (TreeI w w5.heap.size c (.int .i64 1) w6) := ⟨1, _, s, rfl, by omega, by omega, rfl, TrOK.one b0 _ (by omega), HV6.out, fun d hd => by rw [List.mem_singleton.1 hd]; show b0.root ≠ zeroR; rw [← hb0.out]; exact HZ1.out⟩
  obtain ⟨B, hB⟩ : ∃ B, w5.heap.size = B := ⟨_, rfl⟩
  rw [hB] at HI0 ⊢
  clear hB HV6 HR5 HB5 HN5 HW5 hs1 hlt5
  go_loopw [4] (fun i wr => TreeI w B c i wr) (fun i _ => 10 - (intOf i).toNat)
  case atStart => exact HI0.out
  case round =>
    obtain ⟨n, ns, s', rfl, hn1, hn9, hlen, hok, hV, hnz⟩ := hrel
    obtain ⟨sa, sc, rfl, hmx⟩ := hV.n.shape
    have HLEN := Lib.hid hlen
    have HOK := Lib.hid hok
    have HV := Lib.hid hV
    have HCP := Lib.hid hV.cap
    have HNZ := Lib.hid hnz
    rw [hlen] at HV HCP
    clear hlen hok hV hmx hnz HI0
    by_cases hlt : n < 1 + c
    case neg =>
      have hlt' : ¬ (n : Int) < 1 + (c : Int) := by omega
      go_wp2_with (first
        | (go_at_call_of 26 (2 : Int); refine (HA2.out _ HV.out.b).mono ?_; rintro e w7 ⟨rfl, hb7⟩; have HV7 := Lib.hid (HV.out.call hb7); clear hb7)
        | ((with_reducible refine at_load (.tmp 3) ?_); refine wpList_load_g 25 (.tmp 3) rfl B rfl #[.slice sa n sc] _ HV7.out.t Try.underlying25 rfl hi1 rfl ?_)
        | ((with_reducible refine at_store (.tmp 2) ?_); refine wpList_store_blk rfl 25 (.tmp 2) _ rfl w.heap.size #[.slice sa n sc] rfl rfl #[.slice none 0 0] HV7.out.r rfl hi1 (by simp [Value.oneCell']) ?_; intro w9 U9 B9; have HR9 := Lib.hid B9; have HB9 := Lib.hid (U9.below HV7.out.b (Nat.le_refl _)); have HN9 := Lib.hid (HV7.out.n.grownOff (upd_grown U9) HV7.out.o1); clear U9 B9))
      exact bodyPost_ret (res_cellB rfl rfl HR9.out Try.underlying25 rfl hi1) rfl ⟨_, ns, rfl, HN9.out, HCP.out, HOK.out, by rw [HLEN.out]; omega, HB9.out, HNZ.out⟩
    have hlt' : (n : Int) < 1 + (c : Int) := by omega
    have hn0 : ¬ (n : Int) = 0 := by omega
    go_upto_if 27 with (first
      | (go_at_call_of 26 (2 : Int); refine (HA2.out _ HV.out.b).mono ?_; rintro e w7 ⟨rfl, hb7⟩; have HV7 := Lib.hid (HV.out.call hb7); clear hb7))
    go_wp2_with fail
    refine (HAK.out n w7 (by omega) HV7.out.b).mono ?_
    rintro e w8 ⟨⟨k, hk, rfl⟩, hb8⟩
    have HV8 := Lib.hid (HV7.out.call hb8)
    clear hb8
    go_wp2_with fail
    have hqn : k % n < n := Nat.mod_lt _ (by omega)
    obtain ⟨q0, hq0⟩ : ∃ q, k % n = q := ⟨_, rfl⟩
    have hq1 : (k : Int) % (n : Int) = (q0 : Int) := by rw [← hq0]; rfl
    have hq2 : Int.tmod (k : Int) (n : Int) = (q0 : Int) := by rw [tmod_nat, hq0]
    rw [hq0] at hqn
    have hqn' : (q0 : Int) < n := by omega
    have hql : q0 < ns.length := by rw [HLEN.out]; exact hqn
    have HND := Lib.hid (HV8.out.n.elem hql)
    obtain ⟨rb, ro, rfl, hlm, hrb, hna, hdk⟩ := HND.out
    have HNA := Lib.hid hna.all
    have HDK := Lib.hid hdk
    obtain ⟨L, hL⟩ : ∃ L, ns[q0].cells = L := ⟨_, rfl⟩
    have hLl : L.length = 240 := by rw [← hL]; exact NdD.len hdk
    have HL1 : Hid (∀ v ∈ L, v.oneCell' = true) := by show ∀ v ∈ L, _; rw [← hL]; exact NdD.one _
    rw [hL] at HNA
    have HLL := Lib.hid hL
    have hbt := HV8.out.t.lt
    have HVT := Lib.hid HV8.out.t
    have hiL : (Try.prog.info? 41).map (·.size) = some L.length := by rw [hLl]; kernel_rfl
    clear hlm hna hdk hL hq0
    refine own1 7 8 L.toArray ZN (by kernel_rfl) (by kernel_rfl) rfl rfl rfl rfl hz240 (by rw [hszN, List.size_toArray, hLl]) (by simpa using hiL) (fun v hv => HL1.out v (by simpa using hv)) ?_
    apply Exists.intro
    refine ⟨?HA, ?h1, ?hQ⟩
    case HA =>
      intro W1 hW1 T F hT hF hG
      have hWF : ∀ t, Below w8.heap.size w8 (F t) := fun t => hW1.trans ((hF t).mono hW1.size)
      show wpQuiet _ _ _ _ [_, _, _, _, _, _, _] _
      have c0 : ∀ t, (F t).cell? ⟨B, 0, none⟩ = some (.slice (some ⟨rb, ro, none⟩) n sc) := fun t => ((hWF t).cell (p := ⟨B, 0, none⟩) hbt).trans (HVT.out.cell 0)
      have CL := Lib.hid (show ∀ u, (∃ t, u = F t) → u.rangeAt rb (ro + q0 * 240) L by rintro _ ⟨t, rfl⟩; exact Below.rng (hWF t) hrb HNA.out)
      repeat (first
        | ((with_reducible refine at_qload (.tmp 39) ?_); refine wpQuiet_load_midE 41 _ rfl rb (ro + q0 * 240) (by simp [Act.eval]) L CL.out Try.underlying41 rfl hiL (by kernel_rfl) ?_; simp only [Act.put, List.setIfInBounds_toArray, List.set_cons_succ, List.set_cons_zero])
        | (go_big_quiet_step (fail)))
      exact wpQuiet_nil rfl
    case h1 => rfl
    case hQ =>
      intro bp w9 hbp hb9 hk9
      simp only [Act.put, List.setIfInBounds_toArray, List.set_cons_succ, List.set_cons_zero]
      have HP9 : Hid (Blk w9 bp L.toArray) := hk9
      have HV9 := Lib.hid (HV8.out.call hb9)
      have HOF := Lib.hid (HV8.out.n.off hbp)
      have hBp : B < bp := by omega
      have hz3 : ((k : Int) / 16) % 3 = ((k / 16 % 3 : Nat) : Int) := by omega
      obtain ⟨z3, hz3'⟩ : ∃ z, k / 16 % 3 = z := ⟨_, rfl⟩
      rw [hz3'] at hz3
      have hpn : (n : Int) - 1 = ((n - 1 : Nat) : Int) := by omega
      have hpl : n - 1 < n := by omega
      obtain ⟨p, hp⟩ : ∃ p, n - 1 = p := ⟨_, rfl⟩
      rw [hp] at hpn hpl
      have hpl' : (p : Int) < n := by omega
      have hpL : p < ns.length := by rw [HLEN.out]; exact hpl
      have HND2 := Lib.hid (HV9.out.n.elem hpL)
      clear hk9 hb9 hz3' hp HNA HVT HND
      go_upto_if 44 with fail
      go_cut [] from 22 to 115 (fun wx => TrQ w B bp (.slice (some ⟨rb, ro, none⟩) n sc) ns wx)
      case first =>
        by_cases hzz : 0 < (z3 : Int)
        · obtain ⟨rb2, ro2, he2, hlm2, hrb2, hna2, hdk2⟩ := HND2.out
          cases he2
          have HNA2 := Lib.hid hna2.all
          obtain ⟨L2, hL2⟩ : ∃ L, ns[p].cells = L := ⟨_, rfl⟩
          have hL2l : L2.length = 240 := by rw [← hL2]; exact NdD.len hdk2
          have HL2 : Hid (∀ v ∈ L2, v.oneCell' = true) := by show ∀ v ∈ L2, _; rw [← hL2]; exact NdD.one _
          have HE2 := Lib.hid hL2
          rw [hL2] at HNA2
          have hiL2 : (Try.prog.info? 41).map (·.size) = some L2.length := by rw [hL2l]; kernel_rfl
          clear hlm2 hna2 hdk2 hL2
          go_wp2_with (first
            | ((with_reducible refine at_load (.tmp 45) ?_); refine wpList_load_1 23 (.tmp 45) rfl B 0 (.slice (some ⟨rb, ro, none⟩) n sc) (HV9.out.t.cell 0) rfl _ Try.underlying23 rfl rfl ?_)
            | ((with_reducible refine at_load (.tmp 49) ?_); refine wpList_load_rng 41 (.tmp 49) rfl rb (ro + p * 240) L2 HNA2.out rfl _ Try.underlying41 rfl hiL2 rfl ?_)
            | ((with_reducible refine at_store (.tmp 6) ?_); refine wpList_store_blk rfl 41 (.tmp 6) _ rfl bp L2.toArray rfl rfl L.toArray HP9.out (by simp [hLl, hL2l]) (by simpa using hiL2) (fun v hv => HL2.out v (by simpa using hv)) ?_; intro w10 U10 B10; have HV10 := Lib.hid (HV9.out.upd U10 hBp HOF.out); have HP10 := Lib.hid B10; clear U10 B10))
          go_meet
          case rel => exact ⟨p, hpL, HV10.out, by rw [HE2.out]; exact HP10.out⟩
        · have hzz' : (0 < (z3 : Int)) = False := eq_false hzz
          go_wp2_with fail
          go_meet
          case rel => exact ⟨q0, hql, HV9.out, by rw [HLL.out]; exact HP9.out⟩
      case rest =>
        obtain ⟨q, hq, hvc, hpc⟩ := hcut
        have HVC := Lib.hid hvc
        have HPC := Lib.hid hpc
        have hqok := HV8.out.n.oks ns[q] (List.getElem_mem hq)
        have HQOK := Lib.hid hqok
        have hnat := nd_at hpc.rng hqok
        have HNT : Hid (∀ u, Blk u bp ns[q].cells.toArray → NdAt u bp 0 ns[q]) := fun u hu => nd_at hu.rng HQOK.out
        obtain ⟨d, hd⟩ : ∃ d, ns[q] = d := ⟨_, rfl⟩
        have HQE := Lib.hid hd
        rw [hd] at HNT HQOK HPC
        have hbpc := HPC.out.lt
        obtain ⟨s0, hs0⟩ : ∃ z, d.b.slot = z := ⟨_, rfl⟩
        have HS0 := Lib.hid hs0
        obtain ⟨Rp, hRp⟩ : ∃ z, bytesL d.b.root = z := ⟨_, rfl⟩
        have HRP := Lib.hid hRp
        have hiRp : (Try.prog.info? 31).map (·.size) = some Rp.length := by rw [← hRp, bytesL_len HQOK.out.1.2.2.2.1]; kernel_rfl
        clear hvc hpc hqok hnat hd hs0 hRp
        go_wp2_with fail
        obtain ⟨XK, hXK⟩ : ∃ XK : Int → Array Value, Hid (∀ k, (bytesL (rootK k)).toArray = XK k) := ⟨_, Lib.hid fun _ => rfl⟩
        have HRY : Hid (∀ k u, Calls Try.prog 25 #[.int .i64 k] u fun e w' => e = .returned (.agg (XK k)) ∧ Below u.heap.size u w') := fun k u => by rw [← hXK.out k]; exact root_k k u
        obtain ⟨bd, hbd⟩ : ∃ bd, bk4 (IntKind.u64.wrap (IntKind.u64.wrap (s0 + 1) + (k : Int) / 256 % 3)) (rootK (wrap64 (1 + wrap64 ((n : Int) * (1 + (k : Int) / 64 % 3))))) d.b.root (rootK (1000 + (n : Int))) = bd := ⟨_, rfl⟩
        have hbok : bd.ok := by rw [← hbd]; exact bk4_ok (wrap_u64r _) (rootK_is _) HQOK.out.1.2.2.2.1 (rootK_is _)
        have hbpar : bd.parent = d.b.root ∧ bd.root ≠ zeroR := by rw [← hbd]; exact ⟨rfl, root_nz ⟨by omega, by omega⟩ ⟨by omega, by omega⟩⟩
        obtain ⟨BX, hBX⟩ : ∃ BX, flatP bd.parts = BX := ⟨_, rfl⟩
        have hbs : BX.size = 238 := by rw [← hBX, flatP_size, BkD.flen hbok]
        have hb1 : ∀ v ∈ BX, v.oneCell' = true := by rw [← hBX]; intro v hv; exact BkD.one bd v (by simpa [flatP] using hv)
        have HBI : Hid (∀ u, (Instr.build 39 #[(2, .agg (XK (wrap64 (1 + wrap64 ((n : Int) * (1 + (k : Int) / 64 % 3)))))), (3, .agg Rp.toArray), (1, .int .u64 (IntKind.u64.wrap (IntKind.u64.wrap (s0 + 1) + (k : Int) / 256 % 3))), (4, .agg (XK (1000 + (n : Int))))]).run Try.prog u = .ok (.agg BX) u) := fun u => by
          rw [← hXK.out, ← hXK.out, ← HRP.out, ← hBX, ← hbd]
          exact build_b1 (rootK_is _) HQOK.out.1.2.2.2.1 (rootK_is _) u
        have HBX1 := Lib.hid hb1
        have HBXE := Lib.hid hBX
        have HBOK := Lib.hid hbok
        have HBP := Lib.hid hbpar
        clear hbd hbok hbpar hBX hb1 hXK
        refine own1 24 25 BX ZB (by kernel_rfl) (by kernel_rfl) rfl rfl rfl rfl hz238 (by rw [hszB, hbs]) (by rw [hbs]; kernel_rfl) HBX1.out ?_
        apply Exists.intro
        refine ⟨?HA, ?h1, ?hQ⟩
        case HA =>
          intro W1 hW1 T F hT hF hG
          have hWF : ∀ t, Below wc.heap.size wc (F t) := fun t => hW1.trans ((hF t).mono hW1.size)
          show wpQuiet _ _ _ _ [_, _, _, _, _, _, _, _, _, _, _, _, _, _, _, _, _, _, _, _, _, _, _, _] _
          have c0 : ∀ t, (F t).cell? ⟨bp, 66, none⟩ = some (.int .u64 s0) := fun t => by have := (HNT.out _ (HPC.out.call (hWF t))).bk.slot; rw [HS0.out, Nat.zero_add] at this; exact this
          have CL := Lib.hid (show ∀ u, (∃ t, u = F t) → u.rangeAt bp 67 Rp by rintro _ ⟨t, rfl⟩; have := (HNT.out _ (HPC.out.call (hWF t))).bk.root; rw [HRP.out, Nat.zero_add] at this; exact this)
          repeat (first
            | ((with_reducible refine at_qload (.tmp 60) ?_); refine wpQuiet_load_midE 31 _ rfl bp 67 (by simp [Act.eval]) Rp CL.out Try.underlying31 rfl hiRp (by kernel_rfl) ?_; simp only [Act.put, List.setIfInBounds_toArray, List.set_cons_succ, List.set_cons_zero])
            | ((with_reducible refine at_qbuild (some 74) ?_); refine wpQuiet_build 39 _ rfl #[(2, .agg (XK (wrap64 (1 + wrap64 ((n : Int) * (1 + (k : Int) / 64 % 3)))))), (3, .agg Rp.toArray), (1, .int .u64 (IntKind.u64.wrap (IntKind.u64.wrap (s0 + 1) + (k : Int) / 256 % 3))), (4, .agg (XK (1000 + (n : Int))))] (by simp [Act.eval]) (.agg BX) HBI.out (by kernel_rfl) ?_; simp only [Act.put, List.setIfInBounds_toArray, List.set_cons_succ, List.set_cons_zero])
            | (go_big_quiet_step ((go_at_call 25; exact fam_call hF hG (Nat.le_refl _) (HRY.out _ _)))))
          exact wpQuiet_nil rfl
        case h1 => rfl
        case hQ =>
          intro bq w11 hbq hb11 hk11
          simp only [Act.put, List.setIfInBounds_toArray, List.set_cons_succ, List.set_cons_zero]
          have HOQ := Lib.hid (HVC.out.n.off hbq)
          have HT11 : Hid (TrB w B bp bq (.slice (some ⟨rb, ro, none⟩) n sc) ns d w11) := ⟨bd, HBOK.out, HBP.out, HVC.out.call hb11, HPC.out.call hb11, by rw [HBXE.out]; exact hk11⟩
          have hpq : bp < bq := by omega
          have hz4 : (k : Int) / 1024 % 4 = ((k / 1024 % 4 : Nat) : Int) := by omega
          obtain ⟨z4, hz4'⟩ : ∃ z, k / 1024 % 4 = z := ⟨_, rfl⟩
          rw [hz4'] at hz4
          have hz5 : (k : Int) / 4096 % 3 = ((k / 4096 % 3 : Nat) : Int) := by omega
          have hz5l : k / 4096 % 3 ≤ 2 := by omega
          obtain ⟨z5, hz5'⟩ : ∃ z, k / 4096 % 3 = z := ⟨_, rfl⟩
          rw [hz5'] at hz5 hz5l
          clear hk11 hb11 hz4' hz5' HBX1 HBXE HBOK HBP HBI HVC HPC hbs
          go_upto_if 78 with fail
          go_cut [] from 22 to 115 (fun wx => TrB w B bp bq (.slice (some ⟨rb, ro, none⟩) n sc) ns d wx)
          case first =>
            by_cases h4 : z4 = 0
            · have h4' : ((z4 : Int) == 0) = true := by simp [h4]
              obtain ⟨bd, hbo, hbp2, hv, hp, hb⟩ := HT11.out
              have HV12 := Lib.hid hv; have HP12 := Lib.hid hp; have HK12 := Lib.hid hb; have HBO := Lib.hid hbo; have HBP2 := Lib.hid hbp2
              have HPY := Lib.hid (show w11.rangeAt bp 131 (bytesL d.b.payload) by have := (HNT.out _ hp).bk.payload; rw [Nat.zero_add] at this; exact this)
              have hiP : (Try.prog.info? 31).map (·.size) = some (bytesL d.b.payload).length := by rw [bytesL_len HQOK.out.1.2.2.2.2.2.1]; kernel_rfl
              clear h4 hv hp hb hbo hbp2
              go_wp2_with (first
                | ((with_reducible refine at_load (.tmp 80) ?_); refine wpList_load_rng 31 (.tmp 80) rfl bp 131 (bytesL d.b.payload) HPY.out rfl _ Try.underlying31 rfl hiP rfl ?_)
                | ((with_reducible refine at_store (.tmp 82) ?_); refine wpList_store_part rfl 31 (.tmp 82) _ rfl bq bd.parts 5 (bytesL bd.payload) (bytesL d.b.payload) HK12.out rfl (by rw [BkD.off5 HBO.out]; rfl) rfl (by rw [bytesL_len HQOK.out.1.2.2.2.2.2.1, bytesL_len HBO.out.2.2.2.2.2.1]) hiP (bytesL_one _) ?_; intro w13 U B13; have HT13 : Hid (TrB w B bp bq (.slice (some ⟨rb, ro, none⟩) n sc) ns d w13) := (by refine ⟨{bd with payload := d.b.payload}, ?_, HBP2.out, HV12.out.upd U (by omega) HOQ.out, U.blk HP12.out (by omega), B13⟩; obtain ⟨o1, o2, o3, o4, o5, o6, o7⟩ := HBO.out; exact ⟨o1, o2, o3, o4, o5, HQOK.out.1.2.2.2.2.2.1, o7⟩); clear U B13))
              go_meet
              case rel => exact HT13.out
            · have h4' : ((z4 : Int) == 0) = false := by simp [h4]
              clear h4
              go_wp2_with fail
              go_meet
              case rel => exact HT11.out
          case rest =>
            have HT14 := Lib.hid hcut
            have hsd := HOK.out.st q hq
            rw [HQE.out] at hsd
            obtain ⟨sd, hsd'⟩ : ∃ z, d.st = z := ⟨_, rfl⟩
            rw [hsd'] at hsd
            have HSD := Lib.hid hsd'
            have hz5b : (z5 : Int) ≤ 2 := by omega
            have HC3 : Hid (∀ u : World, (u.alloc (.cells #[.int .i64 0, .int .i64 1, .int .i64 2] 3)).cell? ⟨u.heap.size, z5, none⟩ = some (.int .i64 (z5 : Int))) := fun u => by
              have hb := (Blk.new (w := u) (cs := #[.int .i64 0, .int .i64 1, .int .i64 2]) (t := 3) rfl)
              have h3 : z5 = 0 ∨ z5 = 1 ∨ z5 = 2 := by omega
              rcases h3 with rfl | rfl | rfl
              · exact hb.cell 0
              · exact hb.cell 1
              · exact hb.cell 2
            obtain ⟨_, _, _, hvx, hpx, _⟩ := HT14.out
            have HST0 := Lib.hid (show wc.cell? ⟨bp, 239, none⟩ = some (.int .i64 sd) by have := (HNT.out _ hpx).st; rw [hsd', Nat.zero_add] at this; exact this)
            have hbpw := hpx.lt
            have HAL : Hid (Below wc.heap.size wc (wc.alloc (.cells #[.int .i64 0, .int .i64 1, .int .i64 2] 3))) := (Below.refl _ _).alloc (Nat.le_refl _) _
            have HST1 := Lib.hid ((HAL.out.cell (p := ⟨bp, 239, none⟩) hbpw).trans HST0.out)
            clear hcut hsd' hvx hpx
            go_upto_if 91 with (first
              | ((with_reducible refine at_load (.tmp 87) ?_); refine wpList_load_1 3 (.tmp 87) rfl wc.heap.size z5 (.int .i64 (z5 : Int)) (HC3.out wc) rfl _ Try.underlying3 rfl rfl ?_)
              | ((with_reducible refine at_load (.tmp 89) ?_); refine wpList_load_1 3 (.tmp 89) rfl bp 239 (.int .i64 sd) HST1.out rfl _ Try.underlying3 rfl rfl ?_))
            go_cut [8] from 22 to 115 (fun s8 wx => TrS w B bp bq (.slice (some ⟨rb, ro, none⟩) n sc) ns d s8 wx)
            case first =>
              have HT15 : Hid (TrB w B bp bq (.slice (some ⟨rb, ro, none⟩) n sc) ns d (wc.alloc (.cells #[.int .i64 0, .int .i64 1, .int .i64 2] 3))) := HT14.out.call HAL.out
              by_cases h2 : sd = 2
              · have h2' : (sd == 2) = true := by simp [h2]
                have HS2 := Lib.hid h2
                clear h2
                go_wp2_with fail
                go_meet
                case rel => exact ⟨2, rfl, by omega, fun h => by omega, fun _ => rfl, HT15.out⟩
              · have h2' : (sd == 2) = false := by simp [h2]
                by_cases h0 : sd = 0
                · have h0' : (sd == 0) = true := by simp [h0]
                  by_cases h1 : z5 = 1
                  · have h1' : ((z5 : Int) == 1) = true := by simp [h1]
                    have HS0' := Lib.hid h0
                    clear h0 h1
                    go_wp2_with (first
                      | ((with_reducible refine at_load (.tmp 92) ?_); refine wpList_load_1 3 (.tmp 92) rfl bp 239 (.int .i64 sd) HST1.out rfl _ Try.underlying3 rfl rfl ?_))
                    go_meet
                    case rel => exact ⟨0, rfl, by omega, fun h => by omega, fun h => by have := HS0'.out; rw [HSD.out] at h; omega, HT15.out⟩
                  · have h1' : ((z5 : Int) == 1) = false := by simp; omega
                    have HS0' := Lib.hid h0
                    have HN1 := Lib.hid h1
                    clear h0 h1
                    go_wp2_with (first
                      | ((with_reducible refine at_load (.tmp 92) ?_); refine wpList_load_1 3 (.tmp 92) rfl bp 239 (.int .i64 sd) HST1.out rfl _ Try.underlying3 rfl rfl ?_))
                    go_meet
                    case rel => exact ⟨(z5 : Int), rfl, by omega, fun h => by have := HN1.out; omega, fun h => by have := HS0'.out; rw [HSD.out] at h; omega, HT15.out⟩
                · have h0' : (sd == 0) = false := by simp [h0]
                  have HN0 := Lib.hid h0
                  have HN2 := Lib.hid h2
                  clear h0 h2
                  go_wp2_with (first
                    | ((with_reducible refine at_load (.tmp 92) ?_); refine wpList_load_1 3 (.tmp 92) rfl bp 239 (.int .i64 sd) HST1.out rfl _ Try.underlying3 rfl rfl ?_))
                  go_meet
                  case rel => exact ⟨(z5 : Int), rfl, by omega, fun _ => by have h1 := HN0.out; have h2 := HN2.out; rw [HSD.out]; omega, fun h => by have := HN2.out; rw [HSD.out] at h; exact absurd h this, HT15.out⟩
            case rest =>
              obtain ⟨st, rfl, hst, hc1, hc2, bd, hbo, hbp, hvx, hpx, hkx⟩ := hcut
              have HV20 := Lib.hid hvx
              have HK20 := Lib.hid hkx
              have HBO := Lib.hid hbo
              have HRZ := Lib.hid hbp.2
              have HINS := Lib.hid (insn_any (.slice (some ⟨rb, ro, none⟩) n sc) ns bd st wc hvx.n hbo (by omega))
              have hadd := fun he => HOK.out.add hq (x := bd) (st := st) (by rw [HQE.out]; exact hbp.1) hst (by rw [HQE.out]; exact hc1) (by rw [HQE.out]; exact hc2) he
              have hbsz : (flatP bd.parts).size = 238 := by rw [flatP_size, BkD.flen hbo]
              obtain ⟨BX2, hBX2⟩ : ∃ X, flatP bd.parts = X := ⟨_, rfl⟩
              rw [hBX2] at HINS HK20 hbsz
              have hiB : (Try.prog.info? 39).map (·.size) = some BX2.size := by rw [hbsz]; kernel_rfl
              have hBw := hvx.t.lt
              by_cases he : (insT ns bd st).2 = 0
              · obtain ⟨hres, hok2⟩ := hadd he
                have HR2 := Lib.hid hres
                have HOK2 := Lib.hid hok2
                have HEZ := Lib.hid he
                have hnn : ((n : Int) + 1 != (n : Int) + 1) = false := by simp
                clear hadd hres hok2 he hc1 hc2 hbo hbp hvx hpx hkx hBX2
                go_wp2_with (first
                  | ((with_reducible refine at_load (.tmp 3) ?_); refine wpList_load_g 25 (.tmp 3) rfl B rfl #[.slice (some ⟨rb, ro, none⟩) n sc] _ HV20.out.t Try.underlying25 rfl hi1 rfl ?_)
                  | ((with_reducible refine at_load (.tmp 7) ?_); refine wpList_load_g 39 (.tmp 7) rfl bq rfl BX2 _ HK20.out Try.underlying39 rfl hiB rfl ?_)
                  | (go_at_call 27; refine HINS.out.mono ?_; rintro e w21 ⟨v', rfl, hn21, hw21, hc21, hb21⟩; rw [HEZ.out]; rw [HR2.out] at hn21; have HV21 := Lib.hid (HV20.out.call hb21); obtain ⟨va, vc, hv', _⟩ := hn21.shape; rw [List.length_append, HLEN.out, List.length_singleton] at hv'; have HN21 := Lib.hid hn21; have HW21 := Lib.hid hw21; have HSH := Lib.hid hv'; have HC21 := Lib.hid hc21; rw [hv'] at HN21 HW21 HC21; rw [hv']; clear hn21 hw21 hc21 hb21 hv')
                  | ((with_reducible refine at_store (.tmp 9) ?_); refine wpList_store_blk rfl 25 (.tmp 9) _ rfl w21.heap.size #[.slice va (n + 1) vc] rfl rfl #[.slice none 0 0] (Blk.new rfl) rfl hi1 (by simp [Value.oneCell']) ?_; intro w22 U22 B22; have hb22 := U22.below ((Below.refl w21.heap.size w21).alloc (Nat.le_refl _) (.cells #[.slice none 0 0] 25)) (Nat.le_refl _); have HV22 := Lib.hid (HV21.out.call hb22); have HN22 := Lib.hid (HN21.out.call hb22); have HK22 := Lib.hid B22; clear U22 B22 hb22)
                  | ((with_reducible refine at_load (.tmp 9) ?_); refine wpList_load_g 25 (.tmp 9) rfl w21.heap.size rfl #[.slice va (n + 1) vc] _ HK22.out Try.underlying25 rfl hi1 rfl ?_)
                  | ((with_reducible refine at_store (.tmp 3) ?_); refine wpList_store_blk rfl 25 (.tmp 3) _ rfl B #[.slice va (n + 1) vc] rfl rfl #[.slice (some ⟨rb, ro, none⟩) n sc] HV22.out.t rfl hi1 (by simp [Value.oneCell']) ?_; intro w23 U23 B23; have HV23 : Hid (TrV w w.heap.size B (.slice va (n + 1) vc) (ns ++ [⟨bd, (q : Int), st⟩]) w23) := (by refine ⟨U23.blk HV22.out.r (by have := HV22.out.lt; omega), B23, HN22.out.grownOff (upd_grown U23) (HW21.out.off (by omega)), HW21.out.off (by have := HV22.out.lt; omega), HW21.out.off (by omega), U23.below HV22.out.b (by have h1 := HV22.out.lt; omega), HV22.out.lt, rfl, HC21.out⟩); have HC23 := Lib.hid (HV23.out.t.cell 0); clear U23 B23)
                  | ((with_reducible refine at_load (.tmp 109) ?_); refine wpList_load_1 23 (.tmp 109) rfl B 0 (.slice va (n + 1) vc) HC23.out rfl _ Try.underlying23 rfl rfl ?_))
                go_roundw
                case rel => exact ⟨n + 1, ns ++ [⟨bd, (q : Int), st⟩], _, by go_num, by omega, by omega, by rw [List.length_append, HLEN.out]; rfl, HOK2.out, HV23.out, fun x hx => by rcases List.mem_append.1 hx with h | h; exact HNZ.out x h; rw [List.mem_singleton.1 h]; exact HRZ.out⟩
                case measure => simp [intOf]; omega
              · have hbad := insT_bad he
                have HBD := Lib.hid hbad
                obtain ⟨ev, hev⟩ : ∃ z, (insT ns bd st).2 = z := ⟨_, rfl⟩
                rw [hev] at he
                have hez : (ev == 0) = false := by simp [he]
                have HEV := Lib.hid hev
                have hnn : ((n : Int) != (n : Int) + 1) = true := by simp; omega
                clear hadd hbad hev he hc1 hc2 hbo hbp hvx hpx hkx hBX2
                go_wp2_with (first
                  | ((with_reducible refine at_load (.tmp 3) ?_); refine wpList_load_g 25 (.tmp 3) rfl B rfl #[.slice (some ⟨rb, ro, none⟩) n sc] _ HV22.out.t Try.underlying25 rfl hi1 rfl ?_)
                  | ((with_reducible refine at_load (.tmp 3) ?_); refine wpList_load_g 25 (.tmp 3) rfl B rfl #[.slice (some ⟨rb, ro, none⟩) n sc] _ HV20.out.t Try.underlying25 rfl hi1 rfl ?_)
                  | ((with_reducible refine at_load (.tmp 7) ?_); refine wpList_load_g 39 (.tmp 7) rfl bq rfl BX2 _ HK20.out Try.underlying39 rfl hiB rfl ?_)
                  | (go_at_call 27; refine HINS.out.mono ?_; rintro e w21 ⟨v', rfl, hn21, hw21, hc21, hb21⟩; rw [HEV.out]; rw [HBD.out] at hn21; have HV21 := Lib.hid (HV20.out.call hb21); obtain ⟨va, vc, hv', _⟩ := hn21.shape; rw [List.length_nil] at hv'; rw [hv']; clear hn21 hw21 hc21 hb21 hv')
                  | ((with_reducible refine at_store (.tmp 9) ?_); refine wpList_store_blk rfl 25 (.tmp 9) _ rfl w21.heap.size #[.slice va 0 vc] rfl rfl #[.slice none 0 0] (Blk.new rfl) rfl hi1 (by simp [Value.oneCell']) ?_; intro w22 U22 B22; have hb22 := U22.below ((Below.refl w21.heap.size w21).alloc (Nat.le_refl _) (.cells #[.slice none 0 0] 25)) (Nat.le_refl _); have HV22 := Lib.hid (HV21.out.call hb22); have HC22 := Lib.hid (HV22.out.t.cell 0); clear U22 B22 hb22)
                  | ((with_reducible refine at_load (.tmp 109) ?_); refine wpList_load_1 23 (.tmp 109) rfl B 0 (.slice (some ⟨rb, ro, none⟩) n sc) HC22.out rfl _ Try.underlying23 rfl rfl ?_)
                  | ((with_reducible refine at_store (.tmp 2) ?_); refine wpList_store_blk rfl 25 (.tmp 2) _ rfl w.heap.size #[.slice (some ⟨rb, ro, none⟩) n sc] rfl rfl #[.slice none 0 0] HV22.out.r rfl hi1 (by simp [Value.oneCell']) ?_; intro w24 U9 B9; have HR9 := Lib.hid B9; have HB9 := Lib.hid (U9.below HV22.out.b (Nat.le_refl _)); have HN9 := Lib.hid (HV22.out.n.grownOff (upd_grown U9) HV22.out.o1); clear U9 B9))
                exact bodyPost_ret (res_cellB rfl rfl HR9.out Try.underlying25 rfl hi1) rfl ⟨_, ns, rfl, HN9.out, HCP.out, HOK.out, by rw [HLEN.out]; omega, HB9.out, HNZ.out⟩

theorem tree_any (v : Value) (l : List Int) (w : World) (hl : IntsV w v l) : Calls Try.prog 9 #[v] w (TreeE w) :=
  (treen_any v l w hl).mono fun _ _ ⟨s, ns, h1, h2, h3, h4, h5, h6, _⟩ => ⟨s, ns, h1, h2, h3, h4, h5, h6⟩
end

/-! BtK -/
section
set_option linter.unusedVariables false
set_option linter.unusedSimpArgs false
open Go.RowKit

set_option maxRecDepth 100000

/-- Blocks that are built of a root, or of a root, a parent and a slot. -/
theorem build_bR {r : List Int} (hr : IsBytes 32 r) (u : World) : (Instr.build 39 #[(2, .agg (bytesL r).toArray)]).run Try.prog u = .ok (.agg (flatP (bk4 0 r zeroR zeroR).parts)) u := by
  have hl := bytesL_len hr
  refine build_struct (zero := flatP zeBk10) zeBk_hz Try.underlying39 (places := #[(0, 66), (66, 1), (67, 32), (99, 32), (131, 32), (163, 4), (167, 4), (171, 33), (204, 33), (237, 1)]) (fun w => by kernel_rfl) ?_ u
  show Instr.fill _ (flatP zeBk10) [(2, .agg (bytesL r).toArray)] = _
  rw [fill_part (i := 2) (o := 67) 2 (bytesL zeroR) (bytesL r) rfl rfl (by rw [hl]; rfl) rfl (by rw [hl]; rfl)]
  unfold Instr.fill
  simp [flatP, zeBk10, bk4, BkD.parts, CpD.cells, wideL, l0, l1, l2, l3, List.replicate]

theorem build_bRP {s : Int} {r p : List Int} (hr : IsBytes 32 r) (hp : IsBytes 32 p) (u : World) : (Instr.build 39 #[(2, .agg (bytesL r).toArray), (3, .agg (bytesL p).toArray), (1, .int .u64 s)]).run Try.prog u = .ok (.agg (flatP (bk4 s r p zeroR).parts)) u := by
  have hl := bytesL_len hr
  have hl1 := bytesL_len hp
  refine build_struct (zero := flatP zeBk10) zeBk_hz Try.underlying39 (places := #[(0, 66), (66, 1), (67, 32), (99, 32), (131, 32), (163, 4), (167, 4), (171, 33), (204, 33), (237, 1)]) (fun w => by kernel_rfl) ?_ u
  show Instr.fill _ (flatP zeBk10) [(2, .agg (bytesL r).toArray), (3, .agg (bytesL p).toArray), (1, .int .u64 s)] = _
  rw [fill_part (i := 2) (o := 67) 2 (bytesL zeroR) (bytesL r) rfl rfl (by rw [hl]; rfl) rfl (by rw [hl]; rfl), fill_part (i := 3) (o := 99) 3 (bytesL zeroR) (bytesL p) rfl rfl (by rw [hl1]; rfl) (by simp [zeBk10, offP, hl, bytesL_len zeroR_is]) (by rw [hl1]; rfl), fill_part (i := 1) (o := 66) 1 [.int .u64 0] [.int .u64 s] rfl rfl rfl rfl rfl]
  unfold Instr.fill
  simp [flatP, zeBk10, bk4, BkD.parts, CpD.cells, wideL, l0, l1, l2, l3, List.replicate]

theorem bs_int2 (m n : Int) (u : World) : (Instr.buildSlice 22 2 #[(0, .int .i64 m), (1, .int .i64 n)]).run Try.prog u = .ok (.slice (some ⟨u.heap.size, 0, none⟩) 2 2) (u.alloc (.cells #[.int .i64 m, .int .i64 n] 3)) := by kernel_rfl

theorem ints_two11 {w : World} {g : Nat} {m n : Int} (h : Blk w g #[.int .i64 m, .int .i64 n]) (hm : -9223372036854775808 ≤ m ∧ m ≤ 9223372036854775807) (hn : -9223372036854775808 ≤ n ∧ n ≤ 9223372036854775807) : IntsV w (.slice (some ⟨g, 0, none⟩) 2 2) [m, n] := by
  refine ⟨⟨_, _, _, rfl, rfl, by unfold maxLen; omega, .inr ⟨g, 0, rfl, h.lt, fun i hi => ?_⟩⟩, fun x hx => ?_⟩
  · have : i = 0 ∨ i = 1 := by omega
    rcases this with rfl | rfl
    · exact h.cell 0
    · exact h.cell 1
  · simp at hx
    rcases hx with rfl | rfl
    · exact hm
    · exact hn

theorem same_12 (v1 v2 : Value) (l : List Int) (u : World) (h1 : IntsV u v1 l) (h2 : IntsV u v2 l) : Calls Try.prog 16 #[v1, v2] u fun e w' => e = .returned (.bool true) ∧ Below u.heap.size u w' :=
  (sints2 v1 v2 l l u h1 h2).mono fun e w' ⟨b, he, hb, hbl⟩ => ⟨by rw [he, hb.2 rfl], hbl⟩

theorem rowInts {w : World} {a : Option Addr} {len cap : Nat} {zs : List Int} (h : IsRow .i64 w a len cap zs) : IntsV w (.slice a len cap) (zs.take len) := ⟨h.ints.1, fun x hx => wf_i64 (h.ints.2 x hx)⟩
end

/-! NdW -/
section
set_option linter.unusedVariables false
set_option linter.unusedSimpArgs false
open Go.RowKit

set_option maxRecDepth 100000

/-- A tree's variable in block bt, and what was before. -/
structure AnS (w : World) (bt : Nat) (s : Value) (ns : List NdD) (u : World) : Prop where
  t : Blk u bt #[s]
  n : NodesV u s ns
  b : Below w.heap.size w u

theorem AnS.call {w u u' : World} {bt : Nat} {s : Value} {ns : List NdD} (h : AnS w bt s ns u) (hb : Below u.heap.size u u') : AnS w bt s ns u' := ⟨h.t.call hb, h.n.call hb, h.b.trans (hb.mono h.b.size)⟩

/-- Nodes written out. -/
def ndX (ns : List NdD) : List (Array Value) := ns.map fun d => d.cells.toArray

theorem bs_nodes {ns : List NdD} (h : ∀ d ∈ ns, d.ok) (hn : 0 < ns.length) (hm : ns.length ≤ 1000) (u : World) :
    (Instr.buildSlice 23 ns.length (prtN 0 (ndX ns)).toArray).run Try.prog u = .ok (.slice (some ⟨u.heap.size, 0, none⟩) ns.length ns.length) (u.alloc (.cells (rowsL (ndX ns)).toArray 41)) := by
  have h := buildElN (P := Try.prog) (t := 23) (e := 41) (Z := flatP (zeBkP ++ [[.int .i64 0], [.int .i64 0]])) (sz := 240) Try.underlying23 (fun w => by kernel_rfl) (by kernel_rfl) (by omega) (ndX ns) (fun X hX => by
    obtain ⟨d, hd, rfl⟩ := List.mem_map.1 hX
    rw [List.size_toArray, NdD.len (h d hd)]) (by simpa [ndX] using hn) (by simp [ndX]; omega) u
  have e : (ndX ns).length = ns.length := by simp [ndX]
  rwa [e] at h

theorem new_nodes {ns : List NdD} (h : ∀ d ∈ ns, d.ok) (hm : ns.length ≤ 1000) (u : World) : NodesV (u.alloc (.cells (rowsL (ndX ns)).toArray 41)) (.slice (some ⟨u.heap.size, 0, none⟩) ns.length ns.length) ns := by
  have hB : Blk (u.alloc (.cells (rowsL (ndX ns)).toArray 41)) u.heap.size (rowsL (ndX ns)).toArray := Blk.new rfl
  refine ⟨_, _, rfl, by unfold maxLen; omega, .inr ⟨u.heap.size, 0, rfl, hB.lt, ndX ns, ?_, by simp [ndX], ?_⟩⟩
  · have := hB.range; simpa using this
  · intro p hp
    obtain ⟨i, hi, rfl⟩ := List.mem_iff_getElem.1 hp
    simp only [List.length_zip, ndX, List.length_map] at hi
    simp only [List.getElem_zip, ndX, List.getElem_map]
    exact ⟨rfl, h _ (List.getElem_mem _)⟩

theorem build_ndA (x : BkD) (up : Int) (hx : x.ok) (u : World) : (Instr.build 41 #[(0, .agg (flatP x.parts)), (1, .int .i64 up)]).run Try.prog u = .ok (.agg (⟨x, up, 0⟩ : NdD).cells.toArray) u := by
  have hl := BkD.flen hx
  refine build_struct (zero := flatP [zeBkP.flatten, [.int .i64 0], [.int .i64 0]]) (fun w => by kernel_rfl) Try.underlying41 (places := #[(0, 238), (238, 1), (239, 1)]) (fun w => by kernel_rfl) ?_ u
  show Instr.fill _ (flatP [zeBkP.flatten, [.int .i64 0], [.int .i64 0]]) [(0, .agg (flatP x.parts)), (1, .int .i64 up)] = _
  rw [fill_part 0 zeBkP.flatten x.parts.flatten rfl rfl (by rw [hl]; rfl) rfl (by rw [hl]; rfl), fill_part (i := 1) (o := 238) 1 [.int .i64 0] [.int .i64 up] rfl rfl rfl (by simp [offP, hl]) rfl]
  unfold Instr.fill
  simp [flatP, NdD.cells]

theorem build_ndB (x : BkD) (hx : x.ok) (u : World) : (Instr.build 41 #[(0, .agg (flatP x.parts))]).run Try.prog u = .ok (.agg (⟨x, 0, 0⟩ : NdD).cells.toArray) u := by
  have hl := BkD.flen hx
  refine build_struct (zero := flatP [zeBkP.flatten, [.int .i64 0], [.int .i64 0]]) (fun w => by kernel_rfl) Try.underlying41 (places := #[(0, 238), (238, 1), (239, 1)]) (fun w => by kernel_rfl) ?_ u
  show Instr.fill _ (flatP [zeBkP.flatten, [.int .i64 0], [.int .i64 0]]) [(0, .agg (flatP x.parts))] = _
  rw [fill_part 0 zeBkP.flatten x.parts.flatten rfl rfl (by rw [hl]; rfl) rfl (by rw [hl]; rfl)]
  unfold Instr.fill
  simp [flatP, NdD.cells]

theorem ints_three {w : World} {g : Nat} {l m n : Int} (h : Blk w g #[.int .i64 l, .int .i64 m, .int .i64 n]) (hl : -9223372036854775808 ≤ l ∧ l ≤ 9223372036854775807) (hm : -9223372036854775808 ≤ m ∧ m ≤ 9223372036854775807) (hn : -9223372036854775808 ≤ n ∧ n ≤ 9223372036854775807) : IntsV w (.slice (some ⟨g, 0, none⟩) 3 3) [l, m, n] := by
  refine ⟨⟨_, _, _, rfl, rfl, by unfold maxLen; omega, .inr ⟨g, 0, rfl, h.lt, fun i hi => ?_⟩⟩, fun x hx => ?_⟩
  · have : i = 0 ∨ i = 1 ∨ i = 2 := by omega
    rcases this with rfl | rfl | rfl
    · exact h.cell 0
    · exact h.cell 1
    · exact h.cell 2
  · simp at hx
    rcases hx with rfl | rfl | rfl
    · exact hl
    · exact hm
    · exact hn

/-- A node with its status, and one without its parent's index. -/
theorem build_ndC (x : BkD) (up st : Int) (hx : x.ok) (u : World) : (Instr.build 41 #[(0, .agg (flatP x.parts)), (1, .int .i64 up), (2, .int .i64 st)]).run Try.prog u = .ok (.agg (⟨x, up, st⟩ : NdD).cells.toArray) u := by
  have hl := BkD.flen hx
  refine build_struct (zero := flatP [zeBkP.flatten, [.int .i64 0], [.int .i64 0]]) (fun w => by kernel_rfl) Try.underlying41 (places := #[(0, 238), (238, 1), (239, 1)]) (fun w => by kernel_rfl) ?_ u
  show Instr.fill _ (flatP [zeBkP.flatten, [.int .i64 0], [.int .i64 0]]) [(0, .agg (flatP x.parts)), (1, .int .i64 up), (2, .int .i64 st)] = _
  rw [fill_part 0 zeBkP.flatten x.parts.flatten rfl rfl (by rw [hl]; rfl) rfl (by rw [hl]; rfl), fill_part (i := 1) (o := 238) 1 [.int .i64 0] [.int .i64 up] rfl rfl rfl (by simp [offP, hl]) rfl, fill_part (i := 2) (o := 239) 2 [.int .i64 0] [.int .i64 st] rfl rfl rfl (by simp [offP, hl]) rfl]
  unfold Instr.fill
  simp [flatP, NdD.cells]

theorem build_ndD (x : BkD) (st : Int) (hx : x.ok) (u : World) : (Instr.build 41 #[(0, .agg (flatP x.parts)), (2, .int .i64 st)]).run Try.prog u = .ok (.agg (⟨x, 0, st⟩ : NdD).cells.toArray) u := by
  have hl := BkD.flen hx
  refine build_struct (zero := flatP [zeBkP.flatten, [.int .i64 0], [.int .i64 0]]) (fun w => by kernel_rfl) Try.underlying41 (places := #[(0, 238), (238, 1), (239, 1)]) (fun w => by kernel_rfl) ?_ u
  show Instr.fill _ (flatP [zeBkP.flatten, [.int .i64 0], [.int .i64 0]]) [(0, .agg (flatP x.parts)), (2, .int .i64 st)] = _
  rw [fill_part 0 zeBkP.flatten x.parts.flatten rfl rfl (by rw [hl]; rfl) rfl (by rw [hl]; rfl), fill_part (i := 2) (o := 239) 2 [.int .i64 0] [.int .i64 st] rfl rfl rfl (by simp [offP, hl]) rfl]
  unfold Instr.fill
  simp [flatP, NdD.cells]

theorem NodesV.offBlk {u : World} {a : Option Addr} {m c : Nat} {ns : List NdD} (h : NodesV u (.slice a m c) ns) {g : Nat} {X : Array Value} (hB : Blk u g X) (hs : X.size < 240) : Off g (.slice a m c) := by
  intro z l c' e h0
  cases e
  obtain ⟨_, _, e1, hl, _⟩ := h
  cases e1
  have hn0 : 0 < ns.length := h0
  obtain ⟨b, off, e2, _, _, hna, _⟩ := NodesV.elem (w := u) (a := some z) (l := ns.length) (cap := c) (ns := ns) ⟨_, _, rfl, hl, by assumption⟩ hn0
  cases e2
  intro e3
  simp only at e3
  subst e3
  have hc := hna.st
  rw [hB.cell] at hc
  have := (Array.getElem?_eq_some_iff.1 hc).1
  omega
end

end Go.Proofs.Ytdmjpmigejpkmaa
