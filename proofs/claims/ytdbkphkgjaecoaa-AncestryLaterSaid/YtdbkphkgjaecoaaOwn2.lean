/- XOwn's theorem, as a walk uses it: the region's text is looked at by a Bool; one or two variables. -/
import Derived.Test.YtdbkphkgjaecoaaOwn
set_option linter.unusedVariables false
namespace Go.Proofs.Ytdbkphkgjaecoaa
open Go.RowKit

def pairB (ops : Array Oper) (i j : Nat) (oi oj : Oper) : Bool :=
  (i == j || match oi.dst with | some d => oj.dst != some d | none => true) &&
  (match oj.dst with | some d => (!(oi.looksAt ops).contains d || (waits oi j && decide (j < i)) || (waits oj i && decide (i < j))) && (!(alOf oj && quOf oi) || !(oi.looksAt ops).contains d) | none => true) &&
  (match oi.op with
   | .store _ (.tmp d) y => (i == j || match oj.op with | .store _ (.tmp d') _ => d != d' | _ => true) && (match y with | .tmp t => (match oj.dst with | some d' => d' != t || (quOf oj && waits oi j) | none => true) | _ => true)
   | _ => true)

def soloB (ops : Array Oper) (n i : Nat) (oi : Oper) : Bool :=
  (match oi.dst with | some d => decide (d < n) | none => true) && oi.after.all (fun e => !Region.binds .any e || decide (e.on < i)) &&
  (match oi.op with
   | .select _ _ => false
   | .alloc _ => oi.guard.isNone && oi.dst.isSome
   | .store _ (.tmp d) _ => oi.guard.isNone && oi.dst.isNone && (List.range ops.size).any fun j => match ops[j]? with | some oj => alOf oj && oj.dst == some d && waits oi j | none => false
   | .store _ _ _ => false
   | _ => true)

def ownB (ops : Array Oper) (n : Nat) : Bool := (List.range ops.size).all fun i => match ops[i]? with
  | some oi => soloB ops n i oi && (List.range ops.size).all fun j => match ops[j]? with | some oj => pairB ops i j oi oj | none => true
  | none => true

theorem ownB_solo {ops : Array Oper} {n : Nat} (h : ownB ops n = true) {i : Nat} {oi : Oper} (hi : ops[i]? = some oi) : soloB ops n i oi = true ∧ ∀ (j : Nat) (oj : Oper), ops[j]? = some oj → pairB ops i j oi oj = true := by
  have hlt := (Array.getElem?_eq_some_iff.1 hi).1
  unfold ownB at h
  rw [List.all_eq_true] at h
  have h1 := h i (List.mem_range.2 hlt)
  rw [hi] at h1
  simp only [Bool.and_eq_true, List.all_eq_true] at h1
  refine ⟨h1.1, fun j oj hj => ?_⟩
  have h2 := h1.2 j (List.mem_range.2 (Array.getElem?_eq_some_iff.1 hj).1)
  rw [hj] at h2
  exact h2

theorem own_of {ops : Array Oper} {n : Nat} (h : ownB ops n = true) : OwnOK ops n := by
  have solo : ∀ (i : Nat) (oi : Oper), ops[i]? = some oi → soloB ops n i oi = true := fun i oi hi => (ownB_solo h hi).1
  have pair : ∀ (i j : Nat) (oi oj : Oper), ops[i]? = some oi → ops[j]? = some oj → pairB ops i j oi oj = true := fun i j oi oj hi hj => (ownB_solo h hi).2 j oj hj
  refine ⟨fun i j oi oj d hi hj hne hd => ?_, fun i oi d hi hd => ?_, fun i j oi oj d hi hj hd hl => ?_, fun i oi hi e he hb => ?_, fun i oi cs b hi ho => ?_, fun i oi hi ha => ?_, fun i oi hi hs => ?_, fun i j oi oj d hi hj ha hd hq hl => ?_, fun i j oi oj ty ty' d y y' hi hj ho ho' => ?_⟩
  · have := pair i j oi oj hi hj
    unfold pairB at this
    simp only [Bool.and_eq_true, hd] at this
    simpa [hne] using this.1.1
  · have := solo i oi hi
    unfold soloB at this
    simp only [Bool.and_eq_true, hd, decide_eq_true_eq] at this
    exact this.1.1
  · have := pair i j oi oj hi hj
    unfold pairB at this
    simp only [Bool.and_eq_true, hd] at this
    have h2 := this.1.2.1
    simpa [hl] using h2
  · have := solo i oi hi
    unfold soloB at this
    simp only [Bool.and_eq_true] at this
    have h2 := Array.all_eq_true_iff_forall_mem.1 this.1.2 e he
    simpa [hb] using h2
  · have := solo i oi hi
    unfold soloB at this
    rw [ho] at this
    simp at this
  · have := solo i oi hi
    unfold soloB at this
    unfold alOf at ha
    cases hop : oi.op <;> rw [hop] at ha <;> simp at ha
    rw [hop] at this
    simp only [Bool.and_eq_true, Option.isNone_iff_eq_none, Option.isSome_iff_exists] at this
    obtain ⟨d, hd⟩ := this.2.2
    exact ⟨this.2.1, d, _, hd, rfl⟩
  · have hsolo := solo i oi hi
    unfold soloB at hsolo
    unfold stOf at hs
    cases hop : oi.op <;> rw [hop] at hs <;> simp at hs
    rename_i ty x y
    rw [hop] at hsolo
    cases x with
    | tmp d =>
      simp only [Bool.and_eq_true, Option.isNone_iff_eq_none, List.any_eq_true] at hsolo
      obtain ⟨_, ⟨hg, hdn⟩, j, hjm, hj⟩ := hsolo
      refine ⟨hg, hdn, ty, d, y, rfl, ?_, fun k ok hk d' hd' hy => ?_⟩
      · cases hoj : ops[j]? with
        | none => rw [hoj] at hj; simp at hj
        | some oj =>
          rw [hoj] at hj
          simp only [Bool.and_eq_true, beq_iff_eq] at hj
          exact ⟨j, oj, hoj, hj.1.1, hj.1.2, hj.2⟩
      · have := pair i k oi ok hi d'
        unfold pairB at this
        rw [hop, hy, hd'] at this
        simp only [Bool.and_eq_true] at this
        have h2 := this.2.2
        simpa using h2
    | _ => simp at hsolo
  · have := pair i j oi oj hi hj
    unfold pairB at this
    simp only [Bool.and_eq_true, hd] at this
    have h2 := this.1.2.2
    simp [ha, hq, hl] at h2
  · have := pair i j oi oj hi hj
    unfold pairB at this
    rw [ho] at this
    simp only [Bool.and_eq_true, ho'] at this
    have h2 := this.2.1
    simpa using h2

theorem wp_region_own {P : Program} {l : List Oper} {id : Nat} {Q : Exit → Act → World → Prop} {a0 : Act} {w : World} {A : Act} {sz : Nat → Nat} {K : Nat → Array Value} (hm : P.follows .mixedOrders = true) (hB : ownB l.toArray a0.tmps.size = true)
    (HA : ∀ W1, Below w.heap.size w W1 → ∀ (T : Type) (F : T → World), Nonempty T → (∀ t, Below W1.heap.size W1 (F t)) → (∀ w', Below W1.heap.size W1 w' → ∃ t, w' = F t) →
      wpQuiet P l.toArray (fun w' => ∃ t, w' = F t) (fun a' => a' = A) (l.filter quOf) a0)
    (vl : OwnVal P l.toArray A sz K)
    (hQ : ∀ (c : Nat → Nat) (a' : Act) (w' : World), a'.defers = A.defers → a'.tmps.size = A.tmps.size → (∀ t : Tmp, (∀ (j : Nat) (oj : Oper), l[j]? = some oj → alOf oj = true → oj.dst ≠ some t) → a'.tmps[t]? = A.tmps[t]?) →
      (∀ (j : Nat) (oj : Oper) (d : Tmp), l[j]? = some oj → alOf oj = true → oj.dst = some d → a'.tmps[d]? = some (.pointer (some ⟨c j, 0, none⟩)) ∧ d < A.tmps.size) → Below w.heap.size w w' →
      (∀ (j s : Nat) (oj os : Oper) (d : Tmp) (ty : TypeId) (y : Operand), l[j]? = some oj → alOf oj = true → oj.dst = some d → l[s]? = some os → os.op = .store ty (.tmp d) y → w.heap.size ≤ c j ∧ Blk w' (c j) (K s)) →
      (∀ (i j : Nat) (oi oj : Oper), l[i]? = some oi → l[j]? = some oj → alOf oi = true → alOf oj = true → i ≠ j → c i ≠ c j) → Q .normal a' w') :
    (Code.region id l.toArray true).wp P Q a0 w := by
  have ok := own_of hB
  have HA' : ∀ W1, Below w.heap.size w W1 → wpQuiet P l.toArray (fun u => Below W1.heap.size W1 u) (fun a' => a' = A) (l.toArray.toList.filter quOf) a0 := fun W1 hW1 => by
    have h := HA W1 hW1 {u // Below W1.heap.size W1 u} Subtype.val ⟨⟨W1, Below.refl _ _⟩⟩ (fun t => t.2) (fun w' h => ⟨⟨w', h⟩, rfl⟩)
    have e : (fun w' => ∃ t : {u // Below W1.heap.size W1 u}, w' = t.val) = fun u => Below W1.heap.size W1 u := by
      funext u
      apply propext
      exact ⟨fun ⟨t, ht⟩ => ht ▸ t.2, fun h => ⟨⟨u, h⟩, rfl⟩⟩
    rw [e] at h
    simpa using h
  have hF := quiet_final _ _ (HA' w (Below.refl _ _))
  refine wp_region_any hm (own_any (W0 := w) ok vl HA' (fun listed c a w' I hall => ?_) _ _ (fun _ => 0) a0 _ ?_ ?_)
  · have hget : ∀ (j : Nat) (oj : Oper), l[j]? = some oj → l.toArray[j]? = some oj := fun j oj h => by simpa using h
    have hl : ∀ (j : Nat) (oj : Oper), l[j]? = some oj → listed.getD j false = true := fun j oj h => hall j (by have := (List.getElem?_eq_some_iff.1 h).1; simpa using this)
    refine hQ c a w' (I.defers.trans hF.1.symm) (I.tsize.trans hF.2.1.symm) (fun t ht => ?_) (fun j oj d hj haj hd => ⟨I.alloc j oj d (hget j oj hj) haj (hl j oj hj) hd, by rw [hF.2.1]; exact ok.inside j oj d (hget j oj hj) hd⟩) I.below (fun j s oj os d ty y hj haj hd hs ho => ?_) (fun i j oi oj hi hj hai haj hne => I.inj i j oi oj (hget i oi hi) (hget j oj hj) hai haj (hl i oi hi) (hl j oj hj) hne)
    · by_cases hq : ∃ (j : Nat) (oj : Oper), l[j]? = some oj ∧ quOf oj = true ∧ oj.dst = some t
      · obtain ⟨j, oj, hj, hqj, hd⟩ := hq
        exact I.quiet j oj t (hget j oj hj) hqj (hl j oj hj) hd
      · have hno : ∀ (j : Nat) (oj : Oper), l[j]? = some oj → oj.dst ≠ some t := fun j oj hj hd => by
          rcases kind3 oj with h | h | h
          · exact hq ⟨j, oj, hj, h, hd⟩
          · exact ht j oj hj h hd
          · rw [(ok.store j oj (hget j oj hj) h).2.1] at hd; cases hd
        rw [I.rest t (fun j oj hj _ => hno j oj (by simpa using hj)), hF.2.2 t (fun o ho hd => by
          obtain ⟨p, hp⟩ := List.getElem?_of_mem (List.mem_filter.1 ho).1
          exact hno p o (by simpa using hp) hd)]
    · obtain ⟨h1, cs, h2, _, h4⟩ := I.owns j oj d (hget j oj hj) haj (hl j oj hj) hd
      rw [h4 s os ty y (hget s os hs) ho (hl s os hs)] at h2
      exact ⟨h1, h2⟩
  · have hno : ∀ j, (Array.replicate l.toArray.size false).getD j false ≠ true := fun j => by
      by_cases hj : j < l.toArray.size
      · simp at hj; simp [hj]
      · simp at hj; simp [hj]
    exact ⟨by simp, fun i oi _ hl => absurd hl (hno i), rfl, rfl, fun j oj d _ _ hl => absurd hl (hno j), fun j oj d _ _ hl => absurd hl (hno j), fun _ _ => rfl, ⟨rfl, rfl, rfl, Nat.le_refl _, fun _ _ => rfl⟩, fun j oj d _ _ hl => absurd hl (hno j), fun i j oi oj _ _ _ _ hl => absurd hl (hno i)⟩
  · unfold cntOf
    exact Nat.le_trans (List.length_filter_le _ _) (by simp)

theorem act_ext {a b : Act} (hd : a.defers = b.defers) (hs : a.tmps.size = b.tmps.size) (h : ∀ t : Nat, a.tmps[t]? = b.tmps[t]?) : a = b := by
  cases a; cases b
  simp only at *
  subst hd
  congr 1
  exact Array.ext_getElem? h

def alsOf (l : List Oper) : List Nat := (List.range l.length).filter fun i => match l[i]? with | some o => alOf o | none => false

def stsOf (l : List Oper) : List Nat := (List.range l.length).filter fun i => match l[i]? with | some o => stOf o | none => false

theorem mem_als {l : List Oper} {i : Nat} {o : Oper} (hi : l[i]? = some o) (h : alOf o = true) : i ∈ alsOf l :=
  List.mem_filter.2 ⟨List.mem_range.2 (List.getElem?_eq_some_iff.1 hi).1, by rw [hi]; exact h⟩

theorem mem_sts {l : List Oper} {i : Nat} {o : Oper} (hi : l[i]? = some o) (h : stOf o = true) : i ∈ stsOf l :=
  List.mem_filter.2 ⟨List.mem_range.2 (List.getElem?_eq_some_iff.1 hi).1, by rw [hi]; exact h⟩

/-- One variable. -/
theorem wp_region_own1 {P : Program} {l : List Oper} {id : Nat} {Q : Exit → Act → World → Prop} {a0 : Act} {w : World} {A : Act} (j s : Nat) {d : Tmp} {t ty : TypeId} {y : Operand} (K Z : Array Value) (hm : P.follows .mixedOrders = true) (hB : ownB l.toArray a0.tmps.size = true)
    (hal : alsOf l = [j]) (hst : stsOf l = [s]) (hj : (l[j]?).map (fun o => (o.dst, o.op)) = some (some d, .alloc t)) (hs : (l[s]?).map (·.op) = some (.store ty (.tmp d) y))
    (hz : ∀ w, (zeroValue t).run P w = .ok (.agg Z) w) (hsz : Z.size = K.size) (hi : (P.info? ty).map (·.size) = some K.size) (h1 : ∀ v ∈ K, v.oneCell' = true)
    (HA : ∀ W1, Below w.heap.size w W1 → ∀ (T : Type) (F : T → World), Nonempty T → (∀ t, Below W1.heap.size W1 (F t)) → (∀ w', Below W1.heap.size W1 w' → ∃ t, w' = F t) →
      wpQuiet P l.toArray (fun w' => ∃ t, w' = F t) (fun a' => a' = A) (l.filter quOf) a0)
    (hy : A.eval y = .agg K)
    (hQ : ∀ (b : Nat) (w' : World), w.heap.size ≤ b → Below w.heap.size w w' → Blk w' b K → Q .normal (A.put (some d) (.pointer (some ⟨b, 0, none⟩))) w') :
    (Code.region id l.toArray true).wp P Q a0 w := by
  obtain ⟨oj, hoj, hoj'⟩ := Option.map_eq_some_iff.1 hj
  obtain ⟨os, hos, hos'⟩ := Option.map_eq_some_iff.1 hs
  simp only [Prod.mk.injEq] at hoj'
  have haj : alOf oj = true := by unfold alOf; rw [hoj'.2]
  have oneA : ∀ (i : Nat) (oi : Oper), l[i]? = some oi → alOf oi = true → i = j ∧ oi = oj := fun i oi h ha => by
    have hm' := mem_als h ha
    rw [hal] at hm'
    obtain rfl : i = j := by simpa using hm'
    rw [hoj] at h; cases h; exact ⟨rfl, rfl⟩
  have oneS : ∀ (i : Nat) (oi : Oper), l[i]? = some oi → stOf oi = true → i = s ∧ oi = os := fun i oi h ha => by
    have hm' := mem_sts h ha
    rw [hst] at hm'
    obtain rfl : i = s := by simpa using hm'
    rw [hos] at h; cases h; exact ⟨rfl, rfl⟩
  refine wp_region_own (A := A) (sz := fun _ => K.size) (K := fun _ => K) hm hB HA ⟨fun i oi t' h ho => ?_, fun i oi ty' d' y' h ho => ?_⟩ (fun c a' w' g1 g2 g3 g4 g5 g6 _ => ?_)
  · obtain ⟨rfl, rfl⟩ := oneA i oi (by simpa using h) (by unfold alOf; rw [ho])
    rw [hoj'.2] at ho; cases ho
    exact ⟨Z, hz, hsz⟩
  · obtain ⟨rfl, rfl⟩ := oneS i oi (by simpa using h) (by unfold stOf; rw [ho])
    rw [hos'] at ho; cases ho
    exact ⟨hy, hi, h1, fun _ _ _ _ _ => rfl⟩
  · obtain ⟨p1, p2⟩ := g4 j oj d hoj haj hoj'.1
    obtain ⟨q1, q2⟩ := g6 j s oj os d ty y hoj haj hoj'.1 hos hos'
    have e : a' = A.put (some d) (.pointer (some ⟨c j, 0, none⟩)) := act_ext (g1.trans put_defers.symm) (g2.trans put_size.symm) fun t' => by
      rw [put_at]
      by_cases h : d = t'
      · subst h; rw [if_pos rfl, if_pos p2, p1]
      · rw [if_neg h]
        exact g3 t' fun i oi hi' ha hd => by
          obtain ⟨rfl, rfl⟩ := oneA i oi hi' ha
          rw [hoj'.1] at hd; cases hd; exact h rfl
    rw [e]
    exact hQ _ w' q1 g5 q2

/-- Two variables. -/
theorem wp_region_own2 {P : Program} {l : List Oper} {id : Nat} {Q : Exit → Act → World → Prop} {a0 : Act} {w : World} {A : Act} (j1 s1 j2 s2 : Nat) {d1 d2 : Tmp} {t1 ty1 t2 ty2 : TypeId} {y1 y2 : Operand} (K1 Z1 K2 Z2 : Array Value) (hm : P.follows .mixedOrders = true) (hB : ownB l.toArray a0.tmps.size = true)
    (hal : alsOf l = [j1, j2]) (hst : stsOf l = [s1, s2]) (hne : j1 ≠ j2 ∧ s1 ≠ s2) (hj1 : (l[j1]?).map (fun o => (o.dst, o.op)) = some (some d1, .alloc t1)) (hs1 : (l[s1]?).map (·.op) = some (.store ty1 (.tmp d1) y1))
    (hj2 : (l[j2]?).map (fun o => (o.dst, o.op)) = some (some d2, .alloc t2)) (hs2 : (l[s2]?).map (·.op) = some (.store ty2 (.tmp d2) y2))
    (hz1 : ∀ w, (zeroValue t1).run P w = .ok (.agg Z1) w) (hsz1 : Z1.size = K1.size) (hi1 : (P.info? ty1).map (·.size) = some K1.size) (h11 : ∀ v ∈ K1, v.oneCell' = true)
    (hz2 : ∀ w, (zeroValue t2).run P w = .ok (.agg Z2) w) (hsz2 : Z2.size = K2.size) (hi2 : (P.info? ty2).map (·.size) = some K2.size) (h12 : ∀ v ∈ K2, v.oneCell' = true)
    (HA : ∀ W1, Below w.heap.size w W1 → ∀ (T : Type) (F : T → World), Nonempty T → (∀ t, Below W1.heap.size W1 (F t)) → (∀ w', Below W1.heap.size W1 w' → ∃ t, w' = F t) →
      wpQuiet P l.toArray (fun w' => ∃ t, w' = F t) (fun a' => a' = A) (l.filter quOf) a0)
    (hy1 : A.eval y1 = .agg K1) (hy2 : A.eval y2 = .agg K2)
    (hQ : ∀ (b1 b2 : Nat) (w' : World), b1 ≠ b2 → w.heap.size ≤ b1 → w.heap.size ≤ b2 → Below w.heap.size w w' → Blk w' b1 K1 → Blk w' b2 K2 → Q .normal ((A.put (some d1) (.pointer (some ⟨b1, 0, none⟩))).put (some d2) (.pointer (some ⟨b2, 0, none⟩))) w') :
    (Code.region id l.toArray true).wp P Q a0 w := by
  obtain ⟨oj1, hoj1, hoj1'⟩ := Option.map_eq_some_iff.1 hj1
  obtain ⟨os1, hos1, hos1'⟩ := Option.map_eq_some_iff.1 hs1
  obtain ⟨oj2, hoj2, hoj2'⟩ := Option.map_eq_some_iff.1 hj2
  obtain ⟨os2, hos2, hos2'⟩ := Option.map_eq_some_iff.1 hs2
  simp only [Prod.mk.injEq] at hoj1' hoj2'
  have haj1 : alOf oj1 = true := by unfold alOf; rw [hoj1'.2]
  have haj2 : alOf oj2 = true := by unfold alOf; rw [hoj2'.2]
  have ok := own_of hB
  have hdne : d1 ≠ d2 := fun e => by
    have := ok.one j1 j2 oj1 oj2 d1 (by simpa using hoj1) (by simpa using hoj2) hne.1 hoj1'.1
    rw [hoj2'.1, e] at this
    exact this rfl
  have oneA : ∀ (i : Nat) (oi : Oper), l[i]? = some oi → alOf oi = true → (i = j1 ∧ oi = oj1) ∨ (i = j2 ∧ oi = oj2) := fun i oi h ha => by
    have hm' := mem_als h ha
    rw [hal] at hm'
    have : i = j1 ∨ i = j2 := by simpa using hm'
    rcases this with rfl | rfl
    · rw [hoj1] at h; cases h; exact .inl ⟨rfl, rfl⟩
    · rw [hoj2] at h; cases h; exact .inr ⟨rfl, rfl⟩
  have oneS : ∀ (i : Nat) (oi : Oper), l[i]? = some oi → stOf oi = true → (i = s1 ∧ oi = os1) ∨ (i = s2 ∧ oi = os2) := fun i oi h ha => by
    have hm' := mem_sts h ha
    rw [hst] at hm'
    have : i = s1 ∨ i = s2 := by simpa using hm'
    rcases this with rfl | rfl
    · rw [hos1] at h; cases h; exact .inl ⟨rfl, rfl⟩
    · rw [hos2] at h; cases h; exact .inr ⟨rfl, rfl⟩
  refine wp_region_own (A := A) (sz := fun i => if i = j1 then K1.size else K2.size) (K := fun i => if i = s1 then K1 else K2) hm hB HA ⟨fun i oi t' h ho => ?_, fun i oi ty' d' y' h ho => ?_⟩ (fun c a' w' g1 g2 g3 g4 g5 g6 g7 => ?_)
  · rcases oneA i oi (by simpa using h) (by unfold alOf; rw [ho]) with ⟨rfl, rfl⟩ | ⟨rfl, rfl⟩
    · rw [hoj1'.2] at ho; cases ho
      exact ⟨Z1, hz1, by rw [if_pos rfl]; exact hsz1⟩
    · rw [hoj2'.2] at ho; cases ho
      exact ⟨Z2, hz2, by rw [if_neg (Ne.symm hne.1)]; exact hsz2⟩
  · rcases oneS i oi (by simpa using h) (by unfold stOf; rw [ho]) with ⟨rfl, rfl⟩ | ⟨rfl, rfl⟩
    · rw [hos1'] at ho; cases ho
      refine ⟨by rw [if_pos rfl]; exact hy1, by rw [if_pos rfl]; exact hi1, by rw [if_pos rfl]; exact h11, fun k ok' hk hak hdk => ?_⟩
      rcases oneA k ok' (by simpa using hk) hak with ⟨rfl, rfl⟩ | ⟨rfl, rfl⟩
      · rw [if_pos rfl, if_pos rfl]
      · rw [hoj2'.1] at hdk; cases hdk; exact absurd rfl hdne
    · rw [hos2'] at ho; cases ho
      refine ⟨by rw [if_neg (Ne.symm hne.2)]; exact hy2, by rw [if_neg (Ne.symm hne.2)]; exact hi2, by rw [if_neg (Ne.symm hne.2)]; exact h12, fun k ok' hk hak hdk => ?_⟩
      rcases oneA k ok' (by simpa using hk) hak with ⟨rfl, rfl⟩ | ⟨rfl, rfl⟩
      · rw [hoj1'.1] at hdk; cases hdk; exact absurd rfl hdne
      · rw [if_neg (Ne.symm hne.1), if_neg (Ne.symm hne.2)]
  · obtain ⟨p1, p2⟩ := g4 j1 oj1 d1 hoj1 haj1 hoj1'.1
    obtain ⟨p3, p4⟩ := g4 j2 oj2 d2 hoj2 haj2 hoj2'.1
    obtain ⟨q1, q2⟩ := g6 j1 s1 oj1 os1 d1 ty1 y1 hoj1 haj1 hoj1'.1 hos1 hos1'
    obtain ⟨q3, q4⟩ := g6 j2 s2 oj2 os2 d2 ty2 y2 hoj2 haj2 hoj2'.1 hos2 hos2'
    rw [if_pos rfl] at q2
    rw [if_neg (Ne.symm hne.2)] at q4
    have e : a' = (A.put (some d1) (.pointer (some ⟨c j1, 0, none⟩))).put (some d2) (.pointer (some ⟨c j2, 0, none⟩)) := act_ext (g1.trans (put_defers.trans put_defers).symm) (g2.trans (put_size.trans put_size).symm) fun t' => by
      rw [put_at, put_at, put_size]
      by_cases h2 : d2 = t'
      · subst h2; rw [if_pos rfl, if_pos p4, p3]
      · rw [if_neg h2]
        by_cases h : d1 = t'
        · subst h; rw [if_pos rfl, if_pos p2, p1]
        · rw [if_neg h]
          exact g3 t' fun i oi hi' ha hd => by
            rcases oneA i oi hi' ha with ⟨rfl, rfl⟩ | ⟨rfl, rfl⟩
            · rw [hoj1'.1] at hd; cases hd; exact h rfl
            · rw [hoj2'.1] at hd; cases hd; exact h2 rfl
    rw [e]
    exact hQ _ _ w' (g7 j1 j2 oj1 oj2 hoj1 hoj2 haj1 haj2 hne.1) q1 q3 g5 q2 q4

/-- .. the frame at the walk's end is found by the walk: 'apply Exists.intro; refine ⟨?HA, ?h1, ?hQ⟩'. -/
theorem own1 {P : Program} {l : List Oper} {id : Nat} {Q : Exit → Act → World → Prop} {a0 : Act} {w : World} (j s : Nat) {d : Tmp} {t ty : TypeId} {y : Operand} (K Z : Array Value) (hm : P.follows .mixedOrders = true) (hB : ownB l.toArray a0.tmps.size = true)
    (hal : alsOf l = [j]) (hst : stsOf l = [s]) (hj : (l[j]?).map (fun o => (o.dst, o.op)) = some (some d, .alloc t)) (hs : (l[s]?).map (·.op) = some (.store ty (.tmp d) y))
    (hz : ∀ w, (zeroValue t).run P w = .ok (.agg Z) w) (hsz : Z.size = K.size) (hi : (P.info? ty).map (·.size) = some K.size) (h1 : ∀ v ∈ K, v.oneCell' = true)
    (h : ∃ A : Act, (∀ W1, Below w.heap.size w W1 → ∀ (T : Type) (F : T → World), Nonempty T → (∀ t, Below W1.heap.size W1 (F t)) → (∀ w', Below W1.heap.size W1 w' → ∃ t, w' = F t) →
        wpQuiet P l.toArray (fun w' => ∃ t, w' = F t) (fun a' => a' = A) (l.filter quOf) a0) ∧ A.eval y = .agg K ∧
      ∀ (b : Nat) (w' : World), w.heap.size ≤ b → Below w.heap.size w w' → Blk w' b K → Q .normal (A.put (some d) (.pointer (some ⟨b, 0, none⟩))) w') :
    (Code.region id l.toArray true).wp P Q a0 w := by
  obtain ⟨A, HA, hy, hQ⟩ := h
  exact wp_region_own1 (A := A) j s K Z hm hB hal hst hj hs hz hsz hi h1 HA hy hQ

theorem own2 {P : Program} {l : List Oper} {id : Nat} {Q : Exit → Act → World → Prop} {a0 : Act} {w : World} (j1 s1 j2 s2 : Nat) {d1 d2 : Tmp} {t1 ty1 t2 ty2 : TypeId} {y1 y2 : Operand} (K1 Z1 K2 Z2 : Array Value) (hm : P.follows .mixedOrders = true) (hB : ownB l.toArray a0.tmps.size = true)
    (hal : alsOf l = [j1, j2]) (hst : stsOf l = [s1, s2]) (hne : j1 ≠ j2 ∧ s1 ≠ s2) (hj1 : (l[j1]?).map (fun o => (o.dst, o.op)) = some (some d1, .alloc t1)) (hs1 : (l[s1]?).map (·.op) = some (.store ty1 (.tmp d1) y1))
    (hj2 : (l[j2]?).map (fun o => (o.dst, o.op)) = some (some d2, .alloc t2)) (hs2 : (l[s2]?).map (·.op) = some (.store ty2 (.tmp d2) y2))
    (hz1 : ∀ w, (zeroValue t1).run P w = .ok (.agg Z1) w) (hsz1 : Z1.size = K1.size) (hi1 : (P.info? ty1).map (·.size) = some K1.size) (h11 : ∀ v ∈ K1, v.oneCell' = true)
    (hz2 : ∀ w, (zeroValue t2).run P w = .ok (.agg Z2) w) (hsz2 : Z2.size = K2.size) (hi2 : (P.info? ty2).map (·.size) = some K2.size) (h12 : ∀ v ∈ K2, v.oneCell' = true)
    (h : ∃ A : Act, (∀ W1, Below w.heap.size w W1 → ∀ (T : Type) (F : T → World), Nonempty T → (∀ t, Below W1.heap.size W1 (F t)) → (∀ w', Below W1.heap.size W1 w' → ∃ t, w' = F t) →
        wpQuiet P l.toArray (fun w' => ∃ t, w' = F t) (fun a' => a' = A) (l.filter quOf) a0) ∧ A.eval y1 = .agg K1 ∧ A.eval y2 = .agg K2 ∧
      ∀ (b1 b2 : Nat) (w' : World), b1 ≠ b2 → w.heap.size ≤ b1 → w.heap.size ≤ b2 → Below w.heap.size w w' → Blk w' b1 K1 → Blk w' b2 K2 → Q .normal ((A.put (some d1) (.pointer (some ⟨b1, 0, none⟩))).put (some d2) (.pointer (some ⟨b2, 0, none⟩))) w') :
    (Code.region id l.toArray true).wp P Q a0 w := by
  obtain ⟨A, HA, hy1, hy2, hQ⟩ := h
  exact wp_region_own2 (A := A) j1 s1 j2 s2 K1 Z1 K2 Z2 hm hB hal hst hne hj1 hs1 hj2 hs2 hz1 hsz1 hi1 h11 hz2 hsz2 hi2 h12 HA hy1 hy2 hQ
end Go.Proofs.Ytdbkphkgjaecoaa
