/- Maps keyed by checkpoints: what such a map holds, as a list of its entries; look-up, store of a new key, len, range, delete. -/
import Derived.Test.YtcbjjafjomdklaaLt
import Derived.Maps.RangeWalk
import Derived.Maps.OwnOps
import Derived.Carry
set_option linter.unusedVariables false

set_option linter.unusedSimpArgs false
namespace Go.Proofs.Ytcbjjafjomdklaa
open Go.RowKit Go.Maps

set_option maxRecDepth 100000
instance : DecidableEq CpD := fun a b => decidable_of_iff (a.n = b.n ∧ a.r = b.r) (by cases a; cases b; simp)

/-- A map's element, read as itself. -/
def Rv (v : Value) : Option (DataW Value × List MemPlace) := some (.held v, [])

def cpX (c : CpD) : Value := .agg c.cells.toArray

theorem laid_out : laidOutB Try.prog = true := by kernel_rfl

theorem lawC : Keyed Try.prog 34 := Keyed.of_law (deep_law_laid laid_out (m := 3) (by omega) (of_decide_eq_true (by kernel_rfl)) (by kernel_rfl) (by kernel_rfl))
noncomputable def kl (c : CpD) : Lit := (keyOf Try.prog 34 (cpX c)).getD (.bool false)

theorem keyOf_cp {c : CpD} (h : c.ok) : keyOf Try.prog 34 (cpX c) = some (kl c) := by
  have hf : (cpX c).formed Try.prog 34 = true := by simp [cpX, Value.formed, Try.underlying34, CpD.len h]; kernel_rfl
  have hk : Try.prog.keyType 34 = true := by kernel_rfl
  have hs : ∃ d, Try.prog.types.size + 1 = d + 3 := ⟨Try.prog.types.size - 2, by have : 2 ≤ Try.prog.types.size := of_decide_eq_true (by kernel_rfl); omega⟩
  obtain ⟨d, hd⟩ := hs
  obtain ⟨ls, hls⟩ := keyLits_cp (d := d) h
  have hc : (cpX c).cells.toList = c.cells := by simp [cpX, Value.cells]
  have : ∃ l, keyOf Try.prog 34 (cpX c) = some l := by
    unfold keyOf
    simp only [Try.underlying34, hk, hf, Bool.and_self, if_true, hc, hd, hls]
    exact ⟨_, rfl⟩
  obtain ⟨l, hl⟩ := this
  simp [kl, hl]

theorem kl_inj {c d : CpD} (hc : c.ok) (hd : d.ok) (h : kl c = kl d) : c = d := by
  have h1 := keyOf_cp hc
  rw [h] at h1
  have := lawC.inj h1 (keyOf_cp hd)
  simp only [cpX, Value.agg.injEq] at this
  exact CpD.inj (by simpa using this)
abbrev Ents := List (CpD × Value)
noncomputable def encE (p : CpD × Value) : Lit × DataW Value := (kl p.1, .held p.2)
noncomputable def dms (L : Ents) : List (Lit × DataW Value) := (L.map encE).foldr DataW.insert []

/-- Entries of a map: no key twice. -/
structure EntsOK (L : Ents) : Prop where
  nodup : (L.map Prod.fst).Nodup
  ok : ∀ p ∈ L, p.1.ok

theorem EntsOK.nil : EntsOK [] := ⟨by simp, by simp⟩

theorem EntsOK.perm {L M : Ents} (h : EntsOK L) (hp : L.Perm M) : EntsOK M := ⟨(hp.map _).nodup_iff.1 h.nodup, fun p hm => h.ok p (hp.mem_iff.2 hm)⟩

theorem EntsOK.cons {L : Ents} (h : EntsOK L) {c : CpD} {v : Value} (hc : c.ok) (hn : c ∉ L.map Prod.fst) : EntsOK ((c, v) :: L) :=
  ⟨by rw [List.map_cons, List.nodup_cons]; exact ⟨hn, h.nodup⟩, fun p hp => by rcases List.mem_cons.1 hp with rfl | hp; exact hc; exact h.ok p hp⟩

theorem EntsOK.sub {L M : Ents} (h : EntsOK L) (hs : M.Sublist L) : EntsOK M := ⟨h.nodup.sublist (hs.map _), fun p hp => h.ok p (hs.subset hp)⟩

theorem EntsOK.uniq {L : Ents} (h : EntsOK L) {p q : CpD × Value} (hp : p ∈ L) (hq : q ∈ L) (e : p.1 = q.1) : p = q := by
  have := h.nodup
  clear h
  induction L with
  | nil => cases hp
  | cons x r ih =>
    rw [List.map_cons, List.nodup_cons] at this
    rcases List.mem_cons.1 hp with rfl | hp
    · rcases List.mem_cons.1 hq with rfl | hq
      · rfl
      · exact absurd (List.mem_map.2 ⟨q, hq, e.symm⟩) this.1
    · rcases List.mem_cons.1 hq with e2 | hq
      · rw [e2] at e; exact absurd (List.mem_map.2 ⟨p, hp, e⟩) this.1
      · exact ih hp hq this.2

theorem enc_keys {L : Ents} (h : EntsOK L) : Maps.Keys (KeysOf Try.prog 34) (L.map encE) := by
  intro p hp
  obtain ⟨x, hx, rfl⟩ := List.mem_map.1 hp
  exact ⟨cpX x.1, keyOf_cp (h.ok x hx)⟩

theorem enc_apart {L : Ents} (h : EntsOK L) : (L.map encE).Pairwise (fun p q => p.1 ≠ q.1) := by
  rw [List.pairwise_map]
  have h1 : L.Pairwise (fun p q => p.1 ≠ q.1) := by have := h.nodup; rwa [List.Nodup, List.pairwise_map] at this
  refine (List.Pairwise.and_mem.1 h1).imp fun {p q} hpq e => hpq.2.2 (kl_inj (h.ok p hpq.1) (h.ok q hpq.2.1) e)

theorem dms_sorted {L : Ents} (h : EntsOK L) : (dms L).Pairwise (fun p q => p.1.before q.1 = true) := Maps.sorted_sorted lawC.one _ (enc_keys h) (enc_apart h)

theorem dms_perm {L M : Ents} (h : EntsOK L) (hp : L.Perm M) : dms L = dms M :=
  ChangeMaps.eq_of_perm_sorted ((WideShapes.sorted_perm _).trans ((hp.map _).trans (WideShapes.sorted_perm _).symm)) (dms_sorted h) (dms_sorted (h.perm hp))

theorem dms_len (L : Ents) : (dms L).length = L.length := by simp [dms, length_sorted]

theorem notKey_enc {L : Ents} (h : EntsOK L) {c : CpD} (hc : c.ok) {p : CpD × Value} (hp : p ∈ L) : ChangeMaps.notKey (kl c) (encE p) = decide (p.1 ≠ c) := by
  rw [Bool.eq_iff_iff, Maps.notKey_iff (lawC.key (keyOf_cp hc)), decide_eq_true_iff]
  exact ⟨fun hne e => hne (by rw [← e]; rfl), fun hne e => hne (kl_inj (h.ok p hp) hc e)⟩

theorem dms_put {L : Ents} (h : EntsOK L) {c : CpD} (v : Value) (hc : c.ok) (hn : c ∉ L.map Prod.fst) : ChangeMaps.putKey (kl c) (.held v) (dms L) = dms ((c, v) :: L) := by
  refine (Maps.sorted_put lawC.one (k := kl c) (d := .held v) (E := L.map encE) (E' := (kl c, .held v) :: L.map encE) ⟨cpX c, keyOf_cp hc⟩ (enc_keys h) (enc_apart h) ?_).symm
  have : (L.map encE).filter (ChangeMaps.notKey (kl c)) = L.map encE := by
    rw [List.filter_eq_self]
    intro q hq
    obtain ⟨p, hp, rfl⟩ := List.mem_map.1 hq
    rw [notKey_enc h hc hp, decide_eq_true_iff]
    exact fun e => hn (List.mem_map.2 ⟨p, hp, e⟩)
  rw [this]

theorem dms_del {L : Ents} (h : EntsOK L) {c : CpD} (hc : c.ok) : ChangeMaps.delKey (kl c) (dms L) = dms (L.filter fun p => decide (p.1 ≠ c)) := by
  refine (Maps.sorted_del lawC.one (k := kl c) (E := L.map encE) (E' := (L.filter fun p => decide (p.1 ≠ c)).map encE) (enc_keys h) (enc_apart h) ?_).symm
  rw [List.filter_map]
  refine List.Perm.of_eq (congrArg _ (List.filter_congr fun p hp => ?_))
  exact (notKey_enc h hc hp).symm

/-- The entry at a key. -/
def mget : Ents → CpD → Option Value
  | [], _ => none
  | (d, v) :: r, c => if d = c then some v else mget r c

theorem mget_none {L : Ents} {c : CpD} : mget L c = none ↔ c ∉ L.map Prod.fst := by
  induction L with
  | nil => simp [mget]
  | cons x r ih =>
    obtain ⟨d, v⟩ := x
    unfold mget
    by_cases e : d = c
    · simp [e]
    · rw [if_neg e, ih]; simp [Ne.symm e]

theorem mget_mem {L : Ents} {c : CpD} {v : Value} (h : mget L c = some v) : (c, v) ∈ L := by
  induction L with
  | nil => cases h
  | cons x r ih =>
    obtain ⟨d, u⟩ := x
    unfold mget at h
    by_cases e : d = c
    · rw [if_pos e] at h; cases h; subst e; simp
    · rw [if_neg e] at h; exact List.mem_cons_of_mem _ (ih h)

theorem mget_some {L : Ents} (hL : EntsOK L) {c : CpD} {v : Value} (h : (c, v) ∈ L) : mget L c = some v := by
  cases hm : mget L c with
  | none => exact absurd (List.mem_map.2 ⟨_, h, rfl⟩) (mget_none.1 hm)
  | some u => have := hL.uniq (mget_mem hm) h rfl; cases this; rfl

theorem mget_perm {L M : Ents} (hL : EntsOK L) (hp : L.Perm M) (c : CpD) : mget M c = mget L c := by
  cases hm : mget L c with
  | none => exact mget_none.2 fun h => mget_none.1 hm ((hp.map _).mem_iff.2 h)
  | some v => exact mget_some (hL.perm hp) (hp.mem_iff.1 (mget_mem hm))

theorem dms_at {L : Ents} (h : EntsOK L) {c : CpD} (hc : c.ok) (z : DataW Value) : (DataW.map (dms L)).atKey (kl c) z = ((mget L c).map DataW.held).getD z := by
  have hat := WideShapes.atKey_sorted (L.map encE) (ChangeMaps.rising_of_pairwise _ (dms_sorted h)) (kl c) (lawC.key (keyOf_cp hc))
  cases hm : mget L c with
  | none =>
    refine hat.1 (fun q hq e => ?_) z
    obtain ⟨p, hp, rfl⟩ := List.mem_map.1 hq
    exact mget_none.1 hm (List.mem_map.2 ⟨p, hp, kl_inj (h.ok p hp) hc e⟩)
  | some v => exact hat.2 (encE (c, v)) (List.mem_map.2 ⟨_, mget_mem hm, rfl⟩) rfl z

/-- Block b is a map with these entries. -/
def MapIs (w : World) (b : Nat) (L : Ents) : Prop := w.ownsMap Try.prog 34 Rv b L.length (.map (dms L)) ∧ EntsOK L

theorem own_tight {w : World} {b n : Nat} {L : Ents} (h : w.ownsMap Try.prog 34 Rv b n (.map (dms L))) : w.ownsMap Try.prog 34 Rv b L.length (.map (dms L)) := by
  obtain ⟨es, clock, hb, F, hs, hD⟩ := h
  refine ⟨es, clock, hb, F, ?_, hD⟩
  have := congrArg (fun d => match d with | DataW.map l => l.length | _ => 0) hD
  simp only [dms_len, length_read] at this
  omega

theorem MapIs.perm {w : World} {b : Nat} {L M : Ents} (h : MapIs w b L) (hp : L.Perm M) : MapIs w b M := ⟨by rw [← dms_perm h.2 hp, ← hp.length_eq]; exact h.1, h.2.perm hp⟩

theorem MapIs.made (w : World) : MapIs (w.alloc (.map #[] 0)) w.heap.size [] := ⟨World.ownsMap_made w _ _ _, EntsOK.nil⟩

theorem MapIs.lt {w : World} {b : Nat} {L : Ents} (h : MapIs w b L) : b < w.heap.size := h.1.lt

theorem MapIs.grown {w w' : World} {b : Nat} {L : Ents} {row : Option Nat} (h : MapIs w b L) (hg : w.grownBy w' row) (hne : some b ≠ row) : MapIs w' b L := ⟨h.1.kept hg hne, h.2⟩

theorem below_grown {w w' : World} (hb : Below w.heap.size w w') : w.grownBy w' none := ⟨hb.os, hb.tape, hb.output, hb.size, fun k hk _ => hb.block k hk⟩

theorem grown_belowM {w w' : World} (hb : w.grownBy w' none) : Below w.heap.size w w' := ⟨hb.os, hb.tape, hb.output, hb.size, fun k hk => hb.block k hk (by simp)⟩

theorem MapIs.call {w w' : World} {b : Nat} {L : Ents} (h : MapIs w b L) (hb : Below w.heap.size w w') : MapIs w' b L := h.grown (below_grown hb) (by simp)

theorem MapIs.obj {w : World} {b : Nat} {L : Ents} (h : MapIs w b L) : ∃ es clock, w.heap[b]? = some (.map es clock) := by obtain ⟨es, clock, hb, _⟩ := h.1; exact ⟨es, clock, hb⟩

/-- 'm[c]', 'v, ok := m[c]'. -/
theorem MapIs.look {w : World} {b : Nat} {L : Ents} (h : MapIs w b L) {c : CpD} (hc : c.ok) {t e : TypeId} (ok : Bool) (ht : Try.prog.underlying t = some (.map 34 e)) {z : Value} (hz : (zeroValue e).run Try.prog w = .ok z w) :
    (Instr.lookup t (.map (some b)) (cpX c) ok).run Try.prog w = .ok (if ok then .tuple #[(mget L c).getD z, .bool (mget L c).isSome] else (mget L c).getD z) w := by
  obtain ⟨⟨es, clock, hb, F, hs, hD⟩, hok⟩ := h
  have hat := dms_at hok hc
  rw [hD] at hat
  rcases Maps.fit_look ok lawC ht hz hb F (keyOf_cp hc) with ⟨hrun, _, h2⟩ | ⟨e0, y, _, _, hrun, hRv, h2, _⟩
  · have : mget L c = none := by
      cases hm : mget L c with
      | none => rfl
      | some v => have := (h2 .nil).symm.trans (hat .nil); rw [hm] at this; cases this
    rw [hrun, this]; rfl
  · have : mget L c = some e0.val := by
      have e1 : y.1 = .held e0.val := by simp only [Rv, Option.some.injEq] at hRv; rw [← hRv]
      have e2 := (h2 .nil).symm.trans (hat .nil)
      rw [e1] at e2
      cases hm : mget L c with
      | none => rw [hm] at e2; cases e2
      | some v => rw [hm] at e2; simp only [Option.map_some, Option.getD_some, DataW.held.injEq] at e2; rw [e2]
    rw [hrun, this]; rfl

/-- 'm[c] = v' at a key that is not there. -/
theorem MapIs.put {w : World} {b : Nat} {L : Ents} (h : MapIs w b L) {c : CpD} (hc : c.ok) (v : Value) {t e : TypeId} (ht : Try.prog.underlying t = some (.map 34 e)) (hn : c ∉ L.map Prod.fst) (hl : L.length < maxLen) :
    ∃ w', (Instr.mapUpdate t (.map (some b)) (cpX c) v).run Try.prog w = .ok () w' ∧ MapIs w' b ((c, v) :: L) ∧ w.grownBy w' (some b) := by
  obtain ⟨w', h1, h2, h3⟩ := h.1.update lawC ht hl (keyOf_cp hc) (val := v) (d := .held v) (ps := []) rfl
  rw [DataW.put_eq, dms_put h.2 v hc hn] at h2
  exact ⟨w', h1, ⟨h2, h.2.cons hc hn⟩, h3⟩

/-- 'len(m)'. -/
theorem MapIs.len {w : World} {b : Nat} {L : Ents} (h : MapIs w b L) {t e : TypeId} (ht : Try.prog.underlying t = some (.map 34 e)) (ty : TypeId) : (Builtin.len_ #[t] ty #[.map (some b)]).run Try.prog w = .ok (.int .i64 L.length) w := by
  have := h.1.len ht ty
  rwa [Maps.size_eq, dms_len] at this

/-- 'for c, v := range m' under way: U is still to come. -/
def RangeIs (w : World) (b r : Nat) (L U : Ents) (cnt : Nat) : Prop :=
  ∃ n left, w.ranges Try.prog 34 Rv b r n (.map (dms L)) left cnt ∧ (∀ l, left l = true ↔ ∃ p ∈ U, kl p.1 = l) ∧ (∀ p ∈ U, p ∈ L) ∧ EntsOK L ∧ EntsOK U

theorem RangeIs.map {w : World} {b r cnt : Nat} {L U : Ents} (h : RangeIs w b r L U cnt) : MapIs w b L := by
  obtain ⟨n, left, h1, _, _, h4, _⟩ := h
  exact ⟨own_tight h1.owns, h4⟩

theorem RangeIs.left_eq {w : World} {b r cnt : Nat} {L U : Ents} (h : RangeIs w b r L U cnt) : w.rangeLeft b r = cnt := by obtain ⟨n, left, h1, _⟩ := h; exact h1.left_eq

theorem RangeIs.lt {w : World} {b r cnt : Nat} {L U : Ents} (h : RangeIs w b r L U cnt) : r < w.heap.size := by obtain ⟨n, left, h1, _⟩ := h; exact h1.lt

theorem RangeIs.ne {w : World} {b r cnt : Nat} {L U : Ents} (h : RangeIs w b r L U cnt) : r ≠ b := by obtain ⟨n, left, h1, _⟩ := h; exact h1.ne

theorem RangeIs.grown {w w' : World} {b r cnt : Nat} {L U : Ents} {row : Option Nat} (h : RangeIs w b r L U cnt) (hg : w.grownBy w' row) (h1 : some b ≠ row) (h2 : some r ≠ row) : RangeIs w' b r L U cnt := by
  obtain ⟨n, left, h3, h4⟩ := h
  exact ⟨n, left, h3.kept hg h1 h2, h4⟩

theorem has_dms {L : Ents} (h : EntsOK L) (l : Lit) : Maps.has (DataW.map (dms L)) l = true ↔ ∃ p ∈ L, kl p.1 = l := by
  rw [Maps.has_eq, List.any_eq_true]
  constructor
  · rintro ⟨q, hq, hs⟩
    obtain ⟨p, hp, rfl⟩ := List.mem_map.1 (mem_sorted.1 hq)
    exact ⟨p, hp, WideAt.sameKey_eq hs⟩
  · rintro ⟨p, hp, rfl⟩
    exact ⟨encE p, mem_sorted.2 (List.mem_map.2 ⟨p, hp, rfl⟩), WideAt.sameKey_self (lawC.key (keyOf_cp (h.ok p hp)))⟩

theorem MapIs.range {w : World} {b : Nat} {L : Ents} (h : MapIs w b L) {t e : TypeId} (ht : Try.prog.underlying t = some (.map 34 e)) :
    ∃ w', (Instr.range t (.map (some b))).run Try.prog w = .ok (.pointer (some ⟨w.heap.size, 0, none⟩)) w' ∧ RangeIs w' b w.heap.size L L L.length ∧ w.grownBy w' none ∧ w'.heap.size = w.heap.size + 1 := by
  obtain ⟨w', h1, h2, h3, h4⟩ := h.1.range lawC ht
  rw [Maps.size_eq, dms_len] at h2
  exact ⟨w', h1, ⟨_, _, h2, has_dms h.2, fun p hp => hp, h.2, h.2⟩, h3, h4⟩

theorem erase_perm {U : Ents} {p : CpD × Value} (hp : p ∈ U) : ∃ U', U.Perm (p :: U') := by
  obtain ⟨a, b, rfl⟩ := List.append_of_mem hp
  exact ⟨a ++ b, List.perm_middle⟩

/-- The step. -/
theorem RangeIs.next {w : World} {b r cnt : Nat} {L U : Ents} (h : RangeIs w b r L U cnt) (ty : TypeId) :
    (U = [] ∧ (Instr.next (.pointer (some ⟨r, 0, none⟩)) false ty).run Try.prog w = .ok (.tuple #[.bool false]) w) ∨
    ∃ p U' w' cnt', U.Perm (p :: U') ∧ (Instr.next (.pointer (some ⟨r, 0, none⟩)) false ty).run Try.prog w = .ok (.tuple #[.bool true, cpX p.1, p.2]) w' ∧ RangeIs w' b r L U' cnt' ∧ cnt' < cnt ∧ w.grownBy w' (some r) ∧ w'.heap.size = w.heap.size ∧
      (Instr.entry (.pointer (some ⟨r, 0, none⟩))).run Try.prog w' = .ok (.tuple #[cpX p.1, p.2]) w' := by
  obtain ⟨n, left, h1, hl, hsub, hL, hU⟩ := h
  rcases h1.next lawC ty with ⟨_, h0, hrun⟩ | ⟨key, v, l, y, w', cnt', hkey, hlk, hv, hat, hrun, hrg, hlt, hgr, hsz, hen⟩
  · refine .inl ⟨?_, hrun⟩
    cases U with
    | nil => rfl
    | cons p r => have := (hl (kl p.1)).2 ⟨p, by simp, rfl⟩; rw [h0] at this; cases this
  · obtain ⟨p, hp, rfl⟩ := (hl l).1 hlk
    have hpo := hU.ok p hp
    have ek : key = cpX p.1 := lawC.inj hkey (keyOf_cp hpo)
    have ey : y.1 = .held v := by simp only [Rv, Option.some.injEq] at hv; rw [← hv]
    have ev : v = p.2 := by
      have e1 := (hat .nil).symm.trans (dms_at hL hpo .nil)
      rw [ey, mget_some hL (hsub p hp)] at e1
      simpa using e1
    subst ek ev
    obtain ⟨U', hp'⟩ := erase_perm hp
    have hU2 := hU.perm hp'
    have hnd := hU2.nodup
    rw [List.map_cons, List.nodup_cons] at hnd
    refine .inr ⟨p, U', w', cnt', hp', hrun, ⟨n, _, hrg, fun l => ?_, fun q hq => hsub q (hp'.mem_iff.2 (List.mem_cons_of_mem _ hq)), hL, hU2.sub (List.sublist_cons_self _ _)⟩, hlt, hgr, hsz, hen⟩
    simp only [Bool.and_eq_true, Bool.not_eq_true', hl]
    constructor
    · rintro ⟨⟨q, hq, rfl⟩, hs⟩
      rcases List.mem_cons.1 (hp'.mem_iff.1 hq) with rfl | hq'
      · rw [WideAt.sameKey_self (lawC.key (keyOf_cp hpo))] at hs; cases hs
      · exact ⟨q, hq', rfl⟩
    · rintro ⟨q, hq, rfl⟩
      refine ⟨⟨q, hp'.mem_iff.2 (List.mem_cons_of_mem _ hq), rfl⟩, ?_⟩
      cases hs : (kl q.1).sameKey (kl p.1)
      · rfl
      · exact absurd (List.mem_map.2 ⟨q, hq, kl_inj (hU2.ok q (List.mem_cons_of_mem _ hq)) hpo (WideAt.sameKey_eq hs)⟩) hnd.1

/-- 'delete(m, c)' in the round, c no longer to come. -/
theorem RangeIs.drop {w : World} {b r cnt : Nat} {L U : Ents} (h : RangeIs w b r L U cnt) {c : CpD} (hc : c.ok) (hn : c ∉ U.map Prod.fst) {t e : TypeId} (ht : Try.prog.underlying t = some (.map 34 e)) (ty : TypeId) :
    ∃ w' cnt', (Builtin.delete_ #[t, 34] ty #[.map (some b), cpX c]).run Try.prog w = .ok (.tuple #[]) w' ∧ RangeIs w' b r (L.filter fun p => decide (p.1 ≠ c)) U cnt' ∧ cnt' ≤ cnt ∧ w.grownBy w' (some b) := by
  obtain ⟨n, left, h1, hl, hsub, hL, hU⟩ := h
  obtain ⟨w', cnt', hrun, hrg, hle, hmt⟩ := h1.drop lawC ht (keyOf_cp hc) ty
  rw [DataW.del_eq, dms_del hL hc] at hrg
  have hne : ∀ q ∈ U, q.1 ≠ c := fun q hq e => hn (List.mem_map.2 ⟨q, hq, e⟩)
  refine ⟨w', cnt', hrun, ⟨n, _, hrg, fun l => ?_, fun q hq => List.mem_filter.2 ⟨hsub q hq, by simpa using hne q hq⟩, hL.sub List.filter_sublist, hU⟩, hle, hmt.grown⟩
  simp only [Bool.and_eq_true, Bool.not_eq_true', hl]
  constructor
  · exact fun h => h.1
  · rintro ⟨q, hq, rfl⟩
    refine ⟨⟨q, hq, rfl⟩, ?_⟩
    cases hs : (kl q.1).sameKey (kl c)
    · rfl
    · exact absurd (kl_inj (hU.ok q hq) hc (WideAt.sameKey_eq hs)) (hne q hq)
end Go.Proofs.Ytcbjjafjomdklaa
