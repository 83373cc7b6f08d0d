/- Maps keyed by roots (written by gen/rm-gen.py): what such a map holds; look-up, store, delete, range; the map of weights. -/
import Derived.Test.YtdlbobpglgjhiaaLt
import Derived.Maps.RangeWalk
import Derived.Maps.OwnOps
import Derived.WideKeyEntry
import Derived.Carry
set_option linter.unusedVariables false

set_option linter.unusedSimpArgs false
namespace Go.Proofs.Ytdlbobpglgjhiaa
namespace RM
open Go.RowKit Go.Maps

set_option maxRecDepth 100000

/-- A root, as a key. -/
structure RtD where
  r : List Int

def RtD.ok (c : RtD) : Prop := IsBytes 32 c.r

def RtD.cells (c : RtD) : List Value := bytesL c.r

theorem RtD.len {c : RtD} (h : c.ok) : c.cells.length = 32 := bytesL_len h

theorem RtD.inj {c d : RtD} (h : c.cells = d.cells) : c = d := by
  cases c; cases d
  cases bytesL_inj h
  rfl
instance : DecidableEq RtD := fun a b => decidable_of_iff (a.r = b.r) (by cases a; cases b; simp)

theorem keyLits_cp {d : Nat} {c : RtD} (h : c.ok) : ∃ ls, Try.prog.keyLits (d + 3) 57 c.cells = some ls := keyLits_bytes (d := d + 1) Try.underlying57 (by kernel_rfl) h

/-- A map's element, read as itself. -/
def Rv (v : Value) : Option (DataW Value × List MemPlace) := some (.held v, [])

def cpX (c : RtD) : Value := .agg c.cells.toArray

theorem laid_out : laidOutB Try.prog = true := by kernel_rfl

theorem lawC : Keyed Try.prog 57 := Keyed.of_law (deep_law_laid laid_out (m := 3) (by omega) (of_decide_eq_true (by kernel_rfl)) (by kernel_rfl) (by kernel_rfl))
noncomputable def kl (c : RtD) : Lit := (keyOf Try.prog 57 (cpX c)).getD (.bool false)

theorem keyOf_cp {c : RtD} (h : c.ok) : keyOf Try.prog 57 (cpX c) = some (kl c) := by
  have hf : (cpX c).formed Try.prog 57 = true := by simp [cpX, Value.formed, Try.underlying57, RtD.len h]; kernel_rfl
  have hk : Try.prog.keyType 57 = true := by kernel_rfl
  have hs : ∃ d, Try.prog.types.size + 1 = d + 3 := ⟨Try.prog.types.size - 2, by have : 2 ≤ Try.prog.types.size := of_decide_eq_true (by kernel_rfl); omega⟩
  obtain ⟨d, hd⟩ := hs
  obtain ⟨ls, hls⟩ := keyLits_cp (d := d) h
  have hc : (cpX c).cells.toList = c.cells := by simp [cpX, Value.cells]
  have : ∃ l, keyOf Try.prog 57 (cpX c) = some l := by
    unfold keyOf
    simp only [Try.underlying57, hk, hf, Bool.and_self, if_true, hc, hd, hls]
    exact ⟨_, rfl⟩
  obtain ⟨l, hl⟩ := this
  simp [kl, hl]

theorem kl_inj {c d : RtD} (hc : c.ok) (hd : d.ok) (h : kl c = kl d) : c = d := by
  have h1 := keyOf_cp hc
  rw [h] at h1
  have := lawC.inj h1 (keyOf_cp hd)
  simp only [cpX, Value.agg.injEq] at this
  exact RtD.inj (by simpa using this)
abbrev Ents := List (RtD × Value)
noncomputable def encE (p : RtD × Value) : Lit × DataW Value := (kl p.1, .held p.2)
noncomputable def dms (L : Ents) : List (Lit × DataW Value) := (L.map encE).foldr DataW.insert []

/-- Entries of a map: no key twice. -/
structure EntsOK (L : Ents) : Prop where
  nodup : (L.map Prod.fst).Nodup
  ok : ∀ p ∈ L, p.1.ok

theorem EntsOK.nil : EntsOK [] := ⟨by simp, by simp⟩

theorem EntsOK.perm {L M : Ents} (h : EntsOK L) (hp : L.Perm M) : EntsOK M := ⟨(hp.map _).nodup_iff.1 h.nodup, fun p hm => h.ok p (hp.mem_iff.2 hm)⟩

theorem EntsOK.cons {L : Ents} (h : EntsOK L) {c : RtD} {v : Value} (hc : c.ok) (hn : c ∉ L.map Prod.fst) : EntsOK ((c, v) :: L) :=
  ⟨by rw [List.map_cons, List.nodup_cons]; exact ⟨hn, h.nodup⟩, fun p hp => by rcases List.mem_cons.1 hp with rfl | hp; exact hc; exact h.ok p hp⟩

theorem EntsOK.sub {L M : Ents} (h : EntsOK L) (hs : M.Sublist L) : EntsOK M := ⟨h.nodup.sublist (hs.map _), fun p hp => h.ok p (hs.subset hp)⟩

theorem EntsOK.uniq {L : Ents} (h : EntsOK L) {p q : RtD × Value} (hp : p ∈ L) (hq : q ∈ L) (e : p.1 = q.1) : p = q := by
  have := h.nodup
  clear h
  induction L with
  | nil => cases hp
  | cons x r ih =>
    rw [List.map_cons, List.nodup_cons] at this
    rcases List.mem_cons.1 hp with rfl | hp
    · rcases List.mem_cons.1 hq with rfl | hq
      · rfl
      · exact absurd (List.mem_map.2 ⟨q, hq, e.symm⟩) this.1
    · rcases List.mem_cons.1 hq with e2 | hq
      · rw [e2] at e; exact absurd (List.mem_map.2 ⟨p, hp, e⟩) this.1
      · exact ih hp hq this.2

theorem enc_keys {L : Ents} (h : EntsOK L) : Maps.Keys (KeysOf Try.prog 57) (L.map encE) := by
  intro p hp
  obtain ⟨x, hx, rfl⟩ := List.mem_map.1 hp
  exact ⟨cpX x.1, keyOf_cp (h.ok x hx)⟩

theorem enc_apart {L : Ents} (h : EntsOK L) : (L.map encE).Pairwise (fun p q => p.1 ≠ q.1) := by
  rw [List.pairwise_map]
  have h1 : L.Pairwise (fun p q => p.1 ≠ q.1) := by have := h.nodup; rwa [List.Nodup, List.pairwise_map] at this
  refine (List.Pairwise.and_mem.1 h1).imp fun {p q} hpq e => hpq.2.2 (kl_inj (h.ok p hpq.1) (h.ok q hpq.2.1) e)

theorem dms_sorted {L : Ents} (h : EntsOK L) : (dms L).Pairwise (fun p q => p.1.before q.1 = true) := Maps.sorted_sorted lawC.one _ (enc_keys h) (enc_apart h)

theorem dms_perm {L M : Ents} (h : EntsOK L) (hp : L.Perm M) : dms L = dms M :=
  ChangeMaps.eq_of_perm_sorted ((WideShapes.sorted_perm _).trans ((hp.map _).trans (WideShapes.sorted_perm _).symm)) (dms_sorted h) (dms_sorted (h.perm hp))

theorem dms_len (L : Ents) : (dms L).length = L.length := by simp [dms, length_sorted]

theorem notKey_enc {L : Ents} (h : EntsOK L) {c : RtD} (hc : c.ok) {p : RtD × Value} (hp : p ∈ L) : ChangeMaps.notKey (kl c) (encE p) = decide (p.1 ≠ c) := by
  rw [Bool.eq_iff_iff, Maps.notKey_iff (lawC.key (keyOf_cp hc)), decide_eq_true_iff]
  exact ⟨fun hne e => hne (by rw [← e]; rfl), fun hne e => hne (kl_inj (h.ok p hp) hc e)⟩

theorem dms_put {L : Ents} (h : EntsOK L) {c : RtD} (v : Value) (hc : c.ok) (hn : c ∉ L.map Prod.fst) : ChangeMaps.putKey (kl c) (.held v) (dms L) = dms ((c, v) :: L) := by
  refine (Maps.sorted_put lawC.one (k := kl c) (d := .held v) (E := L.map encE) (E' := (kl c, .held v) :: L.map encE) ⟨cpX c, keyOf_cp hc⟩ (enc_keys h) (enc_apart h) ?_).symm
  have : (L.map encE).filter (ChangeMaps.notKey (kl c)) = L.map encE := by
    rw [List.filter_eq_self]
    intro q hq
    obtain ⟨p, hp, rfl⟩ := List.mem_map.1 hq
    rw [notKey_enc h hc hp, decide_eq_true_iff]
    exact fun e => hn (List.mem_map.2 ⟨p, hp, e⟩)
  rw [this]

theorem dms_del {L : Ents} (h : EntsOK L) {c : RtD} (hc : c.ok) : ChangeMaps.delKey (kl c) (dms L) = dms (L.filter fun p => decide (p.1 ≠ c)) := by
  refine (Maps.sorted_del lawC.one (k := kl c) (E := L.map encE) (E' := (L.filter fun p => decide (p.1 ≠ c)).map encE) (enc_keys h) (enc_apart h) ?_).symm
  rw [List.filter_map]
  refine List.Perm.of_eq (congrArg _ (List.filter_congr fun p hp => ?_))
  exact (notKey_enc h hc hp).symm

/-- The entry at a key. -/
def mget : Ents → RtD → Option Value
  | [], _ => none
  | (d, v) :: r, c => if d = c then some v else mget r c

theorem mget_none {L : Ents} {c : RtD} : mget L c = none ↔ c ∉ L.map Prod.fst := by
  induction L with
  | nil => simp [mget]
  | cons x r ih =>
    obtain ⟨d, v⟩ := x
    unfold mget
    by_cases e : d = c
    · simp [e]
    · rw [if_neg e, ih]; simp [Ne.symm e]

theorem mget_mem {L : Ents} {c : RtD} {v : Value} (h : mget L c = some v) : (c, v) ∈ L := by
  induction L with
  | nil => cases h
  | cons x r ih =>
    obtain ⟨d, u⟩ := x
    unfold mget at h
    by_cases e : d = c
    · rw [if_pos e] at h; cases h; subst e; simp
    · rw [if_neg e] at h; exact List.mem_cons_of_mem _ (ih h)

theorem mget_some {L : Ents} (hL : EntsOK L) {c : RtD} {v : Value} (h : (c, v) ∈ L) : mget L c = some v := by
  cases hm : mget L c with
  | none => exact absurd (List.mem_map.2 ⟨_, h, rfl⟩) (mget_none.1 hm)
  | some u => have := hL.uniq (mget_mem hm) h rfl; cases this; rfl

theorem mget_perm {L M : Ents} (hL : EntsOK L) (hp : L.Perm M) (c : RtD) : mget M c = mget L c := by
  cases hm : mget L c with
  | none => exact mget_none.2 fun h => mget_none.1 hm ((hp.map _).mem_iff.2 h)
  | some v => exact mget_some (hL.perm hp) (hp.mem_iff.1 (mget_mem hm))

theorem dms_at {L : Ents} (h : EntsOK L) {c : RtD} (hc : c.ok) (z : DataW Value) : (DataW.map (dms L)).atKey (kl c) z = ((mget L c).map DataW.held).getD z := by
  have hat := WideShapes.atKey_sorted (L.map encE) (ChangeMaps.rising_of_pairwise _ (dms_sorted h)) (kl c) (lawC.key (keyOf_cp hc))
  cases hm : mget L c with
  | none =>
    refine hat.1 (fun q hq e => ?_) z
    obtain ⟨p, hp, rfl⟩ := List.mem_map.1 hq
    exact mget_none.1 hm (List.mem_map.2 ⟨p, hp, kl_inj (h.ok p hp) hc e⟩)
  | some v => exact hat.2 (encE (c, v)) (List.mem_map.2 ⟨_, mget_mem hm, rfl⟩) rfl z

/-- Block b is a map with these entries. -/
def MapIs (w : World) (b : Nat) (L : Ents) : Prop := w.ownsMap Try.prog 57 Rv b L.length (.map (dms L)) ∧ EntsOK L

theorem own_tight {w : World} {b n : Nat} {L : Ents} (h : w.ownsMap Try.prog 57 Rv b n (.map (dms L))) : w.ownsMap Try.prog 57 Rv b L.length (.map (dms L)) := by
  obtain ⟨es, clock, hb, F, hs, hD⟩ := h
  refine ⟨es, clock, hb, F, ?_, hD⟩
  have := congrArg (fun d => match d with | DataW.map l => l.length | _ => 0) hD
  simp only [dms_len, length_read] at this
  omega

theorem MapIs.perm {w : World} {b : Nat} {L M : Ents} (h : MapIs w b L) (hp : L.Perm M) : MapIs w b M := ⟨by rw [← dms_perm h.2 hp, ← hp.length_eq]; exact h.1, h.2.perm hp⟩

theorem MapIs.made (w : World) : MapIs (w.alloc (.map #[] 0)) w.heap.size [] := ⟨World.ownsMap_made w _ _ _, EntsOK.nil⟩

theorem MapIs.lt {w : World} {b : Nat} {L : Ents} (h : MapIs w b L) : b < w.heap.size := h.1.lt

theorem MapIs.grown {w w' : World} {b : Nat} {L : Ents} {row : Option Nat} (h : MapIs w b L) (hg : w.grownBy w' row) (hne : some b ≠ row) : MapIs w' b L := ⟨h.1.kept hg hne, h.2⟩

theorem below_grown {w w' : World} (hb : Below w.heap.size w w') : w.grownBy w' none := ⟨hb.os, hb.tape, hb.output, hb.size, fun k hk _ => hb.block k hk⟩

theorem grown_belowM {w w' : World} (hb : w.grownBy w' none) : Below w.heap.size w w' := ⟨hb.os, hb.tape, hb.output, hb.size, fun k hk => hb.block k hk (by simp)⟩

theorem MapIs.call {w w' : World} {b : Nat} {L : Ents} (h : MapIs w b L) (hb : Below w.heap.size w w') : MapIs w' b L := h.grown (below_grown hb) (by simp)

theorem MapIs.obj {w : World} {b : Nat} {L : Ents} (h : MapIs w b L) : ∃ es clock, w.heap[b]? = some (.map es clock) := by obtain ⟨es, clock, hb, _⟩ := h.1; exact ⟨es, clock, hb⟩

/-- 'm[c]', 'v, ok := m[c]'. -/
theorem MapIs.look {w : World} {b : Nat} {L : Ents} (h : MapIs w b L) {c : RtD} (hc : c.ok) {t e : TypeId} (ok : Bool) (ht : Try.prog.underlying t = some (.map 57 e)) {z : Value} (hz : (zeroValue e).run Try.prog w = .ok z w) :
    (Instr.lookup t (.map (some b)) (cpX c) ok).run Try.prog w = .ok (if ok then .tuple #[(mget L c).getD z, .bool (mget L c).isSome] else (mget L c).getD z) w := by
  obtain ⟨⟨es, clock, hb, F, hs, hD⟩, hok⟩ := h
  have hat := dms_at hok hc
  rw [hD] at hat
  rcases Maps.fit_look ok lawC ht hz hb F (keyOf_cp hc) with ⟨hrun, _, h2⟩ | ⟨e0, y, _, _, hrun, hRv, h2, _⟩
  · have : mget L c = none := by
      cases hm : mget L c with
      | none => rfl
      | some v => have := (h2 .nil).symm.trans (hat .nil); rw [hm] at this; cases this
    rw [hrun, this]; rfl
  · have : mget L c = some e0.val := by
      have e1 : y.1 = .held e0.val := by simp only [Rv, Option.some.injEq] at hRv; rw [← hRv]
      have e2 := (h2 .nil).symm.trans (hat .nil)
      rw [e1] at e2
      cases hm : mget L c with
      | none => rw [hm] at e2; cases e2
      | some v => rw [hm] at e2; simp only [Option.map_some, Option.getD_some, DataW.held.injEq] at e2; rw [e2]
    rw [hrun, this]; rfl

/-- 'm[c] = v' at a key that is not there. -/
theorem MapIs.put {w : World} {b : Nat} {L : Ents} (h : MapIs w b L) {c : RtD} (hc : c.ok) (v : Value) {t e : TypeId} (ht : Try.prog.underlying t = some (.map 57 e)) (hn : c ∉ L.map Prod.fst) (hl : L.length < maxLen) :
    ∃ w', (Instr.mapUpdate t (.map (some b)) (cpX c) v).run Try.prog w = .ok () w' ∧ MapIs w' b ((c, v) :: L) ∧ w.grownBy w' (some b) := by
  obtain ⟨w', h1, h2, h3⟩ := h.1.update lawC ht hl (keyOf_cp hc) (val := v) (d := .held v) (ps := []) rfl
  rw [DataW.put_eq, dms_put h.2 v hc hn] at h2
  exact ⟨w', h1, ⟨h2, h.2.cons hc hn⟩, h3⟩

/-- 'len(m)'. -/
theorem MapIs.len {w : World} {b : Nat} {L : Ents} (h : MapIs w b L) {t e : TypeId} (ht : Try.prog.underlying t = some (.map 57 e)) (ty : TypeId) : (Builtin.len_ #[t] ty #[.map (some b)]).run Try.prog w = .ok (.int .i64 L.length) w := by
  have := h.1.len ht ty
  rwa [Maps.size_eq, dms_len] at this

/-- 'for c, v := range m' under way: U is still to come. -/
def RangeIs (w : World) (b r : Nat) (L U : Ents) (cnt : Nat) : Prop :=
  ∃ n left, w.ranges Try.prog 57 Rv b r n (.map (dms L)) left cnt ∧ (∀ l, left l = true ↔ ∃ p ∈ U, kl p.1 = l) ∧ (∀ p ∈ U, p ∈ L) ∧ EntsOK L ∧ EntsOK U

theorem RangeIs.map {w : World} {b r cnt : Nat} {L U : Ents} (h : RangeIs w b r L U cnt) : MapIs w b L := by
  obtain ⟨n, left, h1, _, _, h4, _⟩ := h
  exact ⟨own_tight h1.owns, h4⟩

theorem RangeIs.left_eq {w : World} {b r cnt : Nat} {L U : Ents} (h : RangeIs w b r L U cnt) : w.rangeLeft b r = cnt := by obtain ⟨n, left, h1, _⟩ := h; exact h1.left_eq

theorem RangeIs.lt {w : World} {b r cnt : Nat} {L U : Ents} (h : RangeIs w b r L U cnt) : r < w.heap.size := by obtain ⟨n, left, h1, _⟩ := h; exact h1.lt

theorem RangeIs.ne {w : World} {b r cnt : Nat} {L U : Ents} (h : RangeIs w b r L U cnt) : r ≠ b := by obtain ⟨n, left, h1, _⟩ := h; exact h1.ne

theorem RangeIs.grown {w w' : World} {b r cnt : Nat} {L U : Ents} {row : Option Nat} (h : RangeIs w b r L U cnt) (hg : w.grownBy w' row) (h1 : some b ≠ row) (h2 : some r ≠ row) : RangeIs w' b r L U cnt := by
  obtain ⟨n, left, h3, h4⟩ := h
  exact ⟨n, left, h3.kept hg h1 h2, h4⟩

theorem has_dms {L : Ents} (h : EntsOK L) (l : Lit) : Maps.has (DataW.map (dms L)) l = true ↔ ∃ p ∈ L, kl p.1 = l := by
  rw [Maps.has_eq, List.any_eq_true]
  constructor
  · rintro ⟨q, hq, hs⟩
    obtain ⟨p, hp, rfl⟩ := List.mem_map.1 (mem_sorted.1 hq)
    exact ⟨p, hp, WideAt.sameKey_eq hs⟩
  · rintro ⟨p, hp, rfl⟩
    exact ⟨encE p, mem_sorted.2 (List.mem_map.2 ⟨p, hp, rfl⟩), WideAt.sameKey_self (lawC.key (keyOf_cp (h.ok p hp)))⟩

theorem MapIs.range {w : World} {b : Nat} {L : Ents} (h : MapIs w b L) {t e : TypeId} (ht : Try.prog.underlying t = some (.map 57 e)) :
    ∃ w', (Instr.range t (.map (some b))).run Try.prog w = .ok (.pointer (some ⟨w.heap.size, 0, none⟩)) w' ∧ RangeIs w' b w.heap.size L L L.length ∧ w.grownBy w' none ∧ w'.heap.size = w.heap.size + 1 := by
  obtain ⟨w', h1, h2, h3, h4⟩ := h.1.range lawC ht
  rw [Maps.size_eq, dms_len] at h2
  exact ⟨w', h1, ⟨_, _, h2, has_dms h.2, fun p hp => hp, h.2, h.2⟩, h3, h4⟩

theorem erase_perm {U : Ents} {p : RtD × Value} (hp : p ∈ U) : ∃ U', U.Perm (p :: U') := by
  obtain ⟨a, b, rfl⟩ := List.append_of_mem hp
  exact ⟨a ++ b, List.perm_middle⟩

/-- The step. -/
theorem RangeIs.next {w : World} {b r cnt : Nat} {L U : Ents} (h : RangeIs w b r L U cnt) (ty : TypeId) :
    (U = [] ∧ (Instr.next (.pointer (some ⟨r, 0, none⟩)) false ty).run Try.prog w = .ok (.tuple #[.bool false]) w) ∨
    ∃ p U' w' cnt', U.Perm (p :: U') ∧ (Instr.next (.pointer (some ⟨r, 0, none⟩)) false ty).run Try.prog w = .ok (.tuple #[.bool true, cpX p.1, p.2]) w' ∧ RangeIs w' b r L U' cnt' ∧ cnt' < cnt ∧ w.grownBy w' (some r) ∧ w'.heap.size = w.heap.size ∧
      (Instr.entry (.pointer (some ⟨r, 0, none⟩))).run Try.prog w' = .ok (.tuple #[cpX p.1, p.2]) w' := by
  obtain ⟨n, left, h1, hl, hsub, hL, hU⟩ := h
  rcases h1.next lawC ty with ⟨_, h0, hrun⟩ | ⟨key, v, l, y, w', cnt', hkey, hlk, hv, hat, hrun, hrg, hlt, hgr, hsz, hen⟩
  · refine .inl ⟨?_, hrun⟩
    cases U with
    | nil => rfl
    | cons p r => have := (hl (kl p.1)).2 ⟨p, by simp, rfl⟩; rw [h0] at this; cases this
  · obtain ⟨p, hp, rfl⟩ := (hl l).1 hlk
    have hpo := hU.ok p hp
    have ek : key = cpX p.1 := lawC.inj hkey (keyOf_cp hpo)
    have ey : y.1 = .held v := by simp only [Rv, Option.some.injEq] at hv; rw [← hv]
    have ev : v = p.2 := by
      have e1 := (hat .nil).symm.trans (dms_at hL hpo .nil)
      rw [ey, mget_some hL (hsub p hp)] at e1
      simpa using e1
    subst ek ev
    obtain ⟨U', hp'⟩ := erase_perm hp
    have hU2 := hU.perm hp'
    have hnd := hU2.nodup
    rw [List.map_cons, List.nodup_cons] at hnd
    refine .inr ⟨p, U', w', cnt', hp', hrun, ⟨n, _, hrg, fun l => ?_, fun q hq => hsub q (hp'.mem_iff.2 (List.mem_cons_of_mem _ hq)), hL, hU2.sub (List.sublist_cons_self _ _)⟩, hlt, hgr, hsz, hen⟩
    simp only [Bool.and_eq_true, Bool.not_eq_true', hl]
    constructor
    · rintro ⟨⟨q, hq, rfl⟩, hs⟩
      rcases List.mem_cons.1 (hp'.mem_iff.1 hq) with rfl | hq'
      · rw [WideAt.sameKey_self (lawC.key (keyOf_cp hpo))] at hs; cases hs
      · exact ⟨q, hq', rfl⟩
    · rintro ⟨q, hq, rfl⟩
      refine ⟨⟨q, hp'.mem_iff.2 (List.mem_cons_of_mem _ hq), rfl⟩, ?_⟩
      cases hs : (kl q.1).sameKey (kl p.1)
      · rfl
      · exact absurd (List.mem_map.2 ⟨q, hq, kl_inj (hU2.ok q (List.mem_cons_of_mem _ hq)) hpo (WideAt.sameKey_eq hs)⟩) hnd.1

/-- 'delete(m, c)' in the round, c no longer to come. -/
theorem RangeIs.drop {w : World} {b r cnt : Nat} {L U : Ents} (h : RangeIs w b r L U cnt) {c : RtD} (hc : c.ok) (hn : c ∉ U.map Prod.fst) {t e : TypeId} (ht : Try.prog.underlying t = some (.map 57 e)) (ty : TypeId) :
    ∃ w' cnt', (Builtin.delete_ #[t, 57] ty #[.map (some b), cpX c]).run Try.prog w = .ok (.tuple #[]) w' ∧ RangeIs w' b r (L.filter fun p => decide (p.1 ≠ c)) U cnt' ∧ cnt' ≤ cnt ∧ w.grownBy w' (some b) := by
  obtain ⟨n, left, h1, hl, hsub, hL, hU⟩ := h
  obtain ⟨w', cnt', hrun, hrg, hle, hmt⟩ := h1.drop lawC ht (keyOf_cp hc) ty
  rw [DataW.del_eq, dms_del hL hc] at hrg
  have hne : ∀ q ∈ U, q.1 ≠ c := fun q hq e => hn (List.mem_map.2 ⟨q, hq, e⟩)
  refine ⟨w', cnt', hrun, ⟨n, _, hrg, fun l => ?_, fun q hq => List.mem_filter.2 ⟨hsub q hq, by simpa using hne q hq⟩, hL.sub List.filter_sublist, hU⟩, hle, hmt.grown⟩
  simp only [Bool.and_eq_true, Bool.not_eq_true', hl]
  constructor
  · exact fun h => h.1
  · rintro ⟨q, hq, rfl⟩
    refine ⟨⟨q, hq, rfl⟩, ?_⟩
    cases hs : (kl q.1).sameKey (kl c)
    · rfl
    · exact absurd (kl_inj (hU.ok q hq) hc (WideAt.sameKey_eq hs)) (hne q hq)
/-! ### The entries behind a store at any key, and behind a deletion -/

theorem mget_filter (L : Ents) (c d : RtD) : mget (L.filter fun p => decide (p.1 ≠ c)) d = if d = c then none else mget L d := by
  induction L with
  | nil => simp [mget]
  | cons x r ih =>
    obtain ⟨k, v⟩ := x
    by_cases e : k = c
    · rw [List.filter_cons_of_neg (by simp [e]), ih]
      by_cases e2 : d = c
      · rw [if_pos e2, if_pos e2]
      · rw [if_neg e2, if_neg e2, mget, if_neg (by rw [e]; exact fun h => e2 h.symm)]
    · rw [List.filter_cons_of_pos (by simp [e]), mget, mget, ih]
      by_cases e2 : k = d
      · subst e2; rw [if_pos rfl, if_neg e, if_pos rfl]
      · rw [if_neg e2, if_neg e2]

theorem MapIs.putAny {w : World} {b : Nat} {L : Ents} (h : MapIs w b L) {c : RtD} (hc : c.ok) (v : Value) {t e : TypeId} (ht : Try.prog.underlying t = some (.map 57 e)) (hl : L.length < maxLen) :
    ∃ w', (Instr.mapUpdate t (.map (some b)) (cpX c) v).run Try.prog w = .ok () w' ∧ MapIs w' b ((c, v) :: L.filter fun p => decide (p.1 ≠ c)) ∧ w.grownBy w' (some b) := by
  obtain ⟨w', h1, h2, h3⟩ := h.1.update lawC ht hl (keyOf_cp hc) (val := v) (d := .held v) (ps := []) rfl
  have hs := h.2.sub (List.filter_sublist (l := L) (p := fun p => decide (p.1 ≠ c)))
  have hn : c ∉ (L.filter fun p => decide (p.1 ≠ c)).map Prod.fst := by
    intro hm
    obtain ⟨p, hp, e⟩ := List.mem_map.1 hm
    have := (List.mem_filter.1 hp).2
    simp [e] at this
  have hE : dms ((c, v) :: L.filter fun p => decide (p.1 ≠ c)) = ChangeMaps.putKey (kl c) (.held v) (dms L) := by
    refine Maps.sorted_put lawC.one (k := kl c) (d := .held v) (E := L.map encE) ⟨cpX c, keyOf_cp hc⟩ (enc_keys h.2) (enc_apart h.2) ?_
    rw [List.map_cons]
    refine List.Perm.cons _ ?_
    rw [List.filter_map]
    exact List.Perm.of_eq (congrArg _ (List.filter_congr fun p hp => (notKey_enc h.2 hc hp).symm))
  rw [DataW.put_eq, ← hE] at h2
  exact ⟨w', h1, ⟨own_tight h2, hs.cons hc hn⟩, h3⟩

theorem MapIs.del {w : World} {b : Nat} {L : Ents} (h : MapIs w b L) {c : RtD} (hc : c.ok) {t e : TypeId} (ht : Try.prog.underlying t = some (.map 57 e)) (ty : TypeId) :
    ∃ w', (Builtin.delete_ #[t, 57] ty #[.map (some b), cpX c]).run Try.prog w = .ok (.tuple #[]) w' ∧ MapIs w' b (L.filter fun p => decide (p.1 ≠ c)) ∧ w.grownBy w' (some b) := by
  obtain ⟨⟨es, clock, hb, F, hs, hD⟩, hok⟩ := h
  obtain ⟨es', hrun, F', hsz, hdel, _⟩ := Maps.fit_drop (ty := ty) lawC ht hb F (keyOf_cp hc)
  have hD' : dms L = (es.toList.map (WideElems.rg Try.prog 57 Rv)).foldr DataW.insert [] := by simpa using hD
  rw [← hD', dms_del hok hc] at hdel
  refine ⟨_, hrun, ⟨own_tight ⟨es', clock, ChangeMaps.heap_setBlock_same hb _, F', Nat.le_refl _, by rw [hdel]⟩, hok.sub List.filter_sublist⟩, ⟨rfl, rfl, rfl, by simp [ChangeMaps.setBlock], fun i _ hi => ChangeMaps.heap_setBlock_other hb _ (fun e => hi (by rw [e]))⟩⟩
/-! ### A map of weights -/

/-- Block b is a map of numbers that gives each root its weight (none: 0). -/
def WtI (w : World) (b m : Nat) (f : List Int → Int) : Prop := ∃ L, MapIs w b L ∧ L.length ≤ m ∧ ∀ r, IsBytes 32 r → (mget L ⟨r⟩).getD (.int .u64 0) = .int .u64 (f r)

theorem WtI.lt {w : World} {b m : Nat} {f : List Int → Int} (h : WtI w b m f) : b < w.heap.size := by obtain ⟨L, h, _⟩ := h; exact h.lt

theorem WtI.made (w : World) : WtI (w.alloc (.map #[] 0)) w.heap.size 0 (fun _ => 0) := ⟨[], MapIs.made w, Nat.le_refl _, fun r _ => rfl⟩

theorem WtI.call {w w' : World} {b m : Nat} {f : List Int → Int} (h : WtI w b m f) (hb : Below w.heap.size w w') : WtI w' b m f := by obtain ⟨L, h1, h2⟩ := h; exact ⟨L, h1.call hb, h2⟩

theorem WtI.grown {w w' : World} {b m : Nat} {f : List Int → Int} {row : Option Nat} (h : WtI w b m f) (hg : w.grownBy w' row) (hne : some b ≠ row) : WtI w' b m f := by obtain ⟨L, h1, h2⟩ := h; exact ⟨L, h1.grown hg hne, h2⟩

theorem WtI.congr {w : World} {b m : Nat} {f g : List Int → Int} (h : WtI w b m f) (e : ∀ r, IsBytes 32 r → f r = g r) : WtI w b m g := by obtain ⟨L, h1, h2, h3⟩ := h; exact ⟨L, h1, h2, fun r hr => by rw [h3 r hr, e r hr]⟩

theorem WtI.wide {w : World} {b m n : Nat} {f : List Int → Int} (h : WtI w b m f) (hn : m ≤ n) : WtI w b n f := by obtain ⟨L, h1, h2, h3⟩ := h; exact ⟨L, h1, Nat.le_trans h2 hn, h3⟩

theorem zero_u64 (w : World) : (zeroValue 53).run Try.prog w = .ok (.int .u64 0) w := Try.zeroValue53 w

theorem und_map : Try.prog.underlying 85 = some (.map 57 53) := Try.underlying85

theorem WtI.look {w : World} {b m : Nat} {f : List Int → Int} (h : WtI w b m f) {r : List Int} (hr : IsBytes 32 r) :
    (Instr.lookup 85 (.map (some b)) (.agg (bytesL r).toArray) false).run Try.prog w = .ok (.int .u64 (f r)) w := by
  obtain ⟨L, h1, _, h3⟩ := h
  have := h1.look (c := ⟨r⟩) hr false und_map (zero_u64 w)
  rw [h3 r hr] at this
  exact this

theorem wt_put {L : Ents} {f : List Int → Int} {r : List Int} (h3 : ∀ s, IsBytes 32 s → (mget L ⟨s⟩).getD (.int .u64 0) = .int .u64 (f s)) (x : Int) (s : List Int) (hs : IsBytes 32 s) :
    (mget ((⟨r⟩, .int .u64 x) :: L.filter fun p => decide (p.1 ≠ ⟨r⟩)) ⟨s⟩).getD (.int .u64 0) = .int .u64 (if s = r then x else f s) := by
  rw [mget]
  by_cases e : s = r
  · subst e; rw [if_pos rfl, if_pos rfl]; rfl
  · rw [if_neg (fun h => e (by cases h; rfl)), mget_filter, if_neg (fun h => e (by cases h; rfl)), if_neg e]
    exact h3 s hs

theorem WtI.del {w : World} {b m : Nat} {f : List Int → Int} (h : WtI w b m f) {r : List Int} (hr : IsBytes 32 r) (ty : TypeId) :
    ∃ w', (Builtin.delete_ #[85, 57] ty #[.map (some b), .agg (bytesL r).toArray]).run Try.prog w = .ok (.tuple #[]) w' ∧ WtI w' b m (fun s => if s = r then 0 else f s) ∧ w.grownBy w' (some b) := by
  obtain ⟨L, h1, h2, h3⟩ := h
  obtain ⟨w', hrun, hm, hg⟩ := h1.del (c := ⟨r⟩) hr und_map ty
  refine ⟨w', hrun, ⟨_, hm, Nat.le_trans (List.length_filter_le _ _) h2, fun s hs => ?_⟩, hg⟩
  show _ = Value.int .u64 (if s = r then 0 else f s)
  rw [mget_filter]
  by_cases e : s = r
  · subst e; rw [if_pos rfl, if_pos rfl]; rfl
  · rw [if_neg (fun h => e (by cases h; rfl)), if_neg e]
    exact h3 s hs
section
open Go.ChangeShapes Go.WideShapes Go.MapKept Go.ChangeMaps
open Go.WideMaps (KeyLaw)

theorem entry_shape {P : Program} {w : World} {t k e : TypeId} {H : Type} {R : Value → Option (DataW H × List MemPlace)} {b : Nat} {es : Array MapEntry} {clock : Nat} (K : KeyLaw P k) (ht : P.underlying t = some (.map k e)) {z : Value} (hz : ∀ u : World, (zeroValue e).run P u = .ok z u) (hb : w.heap[b]? = some (.map es clock)) (F : WideElems.Fit P k R es clock)
    {key : Value} {kl : Lit} (hkey : keyOf P k key = some kl) :
    ((Instr.mapEntry t (.map (some b)) key).run P w = .ok (.tuple #[z, goInt clock]) (setBlock w b (.map (es.push ⟨key, z, clock⟩) (clock + 1))) ∧ (Instr.mapUpdate t (.map (some b)) key z).run P w = .ok () (setBlock w b (.map (es.push ⟨key, z, clock⟩) (clock + 1))) ∧ (Instr.lookup t (.map (some b)) key false).run P w = .ok z w) ∨
    ∃ e0 : MapEntry, (Instr.mapEntry t (.map (some b)) key).run P w = .ok (.tuple #[e0.val, goInt e0.born]) (setBlock w b (.map es clock)) := by
  rcases K.find w hkey es.toList F.keys with ⟨h1, h2⟩ | ⟨j, e0, h1, h2, h3⟩
  · refine .inl ⟨?_, ?_, ?_⟩
    · simp [Instr.mapEntry, run_underlying ht, MapKept.run_getObj_map hb, K.check w false hkey, h1, hz, MapKept.run_setObj_map _ hb, Result.andThen, setBlock]
    · simp [Instr.mapUpdate, run_underlying ht, MapKept.run_getObj_map hb, K.check w false hkey, h1, MapKept.run_setObj_map _ hb, Result.andThen, setBlock]
    · simp [Instr.lookup, run_underlying ht, MapKept.run_getObj_map hb, K.check w _ hkey, h1, hz, Result.andThen]
  · refine .inr ⟨e0, ?_⟩
    have hj : es[j]? = some e0 := by simpa using h2
    have hsame : es.modify j (fun e => { e with key := key }) = es := by
      apply Array.ext'
      rw [Array.toList_modify, modify_eq_set _ _ _ _ h2]
      have : ({ e0 with key := key } : MapEntry) = e0 := by rw [← h3]
      rw [this]
      exact WideElems.set_self _ _ _ h2
    simp [Instr.mapEntry, run_underlying ht, MapKept.run_getObj_map hb, K.check w false hkey, h1, hj, h3, K.stays w hkey, hsame, MapKept.run_setObj_map _ hb, Result.andThen, setBlock]
end

/-- 'm[k] op= x': the entry is made where it lacks (it reads as zero), and then it is stored into. -/
theorem WtI.entry {w : World} {b m : Nat} {f : List Int → Int} (h : WtI w b m f) {r : List Int} (hr : IsBytes 32 r) (hm : m < maxLen) :
    ∃ (v0 : Value) (st : Nat) (w' : World), (Instr.mapEntry 85 (.map (some b)) (.agg (bytesL r).toArray)).run Try.prog w = .ok (.tuple #[v0, goInt st]) w' ∧ WtI w' b (m + 1) f ∧ w.grownBy w' (some b) ∧
      ∀ (w2 : World) (x : Int), w2.heap[b]? = w'.heap[b]? → ∃ w3, (Instr.entryStore 85 (.map (some b)) (goInt st) (.int .u64 x)).run Try.prog w2 = .ok () w3 ∧ WtI w3 b (m + 1) (fun s => if s = r then x else f s) ∧ w2.grownBy w3 (some b) := by
  obtain ⟨L, h1, h2, h3⟩ := h
  obtain ⟨⟨es, clock, hb, F, hs, hD⟩, hok⟩ := h1
  have hK : WideMaps.KeyLaw Try.prog 57 := deep_law_laid laid_out (m := 3) (by omega) (of_decide_eq_true (by kernel_rfl)) (by kernel_rfl) (by kernel_rfl)
  have hkey : keyOf Try.prog 57 (.agg (bytesL r).toArray) = some (kl ⟨r⟩) := keyOf_cp (c := ⟨r⟩) hr
  obtain ⟨v0, st, es1, clock1, hE, hcase, hS⟩ := WideElems.entry_then_store hK und_map (fun u => zero_u64 u) hb F hkey
  have hbl : b < w.heap.size := (Array.getElem?_eq_some_iff.1 hb).1
  have hw1 : (ChangeMaps.setBlock w b (.map es1 clock1)).heap[b]? = some (.map es1 clock1) := ChangeMaps.heap_setBlock_same hb _
  -- what a store of any number gives
  have store : ∀ (w2 : World) (x : Int), w2.heap[b]? = some (.map es1 clock1) → ∃ w3, (Instr.entryStore 85 (.map (some b)) (goInt st) (.int .u64 x)).run Try.prog w2 = .ok () w3 ∧ WtI w3 b (m + 1) (fun s => if s = r then x else f s) ∧ w2.grownBy w3 (some b) ∧
      (Instr.mapUpdate 85 (.map (some b)) (.agg (bytesL r).toArray) (.int .u64 x)).run Try.prog w = .ok () (ChangeMaps.setBlock w b ((w3.heap[b]?).getD (.map #[] 0))) := by
    intro w2 x hw2
    obtain ⟨es', clock', hs1, hs2⟩ := hS w2 (.int .u64 x) hw2
    have hM : MapIs w b L := ⟨⟨es, clock, hb, F, hs, hD⟩, hok⟩
    obtain ⟨wu, hu1, hu2, hu3⟩ := hM.putAny (c := ⟨r⟩) hr (.int .u64 x) und_map (by omega)
    have hu1' : (Instr.mapUpdate 85 (.map (some b)) (.agg (bytesL r).toArray) (.int .u64 x)).run Try.prog w = .ok () wu := hu1
    rw [hs2] at hu1'
    have ewu : wu = ChangeMaps.setBlock w b (.map es' clock') := by cases hu1'; rfl
    have h3b : (ChangeMaps.setBlock w2 b (.map es' clock')).heap[b]? = some (.map es' clock') := ChangeMaps.heap_setBlock_same hw2 _
    refine ⟨_, hs1, ⟨(⟨r⟩, .int .u64 x) :: L.filter fun p => decide (p.1 ≠ ⟨r⟩), ⟨?_, hu2.2⟩, ?_, fun s hs => wt_put h3 x s hs⟩, ⟨rfl, rfl, rfl, by simp [ChangeMaps.setBlock], fun i _ hi => ChangeMaps.heap_setBlock_other hw2 _ (fun e => hi (by rw [e]))⟩, ?_⟩
    · obtain ⟨es2, c2, hb2, F2, hs2', hD2⟩ := hu2.1
      rw [ewu, ChangeMaps.heap_setBlock_same hb _] at hb2
      cases hb2
      exact ⟨_, _, h3b, F2, hs2', hD2⟩
    · have := List.length_filter_le (fun p : RtD × Value => decide (p.1 ≠ ⟨r⟩)) L
      rw [List.length_cons]; omega
    · rw [h3b]; exact hs2
  refine ⟨v0, st, _, hE, ?_, ⟨rfl, rfl, rfl, by simp [ChangeMaps.setBlock], fun i _ hi => ChangeMaps.heap_setBlock_other hb _ (fun e => hi (by rw [e]))⟩, fun w2 x hw2 => ?_⟩
  · have hM : MapIs w b L := ⟨⟨es, clock, hb, F, hs, hD⟩, hok⟩
    rcases entry_shape hK und_map (fun u => zero_u64 u) hb F hkey with ⟨k1, k2, k3⟩ | ⟨e0, k1⟩
    · rw [k1] at hE
      obtain ⟨wu, hu1, hu2, hu3⟩ := hM.putAny (c := ⟨r⟩) hr (.int .u64 0) und_map (by omega)
      have hu1' : (Instr.mapUpdate 85 (.map (some b)) (.agg (bytesL r).toArray) (.int .u64 0)).run Try.prog w = .ok () wu := hu1
      rw [k2] at hu1'
      have hl := (WtI.look (f := f) ⟨L, hM, h2, h3⟩ hr)
      rw [k3] at hl
      have hf : f r = 0 := by injection hl with e1 _; injection e1 with _ e2; exact e2.symm
      have ew : ChangeMaps.setBlock w b (.map es1 clock1) = wu := by injection hE with _ e1; injection hu1' with _ e2; exact e1.symm.trans e2
      rw [ew]
      refine ⟨_, hu2, ?_, fun s hs => ?_⟩
      · have := List.length_filter_le (fun p : RtD × Value => decide (p.1 ≠ ⟨r⟩)) L
        rw [List.length_cons]; omega
      · rw [wt_put h3 0 s hs]
        by_cases e : s = r
        · rw [if_pos e, e, hf]
        · rw [if_neg e]
    · rw [k1] at hE
      have ew : ChangeMaps.setBlock w b (.map es1 clock1) = ChangeMaps.setBlock w b (.map es clock) := by injection hE with _ e1; exact e1.symm
      rw [ew]
      exact ⟨L, ⟨⟨es, clock, ChangeMaps.heap_setBlock_same hb _, F, hs, hD⟩, hok⟩, by omega, h3⟩
  · rw [hw1] at hw2
    obtain ⟨w3, k1, k2, k3, _⟩ := store w2 x hw2
    exact ⟨w3, k1, k2, k3⟩
end RM
end Go.Proofs.Ytdlbobpglgjhiaa
