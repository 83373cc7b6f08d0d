/- Several texts as one: Rm, RmK, WgB, WgC, SbT, WgD. -/
import Derived.Test.YtidimiioglgliaaLt
import Derived.Maps.RangeWalk
import Derived.Maps.OwnOps
import Derived.WideKeyEntry
import Derived.Carry
import Derived.Test.YtidimiioglgliaaHeldK
import Derived.Test.YtidimiioglgliaaZ3
import Derived.Test.YtidimiioglgliaaZ2
import Derived.Test.YtidimiioglgliaaZ5
import Derived.Laws.CopyOwn
namespace Go.Proofs.Ytidimiioglgliaa

/-! Rm -/
section
set_option linter.unusedVariables false
set_option linter.unusedSimpArgs false
namespace RM
open Go.RowKit Go.Maps

set_option maxRecDepth 100000

/-- A root, as a key. -/
structure RtD where
  r : List Int

def RtD.ok (c : RtD) : Prop := IsBytes 32 c.r

def RtD.cells (c : RtD) : List Value := bytesL c.r

theorem RtD.len {c : RtD} (h : c.ok) : c.cells.length = 32 := bytesL_len h

theorem RtD.inj {c d : RtD} (h : c.cells = d.cells) : c = d := by
  cases c; cases d
  cases bytesL_inj h
  rfl
instance : DecidableEq RtD := fun a b => decidable_of_iff (a.r = b.r) (by cases a; cases b; simp)

theorem keyLits_cp {d : Nat} {c : RtD} (h : c.ok) : ∃ ls, Try.prog.keyLits (d + 3) 28 c.cells = some ls := keyLits_bytes (d := d + 1) Try.underlying28 (by kernel_rfl) h

/-- A map's element, read as itself. -/
def Rv (v : Value) : Option (DataW Value × List MemPlace) := some (.held v, [])

def cpX (c : RtD) : Value := .agg c.cells.toArray

theorem laid_out : laidOutB Try.prog = true := by kernel_rfl

theorem lawC : Keyed Try.prog 28 := Keyed.of_law (deep_law_laid laid_out (m := 3) (by omega) (of_decide_eq_true (by kernel_rfl)) (by kernel_rfl) (by kernel_rfl))
noncomputable def kl (c : RtD) : Lit := (keyOf Try.prog 28 (cpX c)).getD (.bool false)

theorem keyOf_cp {c : RtD} (h : c.ok) : keyOf Try.prog 28 (cpX c) = some (kl c) := by
  have hf : (cpX c).formed Try.prog 28 = true := by simp [cpX, Value.formed, Try.underlying28, RtD.len h]; kernel_rfl
  have hk : Try.prog.keyType 28 = true := by kernel_rfl
  have hs : ∃ d, Try.prog.types.size + 1 = d + 3 := ⟨Try.prog.types.size - 2, by have : 2 ≤ Try.prog.types.size := of_decide_eq_true (by kernel_rfl); omega⟩
  obtain ⟨d, hd⟩ := hs
  obtain ⟨ls, hls⟩ := keyLits_cp (d := d) h
  have hc : (cpX c).cells.toList = c.cells := by simp [cpX, Value.cells]
  have : ∃ l, keyOf Try.prog 28 (cpX c) = some l := by
    unfold keyOf
    simp only [Try.underlying28, hk, hf, Bool.and_self, if_true, hc, hd, hls]
    exact ⟨_, rfl⟩
  obtain ⟨l, hl⟩ := this
  simp [kl, hl]

theorem kl_inj {c d : RtD} (hc : c.ok) (hd : d.ok) (h : kl c = kl d) : c = d := by
  have h1 := keyOf_cp hc
  rw [h] at h1
  have := lawC.inj h1 (keyOf_cp hd)
  simp only [cpX, Value.agg.injEq] at this
  exact RtD.inj (by simpa using this)
abbrev Ents := List (RtD × Value)
noncomputable def encE (p : RtD × Value) : Lit × DataW Value := (kl p.1, .held p.2)
noncomputable def dms (L : Ents) : List (Lit × DataW Value) := (L.map encE).foldr DataW.insert []

/-- Entries of a map: no key twice. -/
structure EntsOK (L : Ents) : Prop where
  nodup : (L.map Prod.fst).Nodup
  ok : ∀ p ∈ L, p.1.ok

theorem EntsOK.nil : EntsOK [] := ⟨by simp, by simp⟩

theorem EntsOK.perm {L M : Ents} (h : EntsOK L) (hp : L.Perm M) : EntsOK M := ⟨(hp.map _).nodup_iff.1 h.nodup, fun p hm => h.ok p (hp.mem_iff.2 hm)⟩

theorem EntsOK.cons {L : Ents} (h : EntsOK L) {c : RtD} {v : Value} (hc : c.ok) (hn : c ∉ L.map Prod.fst) : EntsOK ((c, v) :: L) :=
  ⟨by rw [List.map_cons, List.nodup_cons]; exact ⟨hn, h.nodup⟩, fun p hp => by rcases List.mem_cons.1 hp with rfl | hp; exact hc; exact h.ok p hp⟩

theorem EntsOK.sub {L M : Ents} (h : EntsOK L) (hs : M.Sublist L) : EntsOK M := ⟨h.nodup.sublist (hs.map _), fun p hp => h.ok p (hs.subset hp)⟩

theorem EntsOK.uniq {L : Ents} (h : EntsOK L) {p q : RtD × Value} (hp : p ∈ L) (hq : q ∈ L) (e : p.1 = q.1) : p = q := by
  have := h.nodup
  clear h
  induction L with
  | nil => cases hp
  | cons x r ih =>
    rw [List.map_cons, List.nodup_cons] at this
    rcases List.mem_cons.1 hp with rfl | hp
    · rcases List.mem_cons.1 hq with rfl | hq
      · rfl
      · exact absurd (List.mem_map.2 ⟨q, hq, e.symm⟩) this.1
    · rcases List.mem_cons.1 hq with e2 | hq
      · rw [e2] at e; exact absurd (List.mem_map.2 ⟨p, hp, e⟩) this.1
      · exact ih hp hq this.2

theorem enc_keys {L : Ents} (h : EntsOK L) : Maps.Keys (KeysOf Try.prog 28) (L.map encE) := by
  intro p hp
  obtain ⟨x, hx, rfl⟩ := List.mem_map.1 hp
  exact ⟨cpX x.1, keyOf_cp (h.ok x hx)⟩

theorem enc_apart {L : Ents} (h : EntsOK L) : (L.map encE).Pairwise (fun p q => p.1 ≠ q.1) := by
  rw [List.pairwise_map]
  have h1 : L.Pairwise (fun p q => p.1 ≠ q.1) := by have := h.nodup; rwa [List.Nodup, List.pairwise_map] at this
  refine (List.Pairwise.and_mem.1 h1).imp fun {p q} hpq e => hpq.2.2 (kl_inj (h.ok p hpq.1) (h.ok q hpq.2.1) e)

theorem dms_sorted {L : Ents} (h : EntsOK L) : (dms L).Pairwise (fun p q => p.1.before q.1 = true) := Maps.sorted_sorted lawC.one _ (enc_keys h) (enc_apart h)

theorem dms_perm {L M : Ents} (h : EntsOK L) (hp : L.Perm M) : dms L = dms M :=
  ChangeMaps.eq_of_perm_sorted ((WideShapes.sorted_perm _).trans ((hp.map _).trans (WideShapes.sorted_perm _).symm)) (dms_sorted h) (dms_sorted (h.perm hp))

theorem dms_len (L : Ents) : (dms L).length = L.length := by simp [dms, length_sorted]

theorem notKey_enc {L : Ents} (h : EntsOK L) {c : RtD} (hc : c.ok) {p : RtD × Value} (hp : p ∈ L) : ChangeMaps.notKey (kl c) (encE p) = decide (p.1 ≠ c) := by
  rw [Bool.eq_iff_iff, Maps.notKey_iff (lawC.key (keyOf_cp hc)), decide_eq_true_iff]
  exact ⟨fun hne e => hne (by rw [← e]; rfl), fun hne e => hne (kl_inj (h.ok p hp) hc e)⟩

theorem dms_put {L : Ents} (h : EntsOK L) {c : RtD} (v : Value) (hc : c.ok) (hn : c ∉ L.map Prod.fst) : ChangeMaps.putKey (kl c) (.held v) (dms L) = dms ((c, v) :: L) := by
  refine (Maps.sorted_put lawC.one (k := kl c) (d := .held v) (E := L.map encE) (E' := (kl c, .held v) :: L.map encE) ⟨cpX c, keyOf_cp hc⟩ (enc_keys h) (enc_apart h) ?_).symm
  have : (L.map encE).filter (ChangeMaps.notKey (kl c)) = L.map encE := by
    rw [List.filter_eq_self]
    intro q hq
    obtain ⟨p, hp, rfl⟩ := List.mem_map.1 hq
    rw [notKey_enc h hc hp, decide_eq_true_iff]
    exact fun e => hn (List.mem_map.2 ⟨p, hp, e⟩)
  rw [this]

theorem dms_del {L : Ents} (h : EntsOK L) {c : RtD} (hc : c.ok) : ChangeMaps.delKey (kl c) (dms L) = dms (L.filter fun p => decide (p.1 ≠ c)) := by
  refine (Maps.sorted_del lawC.one (k := kl c) (E := L.map encE) (E' := (L.filter fun p => decide (p.1 ≠ c)).map encE) (enc_keys h) (enc_apart h) ?_).symm
  rw [List.filter_map]
  refine List.Perm.of_eq (congrArg _ (List.filter_congr fun p hp => ?_))
  exact (notKey_enc h hc hp).symm

/-- The entry at a key. -/
def mget : Ents → RtD → Option Value
  | [], _ => none
  | (d, v) :: r, c => if d = c then some v else mget r c

theorem mget_none {L : Ents} {c : RtD} : mget L c = none ↔ c ∉ L.map Prod.fst := by
  induction L with
  | nil => simp [mget]
  | cons x r ih =>
    obtain ⟨d, v⟩ := x
    unfold mget
    by_cases e : d = c
    · simp [e]
    · rw [if_neg e, ih]; simp [Ne.symm e]

theorem mget_mem {L : Ents} {c : RtD} {v : Value} (h : mget L c = some v) : (c, v) ∈ L := by
  induction L with
  | nil => cases h
  | cons x r ih =>
    obtain ⟨d, u⟩ := x
    unfold mget at h
    by_cases e : d = c
    · rw [if_pos e] at h; cases h; subst e; simp
    · rw [if_neg e] at h; exact List.mem_cons_of_mem _ (ih h)

theorem mget_some {L : Ents} (hL : EntsOK L) {c : RtD} {v : Value} (h : (c, v) ∈ L) : mget L c = some v := by
  cases hm : mget L c with
  | none => exact absurd (List.mem_map.2 ⟨_, h, rfl⟩) (mget_none.1 hm)
  | some u => have := hL.uniq (mget_mem hm) h rfl; cases this; rfl

theorem mget_perm {L M : Ents} (hL : EntsOK L) (hp : L.Perm M) (c : RtD) : mget M c = mget L c := by
  cases hm : mget L c with
  | none => exact mget_none.2 fun h => mget_none.1 hm ((hp.map _).mem_iff.2 h)
  | some v => exact mget_some (hL.perm hp) (hp.mem_iff.1 (mget_mem hm))

theorem dms_at {L : Ents} (h : EntsOK L) {c : RtD} (hc : c.ok) (z : DataW Value) : (DataW.map (dms L)).atKey (kl c) z = ((mget L c).map DataW.held).getD z := by
  have hat := WideShapes.atKey_sorted (L.map encE) (ChangeMaps.rising_of_pairwise _ (dms_sorted h)) (kl c) (lawC.key (keyOf_cp hc))
  cases hm : mget L c with
  | none =>
    refine hat.1 (fun q hq e => ?_) z
    obtain ⟨p, hp, rfl⟩ := List.mem_map.1 hq
    exact mget_none.1 hm (List.mem_map.2 ⟨p, hp, kl_inj (h.ok p hp) hc e⟩)
  | some v => exact hat.2 (encE (c, v)) (List.mem_map.2 ⟨_, mget_mem hm, rfl⟩) rfl z

/-- Block b is a map with these entries. -/
def MapIs (w : World) (b : Nat) (L : Ents) : Prop := w.ownsMap Try.prog 28 Rv b L.length (.map (dms L)) ∧ EntsOK L

theorem own_tight {w : World} {b n : Nat} {L : Ents} (h : w.ownsMap Try.prog 28 Rv b n (.map (dms L))) : w.ownsMap Try.prog 28 Rv b L.length (.map (dms L)) := by
  obtain ⟨es, clock, hb, F, hs, hD⟩ := h
  refine ⟨es, clock, hb, F, ?_, hD⟩
  have := congrArg (fun d => match d with | DataW.map l => l.length | _ => 0) hD
  simp only [dms_len, length_read] at this
  omega

theorem MapIs.perm {w : World} {b : Nat} {L M : Ents} (h : MapIs w b L) (hp : L.Perm M) : MapIs w b M := ⟨by rw [← dms_perm h.2 hp, ← hp.length_eq]; exact h.1, h.2.perm hp⟩

theorem MapIs.made (w : World) : MapIs (w.alloc (.map #[] 0)) w.heap.size [] := ⟨World.ownsMap_made w _ _ _, EntsOK.nil⟩

theorem MapIs.lt {w : World} {b : Nat} {L : Ents} (h : MapIs w b L) : b < w.heap.size := h.1.lt

theorem MapIs.grown {w w' : World} {b : Nat} {L : Ents} {row : Option Nat} (h : MapIs w b L) (hg : w.grownBy w' row) (hne : some b ≠ row) : MapIs w' b L := ⟨h.1.kept hg hne, h.2⟩

theorem below_grown {w w' : World} (hb : Below w.heap.size w w') : w.grownBy w' none := ⟨hb.os, hb.tape, hb.output, hb.size, fun k hk _ => hb.block k hk⟩

theorem grown_belowM {w w' : World} (hb : w.grownBy w' none) : Below w.heap.size w w' := ⟨hb.os, hb.tape, hb.output, hb.size, fun k hk => hb.block k hk (by simp)⟩

theorem MapIs.call {w w' : World} {b : Nat} {L : Ents} (h : MapIs w b L) (hb : Below w.heap.size w w') : MapIs w' b L := h.grown (below_grown hb) (by simp)

theorem MapIs.obj {w : World} {b : Nat} {L : Ents} (h : MapIs w b L) : ∃ es clock, w.heap[b]? = some (.map es clock) := by obtain ⟨es, clock, hb, _⟩ := h.1; exact ⟨es, clock, hb⟩

/-- 'm[c]', 'v, ok := m[c]'. -/
theorem MapIs.look {w : World} {b : Nat} {L : Ents} (h : MapIs w b L) {c : RtD} (hc : c.ok) {t e : TypeId} (ok : Bool) (ht : Try.prog.underlying t = some (.map 28 e)) {z : Value} (hz : (zeroValue e).run Try.prog w = .ok z w) :
    (Instr.lookup t (.map (some b)) (cpX c) ok).run Try.prog w = .ok (if ok then .tuple #[(mget L c).getD z, .bool (mget L c).isSome] else (mget L c).getD z) w := by
  obtain ⟨⟨es, clock, hb, F, hs, hD⟩, hok⟩ := h
  have hat := dms_at hok hc
  rw [hD] at hat
  rcases Maps.fit_look ok lawC ht hz hb F (keyOf_cp hc) with ⟨hrun, _, h2⟩ | ⟨e0, y, _, _, hrun, hRv, h2, _⟩
  · have : mget L c = none := by
      cases hm : mget L c with
      | none => rfl
      | some v => have := (h2 .nil).symm.trans (hat .nil); rw [hm] at this; cases this
    rw [hrun, this]; rfl
  · have : mget L c = some e0.val := by
      have e1 : y.1 = .held e0.val := by simp only [Rv, Option.some.injEq] at hRv; rw [← hRv]
      have e2 := (h2 .nil).symm.trans (hat .nil)
      rw [e1] at e2
      cases hm : mget L c with
      | none => rw [hm] at e2; cases e2
      | some v => rw [hm] at e2; simp only [Option.map_some, Option.getD_some, DataW.held.injEq] at e2; rw [e2]
    rw [hrun, this]; rfl

/-- 'm[c] = v' at a key that is not there. -/
theorem MapIs.put {w : World} {b : Nat} {L : Ents} (h : MapIs w b L) {c : RtD} (hc : c.ok) (v : Value) {t e : TypeId} (ht : Try.prog.underlying t = some (.map 28 e)) (hn : c ∉ L.map Prod.fst) (hl : L.length < maxLen) :
    ∃ w', (Instr.mapUpdate t (.map (some b)) (cpX c) v).run Try.prog w = .ok () w' ∧ MapIs w' b ((c, v) :: L) ∧ w.grownBy w' (some b) := by
  obtain ⟨w', h1, h2, h3⟩ := h.1.update lawC ht hl (keyOf_cp hc) (val := v) (d := .held v) (ps := []) rfl
  rw [DataW.put_eq, dms_put h.2 v hc hn] at h2
  exact ⟨w', h1, ⟨h2, h.2.cons hc hn⟩, h3⟩

/-- 'len(m)'. -/
theorem MapIs.len {w : World} {b : Nat} {L : Ents} (h : MapIs w b L) {t e : TypeId} (ht : Try.prog.underlying t = some (.map 28 e)) (ty : TypeId) : (Builtin.len_ #[t] ty #[.map (some b)]).run Try.prog w = .ok (.int .i64 L.length) w := by
  have := h.1.len ht ty
  rwa [Maps.size_eq, dms_len] at this

/-- 'for c, v := range m' under way: U is still to come. -/
def RangeIs (w : World) (b r : Nat) (L U : Ents) (cnt : Nat) : Prop :=
  ∃ n left, w.ranges Try.prog 28 Rv b r n (.map (dms L)) left cnt ∧ (∀ l, left l = true ↔ ∃ p ∈ U, kl p.1 = l) ∧ (∀ p ∈ U, p ∈ L) ∧ EntsOK L ∧ EntsOK U

theorem RangeIs.map {w : World} {b r cnt : Nat} {L U : Ents} (h : RangeIs w b r L U cnt) : MapIs w b L := by
  obtain ⟨n, left, h1, _, _, h4, _⟩ := h
  exact ⟨own_tight h1.owns, h4⟩

theorem RangeIs.left_eq {w : World} {b r cnt : Nat} {L U : Ents} (h : RangeIs w b r L U cnt) : w.rangeLeft b r = cnt := by obtain ⟨n, left, h1, _⟩ := h; exact h1.left_eq

theorem RangeIs.lt {w : World} {b r cnt : Nat} {L U : Ents} (h : RangeIs w b r L U cnt) : r < w.heap.size := by obtain ⟨n, left, h1, _⟩ := h; exact h1.lt

theorem RangeIs.ne {w : World} {b r cnt : Nat} {L U : Ents} (h : RangeIs w b r L U cnt) : r ≠ b := by obtain ⟨n, left, h1, _⟩ := h; exact h1.ne

theorem RangeIs.grown {w w' : World} {b r cnt : Nat} {L U : Ents} {row : Option Nat} (h : RangeIs w b r L U cnt) (hg : w.grownBy w' row) (h1 : some b ≠ row) (h2 : some r ≠ row) : RangeIs w' b r L U cnt := by
  obtain ⟨n, left, h3, h4⟩ := h
  exact ⟨n, left, h3.kept hg h1 h2, h4⟩

theorem has_dms {L : Ents} (h : EntsOK L) (l : Lit) : Maps.has (DataW.map (dms L)) l = true ↔ ∃ p ∈ L, kl p.1 = l := by
  rw [Maps.has_eq, List.any_eq_true]
  constructor
  · rintro ⟨q, hq, hs⟩
    obtain ⟨p, hp, rfl⟩ := List.mem_map.1 (mem_sorted.1 hq)
    exact ⟨p, hp, WideAt.sameKey_eq hs⟩
  · rintro ⟨p, hp, rfl⟩
    exact ⟨encE p, mem_sorted.2 (List.mem_map.2 ⟨p, hp, rfl⟩), WideAt.sameKey_self (lawC.key (keyOf_cp (h.ok p hp)))⟩

theorem MapIs.range {w : World} {b : Nat} {L : Ents} (h : MapIs w b L) {t e : TypeId} (ht : Try.prog.underlying t = some (.map 28 e)) :
    ∃ w', (Instr.range t (.map (some b))).run Try.prog w = .ok (.pointer (some ⟨w.heap.size, 0, none⟩)) w' ∧ RangeIs w' b w.heap.size L L L.length ∧ w.grownBy w' none ∧ w'.heap.size = w.heap.size + 1 := by
  obtain ⟨w', h1, h2, h3, h4⟩ := h.1.range lawC ht
  rw [Maps.size_eq, dms_len] at h2
  exact ⟨w', h1, ⟨_, _, h2, has_dms h.2, fun p hp => hp, h.2, h.2⟩, h3, h4⟩

theorem erase_perm {U : Ents} {p : RtD × Value} (hp : p ∈ U) : ∃ U', U.Perm (p :: U') := by
  obtain ⟨a, b, rfl⟩ := List.append_of_mem hp
  exact ⟨a ++ b, List.perm_middle⟩

/-- The step. -/
theorem RangeIs.next {w : World} {b r cnt : Nat} {L U : Ents} (h : RangeIs w b r L U cnt) (ty : TypeId) :
    (U = [] ∧ (Instr.next (.pointer (some ⟨r, 0, none⟩)) false ty).run Try.prog w = .ok (.tuple #[.bool false]) w) ∨
    ∃ p U' w' cnt', U.Perm (p :: U') ∧ (Instr.next (.pointer (some ⟨r, 0, none⟩)) false ty).run Try.prog w = .ok (.tuple #[.bool true, cpX p.1, p.2]) w' ∧ RangeIs w' b r L U' cnt' ∧ cnt' < cnt ∧ w.grownBy w' (some r) ∧ w'.heap.size = w.heap.size ∧
      (Instr.entry (.pointer (some ⟨r, 0, none⟩))).run Try.prog w' = .ok (.tuple #[cpX p.1, p.2]) w' := by
  obtain ⟨n, left, h1, hl, hsub, hL, hU⟩ := h
  rcases h1.next lawC ty with ⟨_, h0, hrun⟩ | ⟨key, v, l, y, w', cnt', hkey, hlk, hv, hat, hrun, hrg, hlt, hgr, hsz, hen⟩
  · refine .inl ⟨?_, hrun⟩
    cases U with
    | nil => rfl
    | cons p r => have := (hl (kl p.1)).2 ⟨p, by simp, rfl⟩; rw [h0] at this; cases this
  · obtain ⟨p, hp, rfl⟩ := (hl l).1 hlk
    have hpo := hU.ok p hp
    have ek : key = cpX p.1 := lawC.inj hkey (keyOf_cp hpo)
    have ey : y.1 = .held v := by simp only [Rv, Option.some.injEq] at hv; rw [← hv]
    have ev : v = p.2 := by
      have e1 := (hat .nil).symm.trans (dms_at hL hpo .nil)
      rw [ey, mget_some hL (hsub p hp)] at e1
      simpa using e1
    subst ek ev
    obtain ⟨U', hp'⟩ := erase_perm hp
    have hU2 := hU.perm hp'
    have hnd := hU2.nodup
    rw [List.map_cons, List.nodup_cons] at hnd
    refine .inr ⟨p, U', w', cnt', hp', hrun, ⟨n, _, hrg, fun l => ?_, fun q hq => hsub q (hp'.mem_iff.2 (List.mem_cons_of_mem _ hq)), hL, hU2.sub (List.sublist_cons_self _ _)⟩, hlt, hgr, hsz, hen⟩
    simp only [Bool.and_eq_true, Bool.not_eq_true', hl]
    constructor
    · rintro ⟨⟨q, hq, rfl⟩, hs⟩
      rcases List.mem_cons.1 (hp'.mem_iff.1 hq) with rfl | hq'
      · rw [WideAt.sameKey_self (lawC.key (keyOf_cp hpo))] at hs; cases hs
      · exact ⟨q, hq', rfl⟩
    · rintro ⟨q, hq, rfl⟩
      refine ⟨⟨q, hp'.mem_iff.2 (List.mem_cons_of_mem _ hq), rfl⟩, ?_⟩
      cases hs : (kl q.1).sameKey (kl p.1)
      · rfl
      · exact absurd (List.mem_map.2 ⟨q, hq, kl_inj (hU2.ok q (List.mem_cons_of_mem _ hq)) hpo (WideAt.sameKey_eq hs)⟩) hnd.1

/-- 'delete(m, c)' in the round, c no longer to come. -/
theorem RangeIs.drop {w : World} {b r cnt : Nat} {L U : Ents} (h : RangeIs w b r L U cnt) {c : RtD} (hc : c.ok) (hn : c ∉ U.map Prod.fst) {t e : TypeId} (ht : Try.prog.underlying t = some (.map 28 e)) (ty : TypeId) :
    ∃ w' cnt', (Builtin.delete_ #[t, 28] ty #[.map (some b), cpX c]).run Try.prog w = .ok (.tuple #[]) w' ∧ RangeIs w' b r (L.filter fun p => decide (p.1 ≠ c)) U cnt' ∧ cnt' ≤ cnt ∧ w.grownBy w' (some b) := by
  obtain ⟨n, left, h1, hl, hsub, hL, hU⟩ := h
  obtain ⟨w', cnt', hrun, hrg, hle, hmt⟩ := h1.drop lawC ht (keyOf_cp hc) ty
  rw [DataW.del_eq, dms_del hL hc] at hrg
  have hne : ∀ q ∈ U, q.1 ≠ c := fun q hq e => hn (List.mem_map.2 ⟨q, hq, e⟩)
  refine ⟨w', cnt', hrun, ⟨n, _, hrg, fun l => ?_, fun q hq => List.mem_filter.2 ⟨hsub q hq, by simpa using hne q hq⟩, hL.sub List.filter_sublist, hU⟩, hle, hmt.grown⟩
  simp only [Bool.and_eq_true, Bool.not_eq_true', hl]
  constructor
  · exact fun h => h.1
  · rintro ⟨q, hq, rfl⟩
    refine ⟨⟨q, hq, rfl⟩, ?_⟩
    cases hs : (kl q.1).sameKey (kl c)
    · rfl
    · exact absurd (kl_inj (hU.ok q hq) hc (WideAt.sameKey_eq hs)) (hne q hq)
/-! ### The entries behind a store at any key, and behind a deletion -/

theorem mget_filter (L : Ents) (c d : RtD) : mget (L.filter fun p => decide (p.1 ≠ c)) d = if d = c then none else mget L d := by
  induction L with
  | nil => simp [mget]
  | cons x r ih =>
    obtain ⟨k, v⟩ := x
    by_cases e : k = c
    · rw [List.filter_cons_of_neg (by simp [e]), ih]
      by_cases e2 : d = c
      · rw [if_pos e2, if_pos e2]
      · rw [if_neg e2, if_neg e2, mget, if_neg (by rw [e]; exact fun h => e2 h.symm)]
    · rw [List.filter_cons_of_pos (by simp [e]), mget, mget, ih]
      by_cases e2 : k = d
      · subst e2; rw [if_pos rfl, if_neg e, if_pos rfl]
      · rw [if_neg e2, if_neg e2]

theorem MapIs.putAny {w : World} {b : Nat} {L : Ents} (h : MapIs w b L) {c : RtD} (hc : c.ok) (v : Value) {t e : TypeId} (ht : Try.prog.underlying t = some (.map 28 e)) (hl : L.length < maxLen) :
    ∃ w', (Instr.mapUpdate t (.map (some b)) (cpX c) v).run Try.prog w = .ok () w' ∧ MapIs w' b ((c, v) :: L.filter fun p => decide (p.1 ≠ c)) ∧ w.grownBy w' (some b) := by
  obtain ⟨w', h1, h2, h3⟩ := h.1.update lawC ht hl (keyOf_cp hc) (val := v) (d := .held v) (ps := []) rfl
  have hs := h.2.sub (List.filter_sublist (l := L) (p := fun p => decide (p.1 ≠ c)))
  have hn : c ∉ (L.filter fun p => decide (p.1 ≠ c)).map Prod.fst := by
    intro hm
    obtain ⟨p, hp, e⟩ := List.mem_map.1 hm
    have := (List.mem_filter.1 hp).2
    simp [e] at this
  have hE : dms ((c, v) :: L.filter fun p => decide (p.1 ≠ c)) = ChangeMaps.putKey (kl c) (.held v) (dms L) := by
    refine Maps.sorted_put lawC.one (k := kl c) (d := .held v) (E := L.map encE) ⟨cpX c, keyOf_cp hc⟩ (enc_keys h.2) (enc_apart h.2) ?_
    rw [List.map_cons]
    refine List.Perm.cons _ ?_
    rw [List.filter_map]
    exact List.Perm.of_eq (congrArg _ (List.filter_congr fun p hp => (notKey_enc h.2 hc hp).symm))
  rw [DataW.put_eq, ← hE] at h2
  exact ⟨w', h1, ⟨own_tight h2, hs.cons hc hn⟩, h3⟩

theorem MapIs.del {w : World} {b : Nat} {L : Ents} (h : MapIs w b L) {c : RtD} (hc : c.ok) {t e : TypeId} (ht : Try.prog.underlying t = some (.map 28 e)) (ty : TypeId) :
    ∃ w', (Builtin.delete_ #[t, 28] ty #[.map (some b), cpX c]).run Try.prog w = .ok (.tuple #[]) w' ∧ MapIs w' b (L.filter fun p => decide (p.1 ≠ c)) ∧ w.grownBy w' (some b) := by
  obtain ⟨⟨es, clock, hb, F, hs, hD⟩, hok⟩ := h
  obtain ⟨es', hrun, F', hsz, hdel, _⟩ := Maps.fit_drop (ty := ty) lawC ht hb F (keyOf_cp hc)
  have hD' : dms L = (es.toList.map (WideElems.rg Try.prog 28 Rv)).foldr DataW.insert [] := by simpa using hD
  rw [← hD', dms_del hok hc] at hdel
  refine ⟨_, hrun, ⟨own_tight ⟨es', clock, ChangeMaps.heap_setBlock_same hb _, F', Nat.le_refl _, by rw [hdel]⟩, hok.sub List.filter_sublist⟩, ⟨rfl, rfl, rfl, by simp [ChangeMaps.setBlock], fun i _ hi => ChangeMaps.heap_setBlock_other hb _ (fun e => hi (by rw [e]))⟩⟩
/-! ### A map of weights -/

/-- Block b is a map of numbers that gives each root its weight (none: 0). -/
def WtI (w : World) (b m : Nat) (f : List Int → Int) : Prop := ∃ L, MapIs w b L ∧ L.length ≤ m ∧ ∀ r, IsBytes 32 r → (mget L ⟨r⟩).getD (.int .u64 0) = .int .u64 (f r)

theorem WtI.lt {w : World} {b m : Nat} {f : List Int → Int} (h : WtI w b m f) : b < w.heap.size := by obtain ⟨L, h, _⟩ := h; exact h.lt

theorem WtI.made (w : World) : WtI (w.alloc (.map #[] 0)) w.heap.size 0 (fun _ => 0) := ⟨[], MapIs.made w, Nat.le_refl _, fun r _ => rfl⟩

theorem WtI.call {w w' : World} {b m : Nat} {f : List Int → Int} (h : WtI w b m f) (hb : Below w.heap.size w w') : WtI w' b m f := by obtain ⟨L, h1, h2⟩ := h; exact ⟨L, h1.call hb, h2⟩

theorem WtI.grown {w w' : World} {b m : Nat} {f : List Int → Int} {row : Option Nat} (h : WtI w b m f) (hg : w.grownBy w' row) (hne : some b ≠ row) : WtI w' b m f := by obtain ⟨L, h1, h2⟩ := h; exact ⟨L, h1.grown hg hne, h2⟩

theorem WtI.congr {w : World} {b m : Nat} {f g : List Int → Int} (h : WtI w b m f) (e : ∀ r, IsBytes 32 r → f r = g r) : WtI w b m g := by obtain ⟨L, h1, h2, h3⟩ := h; exact ⟨L, h1, h2, fun r hr => by rw [h3 r hr, e r hr]⟩

theorem WtI.wide {w : World} {b m n : Nat} {f : List Int → Int} (h : WtI w b m f) (hn : m ≤ n) : WtI w b n f := by obtain ⟨L, h1, h2, h3⟩ := h; exact ⟨L, h1, Nat.le_trans h2 hn, h3⟩

theorem zero_u64 (w : World) : (zeroValue 22).run Try.prog w = .ok (.int .u64 0) w := Try.zeroValue22 w

theorem wt_put {L : Ents} {f : List Int → Int} {r : List Int} (h3 : ∀ s, IsBytes 32 s → (mget L ⟨s⟩).getD (.int .u64 0) = .int .u64 (f s)) (x : Int) (s : List Int) (hs : IsBytes 32 s) :
    (mget ((⟨r⟩, .int .u64 x) :: L.filter fun p => decide (p.1 ≠ ⟨r⟩)) ⟨s⟩).getD (.int .u64 0) = .int .u64 (if s = r then x else f s) := by
  rw [mget]
  by_cases e : s = r
  · subst e; rw [if_pos rfl, if_pos rfl]; rfl
  · rw [if_neg (fun h => e (by cases h; rfl)), mget_filter, if_neg (fun h => e (by cases h; rfl)), if_neg e]
    exact h3 s hs
section
open Go.ChangeShapes Go.WideShapes Go.MapKept Go.ChangeMaps
open Go.WideMaps (KeyLaw)

theorem entry_shape {P : Program} {w : World} {t k e : TypeId} {H : Type} {R : Value → Option (DataW H × List MemPlace)} {b : Nat} {es : Array MapEntry} {clock : Nat} (K : KeyLaw P k) (ht : P.underlying t = some (.map k e)) {z : Value} (hz : ∀ u : World, (zeroValue e).run P u = .ok z u) (hb : w.heap[b]? = some (.map es clock)) (F : WideElems.Fit P k R es clock)
    {key : Value} {kl : Lit} (hkey : keyOf P k key = some kl) :
    ((Instr.mapEntry t (.map (some b)) key).run P w = .ok (.tuple #[z, goInt clock]) (setBlock w b (.map (es.push ⟨key, z, clock⟩) (clock + 1))) ∧ (Instr.mapUpdate t (.map (some b)) key z).run P w = .ok () (setBlock w b (.map (es.push ⟨key, z, clock⟩) (clock + 1))) ∧ (Instr.lookup t (.map (some b)) key false).run P w = .ok z w) ∨
    ∃ e0 : MapEntry, (Instr.mapEntry t (.map (some b)) key).run P w = .ok (.tuple #[e0.val, goInt e0.born]) (setBlock w b (.map es clock)) := by
  rcases K.find w hkey es.toList F.keys with ⟨h1, h2⟩ | ⟨j, e0, h1, h2, h3⟩
  · refine .inl ⟨?_, ?_, ?_⟩
    · simp [Instr.mapEntry, run_underlying ht, MapKept.run_getObj_map hb, K.check w false hkey, h1, hz, MapKept.run_setObj_map _ hb, Result.andThen, setBlock]
    · simp [Instr.mapUpdate, run_underlying ht, MapKept.run_getObj_map hb, K.check w false hkey, h1, MapKept.run_setObj_map _ hb, Result.andThen, setBlock]
    · simp [Instr.lookup, run_underlying ht, MapKept.run_getObj_map hb, K.check w _ hkey, h1, hz, Result.andThen]
  · refine .inr ⟨e0, ?_⟩
    have hj : es[j]? = some e0 := by simpa using h2
    have hsame : es.modify j (fun e => { e with key := key }) = es := by
      apply Array.ext'
      rw [Array.toList_modify, modify_eq_set _ _ _ _ h2]
      have : ({ e0 with key := key } : MapEntry) = e0 := by rw [← h3]
      rw [this]
      exact WideElems.set_self _ _ _ h2
    simp [Instr.mapEntry, run_underlying ht, MapKept.run_getObj_map hb, K.check w false hkey, h1, hj, h3, K.stays w hkey, hsame, MapKept.run_setObj_map _ hb, Result.andThen, setBlock]
end
end RM
end

/-! RmK -/
section
set_option linter.unusedVariables false
set_option linter.unusedSimpArgs false
open Go.RowKit Go.Maps

set_option maxRecDepth 100000

theorem wp_mapEntry {P : Program} {o : Oper} {a : Act} {w w' : World} {K : Act → World → Prop} {Q : Exit → Act → World → Prop} (t : TypeId) (m x : Operand) (ho : o.op = .mapEntry t m x) (mv xv v : Value) (hm : a.eval m = mv) (hx : a.eval x = xv)
    (hr : (Instr.mapEntry t mv xv).run P w = .ok v w') (h : K (a.put o.dst v) w') : o.wp P a w K Q := by
  unfold Oper.wp execOp
  simp only [ho, hm, hx, Sem.run_bind, Sem.run_pure, Result.andThen_ok, hr]
  exact h

theorem wp_entryStore {P : Program} {o : Oper} {a : Act} {w w' : World} {K : Act → World → Prop} {Q : Exit → Act → World → Prop} (t : TypeId) (m s x : Operand) (ho : o.op = .entryStore t m s x) (mv sv xv : Value) (hm : a.eval m = mv) (hs : a.eval s = sv) (hx : a.eval x = xv)
    (hr : (Instr.entryStore t mv sv xv).run P w = .ok () w') (h : K (a.put o.dst undef) w') : o.wp P a w K Q := by
  unfold Oper.wp execOp
  simp only [ho, hm, hs, hx, Sem.run_bind, Sem.run_pure, Result.andThen_ok, hr]
  exact h

/-- A look-up in a map is taken first. -/
theorem k_look {P : Program} {ops : Array Oper} {Q : Exit → Act → World → Prop} {S : World → Prop} {k : Nat} (i : Nat) (r : List Nat) {oi : Oper} {fuel : Nat} {listed : Array Bool} {a : Act} {w : World} (hi : ops[i]? = some oi) (hb : heldB .any ops listed k r i = true)
    (hs : Region.noSelect ops = true) (hf : Region.free .any ops listed i = true) (hr : (Region.ready .any ops listed).contains i = true)
    (hQ : ∀ v c a w, Q (.panic c) (a.put oi.dst v) w → Q (.panic c) a w) (hw : Region.wanted oi (yielded ops a.tmps) = true) (t : TypeId) (m x : Operand) (ho : oi.op = .lookup t m x false) (mv xv v : Value) (hm : a.eval m = mv) (hx : a.eval x = xv)
    (hc : ∀ u, S u → (Instr.lookup t mv xv false).run P u = .ok v u) (hS : S w)
    (h : wpAnyK P .any ops Q S k fuel (listed.setIfInBounds i true) (a.put oi.dst v) w) : wpAnyK P .any ops Q S k (fuel + 1) listed a w :=
  wpAnyK_take r hi hb hs hf hr (hQ _) (.inl ⟨hw, fun u hu' => by
    unfold execOp
    simp only [ho, hm, hx, hc u hu', Sem.run_bind, Sem.run_pure, Result.andThen_ok]⟩) hS h

theorem below_drew (w : World) : Below w.heap.size w w.drew := ⟨rfl, rfl, rfl, Nat.le_refl _, fun _ _ => rfl⟩

theorem at_wlook {P : Program} {ops : Array Oper} {Q : Exit → Act → World → Prop} {dst : Option Tmp} {t ty' : TypeId} (m x : Operand) {ok : Bool} {pos : String} {aft : Array Edge} {g : Option (Nat × Bool)} {rest : List Oper} {a : Act} {w : World}
    (h : wpList P ops Q (⟨dst, .lookup t m x ok, ty', pos, aft, g⟩ :: rest) a w) : wpList P ops Q (⟨dst, .lookup t m x ok, ty', pos, aft, g⟩ :: rest) a w := h

theorem wpList_look {P : Program} {ops : Array Oper} {rest : List Oper} {o : Oper} {a : Act} {w : World} {Q : Exit → Act → World → Prop} (hg : o.guard = none) (t : TypeId) (m x : Operand) (ok : Bool) (ho : o.op = .lookup t m x ok) (mv xv v : Value) (hm : a.eval m = mv) (hx : a.eval x = xv)
    (hr : (Instr.lookup t mv xv ok).run P w = .ok v w) (h : wpList P ops Q rest (a.put o.dst v) w) : wpList P ops Q (o :: rest) a w :=
  wpList_yields hg v (by
    unfold execOp
    simp only [ho, hm, hx, Sem.run_bind, hr, Result.andThen_ok, Sem.run_pure]) h

theorem at_wdel {P : Program} {ops : Array Oper} {Q : Exit → Act → World → Prop} {dst : Option Tmp} {ty' : TypeId} (m x : Operand) {tt : Array TypeId} {pos : String} {aft : Array Edge} {g : Option (Nat × Bool)} {rest : List Oper} {a : Act} {w : World}
    (h : wpList P ops Q (⟨dst, .call { callee := .builtin .delete, args := #[m, x], argTypes := tt }, ty', pos, aft, g⟩ :: rest) a w) : wpList P ops Q (⟨dst, .call { callee := .builtin .delete, args := #[m, x], argTypes := tt }, ty', pos, aft, g⟩ :: rest) a w := h

theorem wpList_del {P : Program} {ops : Array Oper} {rest : List Oper} {o : Oper} {a : Act} {w w' : World} {Q : Exit → Act → World → Prop} (hg : o.guard = none) (m x : Operand) (t k : TypeId) (ho : o.op = .call { callee := .builtin .delete, args := #[m, x], argTypes := #[t, k] }) (mv xv : Value) (hm : a.eval m = mv) (hx : a.eval x = xv)
    (hr : (Builtin.delete_ #[t, k] o.type #[mv, xv]).run P w = .ok (.tuple #[]) w') (h : wpList P ops Q rest (a.put o.dst (.tuple #[])) w') : wpList P ops Q (o :: rest) a w := by
  refine wpList_plain hg fun K' hK' => ?_
  unfold Oper.wp
  simp only [execOp, ho, resolve, invoke, builtin, List.map_toArray, List.map_cons, List.map_nil, hm, hx, Sem.run_bind, Sem.run_pure, hr, Result.andThen_ok]
  exact hK' _ _ h
end

/-! WgB -/
section
set_option linter.unusedVariables false
set_option linter.unusedSimpArgs false
open Go.RowKit Go.Maps
open RM (WtI)

set_option maxRecDepth 100000

/-- The sum of the balances hs of the first k validators that vote for this root. -/
def dbrK (vs : List VoD) (hs : List Int) (r : List Int) : Nat → Int
  | 0 => 0
  | k + 1 => if (vs.getD k zeV).has = true ∧ r = (vs.getD k zeV).r then IntKind.u64.wrap (dbrK vs hs r k + hs.getD k 0) else dbrK vs hs r k

theorem dbrK_out {vs : List VoD} {hs : List Int} {k : Nat} (h : (vs.getD k zeV).has = false) (r : List Int) : dbrK vs hs r (k + 1) = dbrK vs hs r k := by
  show (if _ then _ else _) = _
  rw [if_neg (by rw [h]; simp)]

theorem dbrK_in {vs : List VoD} {hs : List Int} {k : Nat} (h : (vs.getD k zeV).has = true) (s : List Int) : dbrK vs hs s (k + 1) = if s = (vs.getD k zeV).r then IntKind.u64.wrap (dbrK vs hs (vs.getD k zeV).r k + hs.getD k 0) else dbrK vs hs s k := by
  show (if _ then _ else _) = _
  by_cases e : s = (vs.getD k zeV).r
  · rw [if_pos ⟨h, e⟩, if_pos e, e]
  · rw [if_neg (fun x => e x.2), if_neg e]

theorem dbrK_past {vs : List VoD} (hs : List Int) (r : List Int) {k : Nat} (h : ¬ k < vs.length) : dbrK vs hs r (k + 1) = dbrK vs hs r k :=
  dbrK_out (by rw [List.getD, List.getElem?_eq_none (by omega)]; rfl) r

/-- What holds at the loop's head. -/
structure DbL (w : World) (lv ev : Value) (vs : List VoD) (hs : List Int) (hv : Value) (k q : Nat) (u : World) : Prop where
  t : Blk u w.heap.size #[lv, ev]
  m : WtI u (w.heap.size + 1) q (fun r => dbrK vs hs r k)
  h : HoR (w.heap.size + 2) hv hs u
  b : Below w.heap.size w u

theorem HoR.grown {u u' : World} {B g : Nat} {v : Value} {l : List Int} (h : HoR B v l u) (hg : u.grownBy u' (some g)) (hl : g < B) : HoR B v l u' := by
  refine ⟨Nat.le_trans h.lt hg.size, h.mx, ?_⟩
  rcases h.row with h1 | ⟨q, c, e, h2, h3⟩
  · exact .inl h1
  · exact .inr ⟨q, c, e, h2, h3.grown hg (by simp; omega)⟩

theorem DbL.call {w u u' : World} {lv ev hv : Value} {vs : List VoD} {hs : List Int} {k q : Nat} (h : DbL w lv ev vs hs hv k q u) (hb : Below u.heap.size u u') : DbL w lv ev vs hs hv k q u' :=
  ⟨h.t.call hb, h.m.call hb, h.h.call hb, h.b.trans (hb.mono h.b.size)⟩

theorem DbL.wide {w u : World} {lv ev hv : Value} {vs : List VoD} {hs : List Int} {k q q' : Nat} (h : DbL w lv ev vs hs hv k q u) (hq : q ≤ q') : DbL w lv ev vs hs hv k q' u := ⟨h.t, h.m.wide hq, h.h, h.b⟩

theorem DbL.turned {w u u' : World} {lv ev hv : Value} {vs : List VoD} {hs : List Int} {k q k' q' : Nat} (h : DbL w lv ev vs hs hv k q u) (hg : u.grownBy u' (some (w.heap.size + 1))) (hm : WtI u' (w.heap.size + 1) q' (fun r => dbrK vs hs r k')) : DbL w lv ev vs hs hv k' q' u' :=
  ⟨h.t.grown hg (by simp), hm, h.h.grown hg (by omega), h.b.grown hg h.b.size (fun n e => by cases e; omega)⟩

theorem vo_rt {w : World} {b o : Nat} {dh : Bool} {dn : Int} {dr : List Int} (h : w.rangeAt b o (VoD.mk dh dn dr).cells) : w.rangeAt b (o + 2) (bytesL dr) := fun j v hj => by
  have := h (2 + j) v (by show (Value.bool dh :: Value.int .u64 dn :: bytesL dr)[2 + j]? = some v; rw [show 2 + j = j + 2 by omega]; simpa using hj)
  rw [show o + 2 + j = o + (2 + j) by omega]; exact this
end

/-! WgC -/
section
set_option linter.unusedVariables false
set_option linter.unusedSimpArgs false
open Go.RowKit Go.Maps
open RM (WtI)

set_option maxRecDepth 100000

theorem wpList_makeU {ops : Array Oper} {rest : List Oper} {o : Oper} {a : Act} {w : World} {Q : Exit → Act → World → Prop} (hg : o.guard = none) (l : Operand) (hop : o.op = Op.makeSlice 29 l l)
    (kl : IntKind) (n : Nat) (hl : a.eval l = .int kl (n : Int)) (hn : n ≤ 1000000)
    (hK : ∀ w', Below w.heap.size w w' → RowB w' w.heap.size (numL .u64 (List.replicate n 0)) → wpList Try.prog ops Q rest (a.put o.dst (.slice (some ⟨w.heap.size, 0, none⟩) n n)) w') : wpList Try.prog ops Q (o :: rest) a w := by
  obtain ⟨i0, hi0, hz0, hz1, hz2⟩ := info_parts info_u64c
  refine wpList_plain hg fun _ hK' => ?_
  have hr := run_make (P := Try.prog) w 29 22 i0 (.int .u64 0) Try.underlying29 hi0 hz0 kl kl n n (by omega) (by omega) (by rw [hz2]; omega) (by omega)
  simp only [Int.toNat_natCast, hz1, Nat.mul_one] at hr
  have hm : madeCells (Value.int .u64 0).cells n = flatP (numL .u64 (List.replicate n 0) ++ [[]]) := by
    apply Array.toList_inj.1
    rw [show (Value.int .u64 0).cells = #[Value.int .u64 0] from rfl, toList_madeCells_one]
    unfold flatP
    rw [List.flatten_append, numL_flat]
    simp
  rw [hm] at hr
  unfold Oper.wp
  simp only [execOp, hop, hl, Sem.run_bind, hr, Result.andThen, Sem.run_pure]
  exact hK' _ _ (hK _ ((Below.refl _ w).alloc (Nat.le_refl _) _) ⟨[], Blk.new rfl⟩)
/-! ### The code's sum by root is the reference's -/

theorem weiK_rng (vs : List VoD) (es bs : List Int) (rs : List (List Int)) : ∀ k, 0 ≤ weiK vs es bs rs k ∧ weiK vs es bs rs k ≤ 18446744073709551615
  | 0 => by show 0 ≤ (0 : Int) ∧ (0 : Int) ≤ _; omega
  | k + 1 => by
    cases h : weiP vs es rs k
    · rw [weiK_no h]; exact weiK_rng vs es bs rs k
    · rw [weiK_yes h]
      have := IntKind.wrap_u64 (weiK vs es bs rs k + bs.getD k 0)
      omega

theorem dbr_wei {vs : List VoD} {es bs : List Int} (hb : ∀ x ∈ bs, 0 ≤ x ∧ x ≤ 18446744073709551615) (r : List Int) : ∀ k, k ≤ bs.length → dbrK vs (honL es bs) r k = weiK vs es bs [r] k
  | 0, _ => rfl
  | k + 1, hk => by
    have ih := dbr_wei (vs := vs) (es := es) hb r k (by omega)
    have hg := honL_get es bs (show k < bs.length from hk)
    have hr := weiK_rng vs es bs [r] k
    cases hh : (vs.getD k zeV).has
    · rw [dbrK_out hh, ih, weiK_no (by unfold weiP; rw [hh]; rfl)]
    · rw [dbrK_in hh]
      by_cases e : r = (vs.getD k zeV).r
      · rw [if_pos e, ← e, ih, hg]
        by_cases h : (k : Int) ∈ es
        · rw [if_pos h, weiK_no (by unfold weiP; simp [h]), Int.add_zero, IntKind.wrap_u64]
          omega
        · rw [if_neg h, weiK_yes (by unfold weiP; rw [hh, ← e]; simp [h])]
      · rw [if_neg e, ih, weiK_no (by unfold weiP; simp; intro _ _ h; exact absurd h.symm e)]

theorem weiK_past {vs : List VoD} (es bs : List Int) (rs : List (List Int)) : ∀ {k : Nat}, vs.length ≤ k → weiK vs es bs rs k = weiK vs es bs rs vs.length
  | 0, h => by rw [Nat.le_zero.1 h]
  | k + 1, h => by
    by_cases e : vs.length = k + 1
    · rw [e]
    · rw [weiK_no (by unfold weiP; rw [show vs.getD k zeV = zeV by rw [List.getD, List.getElem?_eq_none (by omega)]; rfl]; rfl), weiK_past es bs rs (by omega)]

theorem dbr_weiN {vs : List VoD} {es bs : List Int} (hb : ∀ x ∈ bs, 0 ≤ x ∧ x ≤ 18446744073709551615) (r : List Int) : dbrK vs (honL es bs) r bs.length = weiN vs es bs [r] := by
  rw [dbr_wei hb r _ (Nat.le_refl _)]
  unfold weiN
  by_cases h : bs.length ≤ vs.length
  · rw [Nat.min_eq_left h]
  · rw [Nat.min_eq_right (by omega), weiK_past es bs [r] (by omega)]
/-! ### Direct -/

/-- The row behind k nodes. -/
def dirW (ns : List NdD) (vs : List VoD) (es bs : List Int) (m k : Nat) : List Int := dirL ns vs es bs k ++ List.replicate (m - k) 0

theorem dirW_len {ns : List NdD} (vs : List VoD) (es bs : List Int) {k : Nat} (hk : k ≤ ns.length) : (dirW ns vs es bs ns.length k).length = ns.length := by
  unfold dirW; rw [List.length_append, dirL_len vs es bs hk, List.length_replicate]; omega

theorem dirW_end {ns : List NdD} (vs : List VoD) (es bs : List Int) : dirW ns vs es bs ns.length ns.length = dirL ns vs es bs ns.length := by
  unfold dirW; rw [Nat.sub_self, List.replicate_zero, List.append_nil]

theorem dirW_set {ns : List NdD} (vs : List VoD) (es bs : List Int) {k : Nat} (hk : k < ns.length) : (dirW ns vs es bs ns.length k).set k (dirV vs es bs ns[k]) = dirW ns vs es bs ns.length (k + 1) := by
  unfold dirW
  rw [dirL_succ vs es bs hk, List.set_append_right _ _ (by rw [dirL_len vs es bs (by omega)]; exact Nat.le_refl _), dirL_len vs es bs (by omega), Nat.sub_self, show ns.length - k = (ns.length - (k + 1)) + 1 by omega, List.replicate_succ]
  simp

theorem dirW_keep {ns : List NdD} (vs : List VoD) (es bs : List Int) {k : Nat} (hk : k < ns.length) (h : dirV vs es bs ns[k] = 0) : dirW ns vs es bs ns.length (k + 1) = dirW ns vs es bs ns.length k := by
  unfold dirW
  rw [dirL_succ vs es bs hk, h, show ns.length - k = (ns.length - (k + 1)) + 1 by omega, List.replicate_succ]
  simp

/-- The boxes of the tree and the votes, the map, the row. -/
structure DiS (w : World) (T V : Array Value) (mb q g : Nat) (f : List Int → Int) (l : List Int) (u : World) : Prop where
  p : PaD w T V u
  m : WtI u mb q f
  r : RowB u g (numL .u64 l)
  mg : w.heap.size + 1 < mb ∧ mb < g

theorem DiS.upd {w u u' : World} {T V : Array Value} {mb q g : Nat} {f : List Int → Int} {l l' : List Int} (h : DiS w T V mb q g f l u) (U : Upd g u u') (hr : RowB u' g (numL .u64 l')) : DiS w T V mb q g f l' u' :=
  ⟨⟨U.blk h.p.t (by have := h.mg; omega), U.blk h.p.v (by have := h.mg; omega), U.below h.p.b (by have := h.mg; omega)⟩, h.m.grown (upd_grown U) (by have := h.mg; simp; omega), hr, h.mg⟩
end

/-! SbT -/
section
set_option linter.unusedVariables false
set_option linter.unusedSimpArgs false
open Go.RowKit

set_option maxRecDepth 100000
/-! ### Sums -/

def sumX (f : Nat → Int) : Nat → Int
  | 0 => 0
  | k + 1 => sumX f k + f k

theorem sumX_succ (f : Nat → Int) (k : Nat) : sumX f (k + 1) = sumX f k + f k := rfl

theorem sumX_congr {f g : Nat → Int} : ∀ {n : Nat}, (∀ k, k < n → f k = g k) → sumX f n = sumX g n
  | 0, _ => rfl
  | n + 1, h => by rw [sumX_succ, sumX_succ, sumX_congr (fun k hk => h k (by omega)), h n (by omega)]

theorem sumX_add (f g : Nat → Int) : ∀ n, sumX (fun k => f k + g k) n = sumX f n + sumX g n
  | 0 => rfl
  | n + 1 => by rw [sumX_succ, sumX_succ, sumX_succ, sumX_add f g n]; omega

theorem sumX_zero {f : Nat → Int} {n : Nat} (h : ∀ k, k < n → f k = 0) : sumX f n = 0 := by
  rw [sumX_congr (g := fun _ => 0) h]
  induction n with
  | zero => rfl
  | succ n ih => rw [sumX_succ, ih (fun k hk => h k (by omega))]; rfl

theorem sumX_one {f : Nat → Int} {n i : Nat} (hi : i < n) (h : ∀ k, k < n → k ≠ i → f k = 0) : sumX f n = f i := by
  induction n with
  | zero => omega
  | succ n ih =>
    rw [sumX_succ]
    by_cases e : i = n
    · subst e
      rw [sumX_zero (fun k hk => h k (by omega) (by omega))]; omega
    · rw [ih (by omega) (fun k hk hne => h k (by omega) hne), h n (by omega) (fun x => e x.symm)]; omega

theorem sumX_mul (f : Nat → Int) (c : Int) : ∀ n, sumX (fun k => f k * c) n = sumX f n * c
  | 0 => by simp [sumX]
  | n + 1 => by rw [sumX_succ, sumX_succ, sumX_mul f c n, Int.add_mul]

theorem sumX_swap (g : Nat → Nat → Int) (n : Nat) : ∀ m, sumX (fun x => sumX (fun c => g x c) n) m = sumX (fun c => sumX (fun x => g x c) m) n
  | 0 => by
    show (0 : Int) = _
    rw [sumX_zero]; intro k _; rfl
  | m + 1 => by
    rw [sumX_succ, sumX_swap g n m, ← sumX_add]
    exact sumX_congr (fun k _ => rfl)

theorem sumX_le {f g : Nat → Int} : ∀ {n : Nat}, (∀ k, k < n → f k ≤ g k) → sumX f n ≤ sumX g n
  | 0, _ => Int.le_refl _
  | n + 1, h => by
    rw [sumX_succ, sumX_succ]
    have h1 := sumX_le (fun k hk => h k (by omega)) (f := f) (g := g) (n := n)
    have h2 := h n (by omega)
    omega

theorem sumX_pos {f : Nat → Int} {n : Nat} (h : ∀ k, k < n → 0 ≤ f k) : 0 ≤ sumX f n := by
  have := sumX_le (f := fun _ => 0) (g := f) (n := n) h
  rw [sumX_zero (fun k _ => rfl)] at this
  exact this
/-! ### The reference's sums -/

theorem u64_two (a b : Int) : IntKind.u64.wrap (IntKind.u64.wrap a + b) = IntKind.u64.wrap (a + b) := by
  rw [IntKind.wrap_u64, IntKind.wrap_u64, IntKind.wrap_u64]; omega

theorem u64_two' (a b : Int) : IntKind.u64.wrap (a + IntKind.u64.wrap b) = IntKind.u64.wrap (a + b) := by
  rw [IntKind.wrap_u64, IntKind.wrap_u64, IntKind.wrap_u64]; omega

theorem sumDl_app (dl d e : List Int) : ∀ j, j ≤ d.length → sumDl dl (d ++ e) j = sumDl dl d j
  | 0, _ => rfl
  | j + 1, h => by
    rw [sumDl_succ, sumDl_succ, sumDl_app dl d e j (by omega)]
    have : (d ++ e).getD j 0 = d.getD j 0 := by
      simp only [List.getD_eq_getElem?_getD]
      rw [List.getElem?_append_left (by omega)]
    rw [this]

theorem sumDl_sel (dl : List Int) (p : Nat → Bool) : ∀ k, sumDl dl (selK p k) (selK p k).length = IntKind.u64.wrap (sumX (fun x => if p x = true then dl.getD x 0 else 0) k)
  | 0 => by show (0 : Int) = _; rw [show sumX _ 0 = 0 from rfl]; rfl
  | k + 1 => by
    have ih := sumDl_sel dl p k
    rw [sumX_succ]
    cases h : p k
    · rw [selK_no h, ih]; simp
    · rw [selK_yes h, List.length_append, List.length_singleton, sumDl_succ, sumDl_app _ _ _ _ (Nat.le_refl _), ih, u64_two]
      have : (selK p k ++ [(k : Int)]).getD (selK p k).length 0 = (k : Int) := by
        simp [List.getD_eq_getElem?_getD]
      rw [this]; simp
/-! ### The exact weights of subtrees -/

def ancB (ns : List NdD) (j x : Nat) : Bool := decide ((j : Int) ∈ pathN ns (x : Int))

def sbX (ns : List NdD) (f : Nat → Int) (j : Nat) : Int := sumX (fun x => if ancB ns j x = true then f x else 0) ns.length

theorem sbt_X (ns : List NdD) (dl : List Int) (j : Nat) : sbtV ns dl (j : Int) = IntKind.u64.wrap (sbX ns (fun x => dl.getD x 0) j) := by
  unfold sbtV descN
  rw [sumDl_sel]
  rfl

theorem sbtL_get (ns : List NdD) (dl : List Int) : ∀ (k : Nat) {j : Nat}, j < k → (sbtL ns dl k).getD j 0 = IntKind.u64.wrap (sbX ns (fun x => dl.getD x 0) j)
  | k + 1, j, h => by
    rw [sbtL_succ]
    have hl := sbtL_len ns dl k
    by_cases e : j < k
    · rw [show (sbtL ns dl k ++ [sbtV ns dl (k : Int)]).getD j 0 = (sbtL ns dl k).getD j 0 by simp only [List.getD_eq_getElem?_getD]; rw [List.getElem?_append_left (by omega)], sbtL_get ns dl k e]
    · obtain rfl : j = k := by omega
      rw [← sbt_X]
      simp only [List.getD_eq_getElem?_getD]
      rw [List.getElem?_append_right (by omega), hl, Nat.sub_self]; rfl

theorem upI_bd {ns : List NdD} (h : TrOK ns) {x : Nat} (hx : x < ns.length) : -1 ≤ upI ns x ∧ upI ns x < x := by
  rw [upI_at hx]; have := up_path h hx; exact ⟨this.1, this.2.1⟩

theorem ancB_up {ns : List NdD} (h : TrOK ns) {x : Nat} (hx : x < ns.length) (j : Nat) : ancB ns j x = true ↔ ((0 ≤ upI ns x ∧ ancB ns j (upI ns x).toNat = true) ∨ j = x) := by
  unfold ancB
  rw [decide_eq_true_iff, decide_eq_true_iff, path_up h hx, upI_at hx]
  have hb := up_path h hx
  constructor
  · rintro (h1 | h1)
    · have := path_le h h1
      have h0 : 0 ≤ ns[x].up := by omega
      exact .inl ⟨h0, by rw [Int.toNat_of_nonneg h0]; exact h1⟩
    · exact .inr (by omega)
  · rintro (⟨h0, h1⟩ | h1)
    · rw [Int.toNat_of_nonneg h0] at h1; exact .inl h1
    · exact .inr (by omega)

theorem ancB_le {ns : List NdD} (h : TrOK ns) {j x : Nat} (ha : ancB ns j x = true) : j ≤ x := by
  unfold ancB at ha
  rw [decide_eq_true_iff] at ha
  have := path_le h ha
  omega

theorem ancB_self {ns : List NdD} (h : TrOK ns) {x : Nat} (hx : x < ns.length) : ancB ns x x = true := by
  unfold ancB; rw [decide_eq_true_iff]; exact path_self h hx

/-- On the way from x up to j there is exactly one child of j. -/
theorem one_child {ns : List NdD} (h : TrOK ns) {j : Nat} : ∀ (B x : Nat), x < B → x < ns.length →
    sumX (fun c => if upI ns c = (j : Int) ∧ ancB ns c x = true then 1 else 0) ns.length = if ancB ns j x = true ∧ x ≠ j then 1 else 0
  | B + 1, x, hB, hx => by
    have hub := upI_bd h hx
    have hsp : sumX (fun c => if upI ns c = (j : Int) ∧ ancB ns c x = true then (1 : Int) else 0) ns.length
        = sumX (fun c => if upI ns c = (j : Int) ∧ 0 ≤ upI ns x ∧ ancB ns c (upI ns x).toNat = true then (1 : Int) else 0) ns.length + (if upI ns x = (j : Int) then 1 else 0) := by
      have e1 : (if upI ns x = (j : Int) then (1 : Int) else 0) = sumX (fun c => if c = x ∧ upI ns x = (j : Int) then (1 : Int) else 0) ns.length := by
        rw [sumX_one hx (fun k _ hne => by rw [if_neg (fun z => hne z.1)])]
        simp
      rw [e1, ← sumX_add]
      refine sumX_congr fun c hc => ?_
      by_cases hcx : c = x
      · subst hcx
        have hno : ¬ (0 ≤ upI ns c ∧ ancB ns c (upI ns c).toNat = true) := fun z => by have := ancB_le h z.2; omega
        rw [if_neg (show ¬ (upI ns c = (j : Int) ∧ 0 ≤ upI ns c ∧ ancB ns c (upI ns c).toNat = true) from fun z => hno z.2)]
        simp [ancB_self h hx]
      · have hiff := ancB_up h hx c
        rw [if_neg (show ¬ (c = x ∧ upI ns x = (j : Int)) from fun z => hcx z.1), Int.add_zero]
        by_cases h1 : upI ns c = (j : Int) ∧ ancB ns c x = true
        · rw [if_pos h1, if_pos ⟨h1.1, (hiff.1 h1.2).resolve_right hcx⟩]
        · rw [if_neg h1, if_neg (fun z => h1 ⟨z.1, hiff.2 (.inl z.2)⟩)]
    rw [hsp]
    have hj := ancB_up h hx j
    by_cases h0 : 0 ≤ upI ns x
    · obtain ⟨p, hp⟩ : ∃ p : Nat, upI ns x = p := ⟨(upI ns x).toNat, by omega⟩
      have hpx : p < x := by omega
      have ih := one_child h (j := j) B p (by omega) (by omega)
      have e2 : sumX (fun c => if upI ns c = (j : Int) ∧ 0 ≤ upI ns x ∧ ancB ns c (upI ns x).toNat = true then (1 : Int) else 0) ns.length = sumX (fun c => if upI ns c = (j : Int) ∧ ancB ns c p = true then 1 else 0) ns.length := by
        refine sumX_congr fun c _ => ?_
        rw [hp, Int.toNat_natCast]
        simp
      rw [e2, ih, hp]
      rw [hp, Int.toNat_natCast] at hj
      by_cases hpj : p = j
      · subst hpj
        have hs := ancB_self h (show p < ns.length by omega)
        rw [if_neg (fun z => z.2 rfl), if_pos rfl, if_pos ⟨hj.2 (.inl ⟨by omega, hs⟩), by omega⟩]; rfl
      · rw [if_neg (show ¬ ((p : Int) = (j : Int)) by omega), Int.add_zero]
        by_cases ha : ancB ns j p = true
        · have := ancB_le h ha
          rw [if_pos ⟨ha, hpj⟩, if_pos ⟨hj.2 (.inl ⟨by omega, ha⟩), by omega⟩]
        · rw [if_neg (fun z => ha z.1), if_neg (fun z => ha ((hj.1 z.1).resolve_right (fun e => z.2 e.symm)).2)]
    · rw [sumX_zero (fun c _ => by rw [if_neg (fun z => h0 z.2.1)]), if_neg (by omega), if_neg (fun z => h0 ((hj.1 z.1).resolve_right (fun e => z.2 e.symm)).1)]; rfl

/-- A subtree weighs what its node and the subtrees of its children weigh. -/
theorem sbX_rec {ns : List NdD} (h : TrOK ns) (f : Nat → Int) {j : Nat} (hj : j < ns.length) : sbX ns f j = f j + sumX (fun c => if upI ns c = (j : Int) then sbX ns f c else 0) ns.length := by
  have e1 : sbX ns f j = sumX (fun x => (if x = j then f j else 0) + (if ancB ns j x = true ∧ x ≠ j then 1 else 0) * f x) ns.length := by
    refine sumX_congr fun x hx => ?_
    by_cases e : x = j
    · subst e; simp [ancB_self h hx]
    · by_cases ha : ancB ns j x = true
      · rw [if_pos ha, if_neg e, if_pos ⟨ha, e⟩]; omega
      · rw [if_neg ha, if_neg e, if_neg (fun z => ha z.1)]; omega
  rw [e1, sumX_add, sumX_one hj (fun k _ hne => by rw [if_neg hne]), if_pos rfl]
  congr 1
  have e2 : sumX (fun x => (if ancB ns j x = true ∧ x ≠ j then (1 : Int) else 0) * f x) ns.length = sumX (fun x => sumX (fun c => (if upI ns c = (j : Int) ∧ ancB ns c x = true then (1 : Int) else 0) * f x) ns.length) ns.length := by
    refine sumX_congr fun x hx => ?_
    rw [sumX_mul, one_child h (x + 1) x (by omega) hx]
  rw [e2, sumX_swap]
  refine sumX_congr fun c _ => ?_
  by_cases hc : upI ns c = (j : Int)
  · rw [if_pos hc]
    refine sumX_congr fun x _ => ?_
    by_cases ha : ancB ns c x = true
    · rw [if_pos ⟨hc, ha⟩, if_pos ha]; omega
    · rw [if_neg (fun z => ha z.2), if_neg ha]; omega
  · rw [if_neg hc]
    exact sumX_zero fun x _ => by rw [if_neg (fun z => hc z.1)]; omega
/-! ### The pass from the end -/

/-- What node j holds when the nodes behind i have been added to their parents. -/
def psX (ns : List NdD) (f : Nat → Int) (i j : Nat) : Int := f j + sumX (fun c => if i < c ∧ upI ns c = (j : Int) then sbX ns f c else 0) ns.length

theorem psX_step {ns : List NdD} (f : Nat → Int) {i j : Nat} (hi : i + 1 < ns.length) : psX ns f i j = psX ns f (i + 1) j + if upI ns (i + 1) = (j : Int) then sbX ns f (i + 1) else 0 := by
  unfold psX
  have e : (if upI ns (i + 1) = (j : Int) then sbX ns f (i + 1) else 0) = sumX (fun c => if c = i + 1 ∧ upI ns c = (j : Int) then sbX ns f c else 0) ns.length := by
    rw [sumX_one hi (fun k _ hne => by rw [if_neg (fun z => hne z.1)])]
    simp
  rw [e, Int.add_assoc, ← sumX_add]
  congr 1
  refine sumX_congr fun c _ => ?_
  by_cases hu : upI ns c = (j : Int)
  · by_cases h1 : c = i + 1
    · subst h1; simp [hu]
    · by_cases h2 : i + 1 < c
      · rw [if_pos ⟨by omega, hu⟩, if_pos ⟨h2, hu⟩, if_neg (fun z => h1 z.1)]; omega
      · rw [if_neg (fun z => by have := z.1; omega), if_neg (fun z => h2 z.1), if_neg (fun z => h1 z.1)]; rfl
  · rw [if_neg (fun z => hu z.2), if_neg (fun z => hu z.2), if_neg (fun z => hu z.2)]; rfl

theorem psX_done {ns : List NdD} (h : TrOK ns) (f : Nat → Int) {i j : Nat} (hij : i ≤ j) (hj : j < ns.length) : psX ns f i j = sbX ns f j := by
  rw [sbX_rec h f hj]
  unfold psX
  congr 1
  refine sumX_congr fun c hc => ?_
  by_cases hu : upI ns c = (j : Int)
  · have := upI_bd h hc
    rw [if_pos ⟨by omega, hu⟩, if_pos hu]
  · rw [if_neg (fun z => hu z.2), if_neg hu]

theorem psX_first {ns : List NdD} (f : Nat → Int) (j : Nat) : psX ns f (ns.length - 1) j = f j := by
  unfold psX
  rw [sumX_zero (fun c hc => by rw [if_neg (fun z => by have := z.1; omega)])]; omega

def psL (ns : List NdD) (dl : List Int) (i : Nat) : List Int := (List.range ns.length).map fun j => IntKind.u64.wrap (psX ns (fun x => dl.getD x 0) i j)

theorem psL_len (ns : List NdD) (dl : List Int) (i : Nat) : (psL ns dl i).length = ns.length := by simp [psL]

theorem psL_get {ns : List NdD} (dl : List Int) (i : Nat) {j : Nat} (hj : j < ns.length) : (psL ns dl i).getD j 0 = IntKind.u64.wrap (psX ns (fun x => dl.getD x 0) i j) := by
  simp [psL, List.getD_eq_getElem?_getD, hj]

theorem ext_getD {l r : List Int} (hl : l.length = r.length) (h : ∀ j, j < l.length → l.getD j 0 = r.getD j 0) : l = r := by
  apply List.ext_getElem hl
  intro j h1 h2
  have := h j h1
  simpa [List.getD_eq_getElem?_getD, h1, h2] using this

theorem psL_first {ns : List NdD} {dl : List Int} (hl : dl.length = ns.length) (hr : ∀ x ∈ dl, 0 ≤ x ∧ x ≤ 18446744073709551615) : psL ns dl (ns.length - 1) = dl := by
  refine ext_getD (by rw [psL_len, hl]) fun j hj => ?_
  rw [psL_len] at hj
  rw [psL_get dl _ hj, psX_first]
  have hjd : j < dl.length := by omega
  have := hr _ (List.getElem_mem hjd)
  have e : dl.getD j 0 = dl[j] := by simp [List.getD_eq_getElem?_getD, hjd]
  rw [e, IntKind.wrap_u64]; omega

theorem psL_step {ns : List NdD} (h : TrOK ns) (dl : List Int) {i p : Nat} (hi : i + 1 < ns.length) (hp : upI ns (i + 1) = p) :
    (psL ns dl (i + 1)).set p (IntKind.u64.wrap ((psL ns dl (i + 1)).getD p 0 + (psL ns dl (i + 1)).getD (i + 1) 0)) = psL ns dl i := by
  have hub := upI_bd h hi
  have hpn : p < ns.length := by omega
  refine ext_getD (by rw [List.length_set, psL_len, psL_len]) fun j hj => ?_
  rw [List.length_set, psL_len] at hj
  rw [psL_get dl i hj, psX_step _ hi, psL_get dl _ hpn, psL_get dl _ hi, psX_done h _ (Nat.le_refl _) hi]
  simp only [List.getD_eq_getElem?_getD, List.getElem?_set, psL_len]
  by_cases e : p = j
  · subst e
    rw [if_pos rfl, if_pos hpn, if_pos hp]
    simp only [Option.getD_some]
    rw [u64_two, u64_two']
  · rw [if_neg e, if_neg (by rw [hp]; omega), Int.add_zero]
    have := psL_get dl (i + 1) hj
    rw [List.getD_eq_getElem?_getD] at this
    exact this

theorem psL_end {ns : List NdD} (h : TrOK ns) (dl : List Int) : psL ns dl 0 = sbtL ns dl ns.length := by
  refine ext_getD (by rw [psL_len, sbtL_len]) fun j hj => ?_
  rw [psL_len] at hj
  rw [psL_get dl 0 hj, sbtL_get ns dl _ hj, psX_done h _ (Nat.zero_le _) hj]
end

/-! WgD -/
section
set_option linter.unusedVariables false
set_option linter.unusedSimpArgs false
open Go.RowKit

set_option maxRecDepth 100000

theorem wp_store_cell1 {P : Program} {op : Oper} {a : Act} {w : World} {K : Act → World → Prop} {Q : Exit → Act → World → Prop} (ty : TypeId) (x y : Operand) (ho : op.op = .store ty x y)
    (b : Nat) (ps : List (List Value)) (k : Nat) (v u : Value) (hB : Blk w b (flatP ps)) (hk : ps[k]? = some [v]) (hx : a.eval x = .pointer (some ⟨b, offP ps k, none⟩)) (hy : a.eval y = u)
    (hi : (P.info? ty).map (·.size) = some 1) (hu : u.cells = #[u]) (h1 : u.oneCell' = true)
    (h : ∀ w', Upd b w w' → Blk w' b (flatP (ps.set k [u])) → K (a.put op.dst undef) w') : op.wp P a w K Q := by
  have hth := hB.partThere hk
  obtain ⟨g1, g2⟩ := hB.setPart (q := [u]) hk rfl
  have hr := run_storeCells_cells (P := P) b (offP ps k) [u] 0 w (fun j hj => by simpa using (hth j (by simpa using hj)).1) (fun j hj => by simpa using (hth j (by simpa using hj)).2) (fun z hz => by rw [List.mem_singleton.1 hz]; exact h1)
  unfold Oper.wp execOp
  cases hq : P.info? ty with
  | none => simp [hq] at hi
  | some i =>
    have hs : i.size = 1 := by simpa [hq] using hi
    simp only [Nat.add_zero] at hr
    have hsv : (storeVar ty ⟨b, offP ps k, none⟩ u).run P w = .ok () (w.setCells b (offP ps k) [u]) := by
      simp [storeVar, sizeOf, typeInfo, hq, hu, hs, hr]
    simp only [ho, hx, hy, Instr.storeAt, Instr.sureAddr, Sem.run_bind, Sem.run_pure, Result.andThen_ok, hsv]
    exact h _ g1 g2

/-- A number is stored into a row of the call's own. -/
theorem wp_store_num {P : Program} {op : Oper} {a : Act} {w : World} {K : Act → World → Prop} {Q : Exit → Act → World → Prop} (ty : TypeId) (x y : Operand) (ho : op.op = .store ty x y)
    (g i : Nat) (k : IntKind) (xs : List Int) (n : Int) (hB : RowB w g (numL k xs)) (hk : i < xs.length) (hx : a.eval x = .pointer (some ⟨g, i, none⟩)) (hy : a.eval y = .int k n) (hi : (P.info? ty).map (·.size) = some 1)
    (h : ∀ w', Upd g w w' → RowB w' g (numL k (xs.set i n)) → K (a.put op.dst undef) w') : op.wp P a w K Q := by
  obtain ⟨sp, hB⟩ := hB
  have hl : i < (numL k xs).length := by rw [numL_len]; exact hk
  refine wp_store_cell1 ty x y ho g (numL k xs ++ [sp]) i (.int k (xs.getD i 0)) (.int k n) hB (by rw [List.getElem?_append_left hl]; simp [numL, List.getD, List.getElem?_eq_getElem hk]) (by rw [offP_row (numL_sz k xs) sp hl, Nat.mul_one]; exact hx) hy hi rfl rfl ?_
  intro w' U B
  refine h w' U ⟨sp, ?_⟩
  rw [List.set_append_left _ _ hl] at B
  rw [show numL k (xs.set i n) = (numL k xs).set i [.int k n] from by simp [numL, List.map_set]]
  exact B
/-! ### Total -/

theorem totK_rng (es bs : List Int) : ∀ k, 0 ≤ totK es bs k ∧ totK es bs k ≤ 18446744073709551615
  | 0 => by show 0 ≤ (0 : Int) ∧ (0 : Int) ≤ _; omega
  | k + 1 => by
    by_cases h : (k : Int) ∈ es
    · rw [totK_yes (decide_eq_true h)]; exact totK_rng es bs k
    · rw [totK_no (decide_eq_false h)]
      have := IntKind.wrap_u64 (totK es bs k + bs.getD k 0)
      omega

theorem tot_step (es bs : List Int) {k : Nat} (hk : k < bs.length) : IntKind.u64.wrap (totK es bs k + (honL es bs).getD k 0) = totK es bs (k + 1) := by
  have hr := totK_rng es bs k
  rw [honL_get es bs hk]
  by_cases h : (k : Int) ∈ es
  · rw [if_pos h, totK_yes (decide_eq_true h), Int.add_zero, IntKind.wrap_u64]; omega
  · rw [if_neg h, totK_no (decide_eq_false h)]
/-! ### Subtree -/

theorem psL_stepJ {ns : List NdD} (h : TrOK ns) (dl : List Int) {j p : Nat} (h0 : 0 < j) (hj : j < ns.length) (hp : upI ns j = p) :
    (psL ns dl j).set p (IntKind.u64.wrap ((psL ns dl j).getD p 0 + (psL ns dl j).getD j 0)) = psL ns dl (j - 1) := by
  obtain ⟨i, rfl⟩ : ∃ i, j = i + 1 := ⟨j - 1, by omega⟩
  exact psL_step h dl hj hp

/-- The tree's box, and the row. -/
structure SuS (w : World) (T : Array Value) (g : Nat) (l : List Int) (u : World) : Prop where
  p : PaS w T u
  r : RowB u g (numL .u64 l)
  gt : w.heap.size < g

theorem SuS.call {w u u' : World} {T : Array Value} {g : Nat} {l : List Int} (h : SuS w T g l u) (hb : Below u.heap.size u u') : SuS w T g l u' := ⟨h.p.call hb, h.r.call hb, h.gt⟩

theorem SuS.upd {w u u' : World} {T : Array Value} {g : Nat} {l l' : List Int} (h : SuS w T g l u) (U : Upd g u u') (hr : RowB u' g (numL .u64 l')) : SuS w T g l' u' :=
  ⟨⟨U.blk h.p.t (by have := h.gt; omega), U.below h.p.b (by have := h.gt; omega)⟩, hr, h.gt⟩

theorem copy_src1 {w w1 : World} (hb : Below w.heap.size w w1) {dl : List Int} {da : Option Addr} (h : dl.length = 0 ∨ ∃ b off, da = some ⟨b, off, none⟩ ∧ b < w.heap.size ∧ ∀ i, i < dl.length → w.cell? ⟨b, off + i, none⟩ = some (.int .u64 (dl.getD i 0)))
    {X : List Value} (hX : ∀ j u, X[j]? = some u → ∃ hj : j < dl.length, u = .int .u64 (dl.getD j 0)) (h0 : 0 < dl.length) : ∃ ad, da = some ad ∧ ∀ j v, X[j]? = some v → w1.cell? (ad.add j) = some v := by
  rcases h with h | ⟨b, off, rfl, h2, h3⟩
  · omega
  · refine ⟨_, rfl, fun j v hj => ?_⟩
    obtain ⟨hl, rfl⟩ := hX j v hj
    rw [Go.WideShapes.add_plain]
    exact (hb.cell (p := ⟨b, off + j, none⟩) h2).trans (h3 j hl)

theorem splice_row {w2 : World} {g n : Nat} {sp : List Value} {t : TypeId} {dl : List Int} {X : List Value} (hX : dl.map (Value.int .u64) = X) (hl : dl.length = n)
    (h : w2.heap[g]? = some (.cells (splice (flatP (numL .u64 (List.replicate n 0) ++ [sp])).toList 0 X).toArray t (0, 0))) : RowB w2 g (numL .u64 dl) := by
  refine ⟨sp, t, ?_⟩
  rw [h]
  have e : splice (flatP (numL .u64 (List.replicate n 0) ++ [sp])).toList 0 X = dl.map (Value.int .u64) ++ sp := by
    unfold splice flatP
    rw [← hX, List.flatten_append, numL_flat]
    simp [hl]
  rw [e]
  unfold flatP
  rw [List.flatten_append, numL_flat]
  simp

set_option maxHeartbeats 8000000 in
theorem csubtree_any (ns : List NdD) (hok : TrOK ns) (hlen : ns.length ≤ 100000) (dl : List Int) (v dv : Value) (w : World) (hN : NodesV w v ns) (hD : NumsV w dv dl) (hdl : dl.length = ns.length) :
    Calls Try.prog 18 #[.agg #[v], dv] w fun e w' => ∃ v', e = .returned v' ∧ HoR (w.heap.size + 1) v' (sbtL ns dl ns.length) w' ∧ Below w.heap.size w w' := by
  obtain ⟨a, cap, rfl, hmx⟩ := hN.shape
  unfold maxLen at hmx
  have HN := Lib.hid hN
  have HPOS := Lib.hid hok.pos
  have HSTEP := Lib.hid (fun (j p : Nat) (hj : 0 < j) (hi : j < ns.length) (hp : upI ns j = p) => psL_stepJ hok dl hj hi hp)
  have HUB := Lib.hid (fun (i : Nat) (hi : i < ns.length) => upI_bd hok hi)
  have HUP1 := Lib.hid (fun (i : Nat) (hi : i < ns.length) (h0 : 0 < i) => hok.up i hi h0)
  have HEND := Lib.hid (psL_end hok dl)
  have HPL := Lib.hid (fun (i : Nat) => psL_len ns dl i)
  have HSBL := Lib.hid (sbtL_len ns dl ns.length)
  have HFIR := Lib.hid (psL_first hdl hD.2)
  obtain ⟨⟨da, dn, dc, rfl, hdn, hdm, hdr⟩, hdg⟩ := hD
  have HDN : Hid (dn = dl.length) := hdn.symm
  have HDR : Hid (dl.length = 0 ∨ ∃ b off, da = some ⟨b, off, none⟩ ∧ b < w.heap.size ∧ ∀ i, i < dl.length → w.cell? ⟨b, off + i, none⟩ = some (.int .u64 (dl.getD i 0))) := by
    show _ ∨ _
    rcases hdr with h | ⟨b, off, h1, h2, h3⟩
    · exact .inl (by omega)
    · exact .inr ⟨b, off, h1, h2, fun i hi => h3 i (by omega)⟩
  have hi1 : (Try.prog.info? 43).map (·.size) = some 1 := by kernel_rfl
  have hiu : (Try.prog.info? 22).map (·.size) = some 1 := by kernel_rfl
  obtain ⟨m, hm⟩ : ∃ m, Hid (ns.length = m) := ⟨_, Lib.hid rfl⟩
  have HDL : Hid (dl.length = m) := by show _ = _; rw [hdl, hm.out]
  rw [hm.out] at hmx HN hlen HPOS HEND HSBL HFIR ⊢
  have hm0 : 0 < m := HPOS.out
  obtain rfl : m = dn := by rw [HDN.out, HDL.out]
  have S0 := Lib.hid (pas_new w #[.slice a m cap] 43)
  have HC0 := Lib.hid (S0.out.t.cell 0)
  have HLA : Hid ((w.alloc (.cells #[.slice a m cap] 43)).heap.size = w.heap.size + 1) := by show _ = _; simp
  clear hN hok hdl hdn hdm hdr hdg
  obtain ⟨X1, hX1⟩ : ∃ X1, Hid (dl.map (Value.int .u64) = X1) := ⟨_, Lib.hid rfl⟩
  have HXL : Hid (X1.length = m) := by show _ = _; rw [← hX1.out, List.length_map, HDL.out]
  have HXO : Hid (∀ u ∈ X1, u.oneCell' = true) := by show ∀ u ∈ X1, _; rw [← hX1.out]; exact oneNw dl
  have HXG : Hid (∀ j u, X1[j]? = some u → ∃ hj : j < dl.length, u = .int .u64 (dl.getD j 0)) := by
    intro j u hj
    rw [← hX1.out] at hj
    have hjl : j < dl.length := by simpa using (List.getElem?_eq_some_iff.1 hj).1
    refine ⟨hjl, ?_⟩
    rw [List.getElem?_map, List.getElem?_eq_getElem hjl] at hj
    simp only [Option.map_some, Option.some.injEq] at hj
    rw [← hj]; simp [List.getD, List.getElem?_eq_getElem hjl]
  go_enter Try.func18, Try.ntmps18
  go_upto_region 2 with (first
    | ((with_reducible refine at_load (.tmp 7) ?_); refine wpList_load_1 41 (.tmp 7) rfl w.heap.size 0 (.slice a m cap) HC0.out rfl _ Try.underlying41 rfl rfl ?_)
    | ((with_reducible refine at_makeEl (.tmp 9) ?_); refine wpList_makeU rfl (.tmp 9) rfl .i64 m rfl (by omega) ?_; intro w1 hb1 hr1; have S1 := Lib.hid (S0.out.call hb1); have R1 := Lib.hid hr1; rw [HLA.out] at R1 ⊢; clear hb1 hr1))
  obtain ⟨sp, eT, hblk⟩ := R1.out
  have HBK := Lib.hid hblk
  obtain ⟨Z, hZ⟩ : ∃ Z, Hid ((flatP (numL .u64 (List.replicate m 0) ++ [sp])).toList = Z) := ⟨_, Lib.hid rfl⟩
  have HZ1 : Hid (w1.heap[w.heap.size + 1]? = some (.cells Z.toArray eT (0, 0))) := by show _ = _; rw [← hZ.out, Array.toArray_toList]; exact hblk
  have HSRC := Lib.hid (copy_src1 S1.out.b HDR.out HXG.out (by rw [HDL.out]; exact hm0))
  have HFIT : Hid (0 + X1.length ≤ Z.length) := by show _ ≤ _; rw [HXL.out, ← hZ.out]; unfold flatP; rw [List.flatten_append, numL_flat]; simp
  have HMIN : Hid (X1.length = Nat.min m m) := by show _ = _; rw [HXL.out]; exact (Nat.min_self m).symm
  clear hblk
  go_wp2_with (first
    | (with_reducible refine wpList_copy_splice rfl (.tmp 11) (.tmp 12) 29 29 rfl 22 Try.underlying29 hiu (some ⟨w.heap.size + 1, 0, none⟩) da m m m dc rfl rfl (w.heap.size + 1) 0 Z eT HZ1.out X1 HMIN.out (fun _ => ⟨rfl, HSRC.out⟩) HFIT.out HXO.out (w.heap.size + 1) w1 (Below.refl _ _) (Nat.le_refl _) ?_; intro w2 hg2 hb2; have S2 := Lib.hid (SuS.mk (w := w) (T := #[.slice a m cap]) (g := w.heap.size + 1) (l := psL ns dl (m - 1)) (PaS.mk (Blk.below hb2 (by omega) S1.out.t) (S1.out.b.trans (hb2.mono (by omega)))) (by rw [HFIR.out]; exact splice_row (sp := sp) (t := eT) hX1.out HDL.out (by rw [hZ.out]; exact hg2.out)) (by omega)); clear hg2 hb2))
  clear S1 R1 HBK HZ1 HSRC HFIT HMIN hZ hX1 HXL HXO HXG HFIR HDR HC0
  obtain ⟨g, hg⟩ : ∃ g, w.heap.size + 1 = g := ⟨_, rfl⟩
  have hgw : w.heap.size + 1 ≤ g := by omega
  rw [hg] at S2 ⊢
  clear hg
  go_loopw [6] (fun iv wr => ∃ j : Nat, j < m ∧ iv = .int .i64 j ∧ SuS w #[.slice a m cap] g (psL ns dl j) wr) (fun iv _ => (intOf iv).toNat)
  case atStart => exact ⟨m - 1, by omega, by go_num, S2.out⟩
  case round =>
    obtain ⟨j, hj, rfl, hs⟩ := hrel
    have S3 := Lib.hid hs
    clear hs S2
    by_cases h0 : 0 < j
    case neg =>
      obtain rfl : j = 0 := by omega
      go_wp2_with fail
      go_ret
      have HRR : RowB wr g (numL .u64 (sbtL ns dl m)) := by rw [← HEND.out]; exact S3.out.r
      exact ⟨_, rfl, ⟨by have := S3.out.r.lt; omega, by rw [HSBL.out]; omega, .inr ⟨g, m, by rw [HSBL.out]; rfl, hgw, HRR⟩⟩, S3.out.p.b⟩
    have h0' : (0 : Int) < (j : Int) := by omega
    have hjn : j < ns.length := by rw [hm.out]; exact hj
    obtain ⟨p, hpl, hpj, hup, _⟩ := HUP1.out j hjn h0
    have HST := Lib.hid (HSTEP.out j p h0 hjn (by rw [upI_at hjn]; exact hup))
    have hpm : p < m := by omega
    have hpm' : (p : Int) < m := by omega
    have hjm' : (j : Int) < m := by omega
    obtain ⟨b, off, rfl, hlm, hbb, hna, hdk⟩ := HN.out.elem hjn
    have HUP := Lib.hid hna.up
    rw [hup] at HUP
    obtain ⟨x, hx⟩ : ∃ x, (psL ns dl j).getD p 0 = x := ⟨_, rfl⟩
    obtain ⟨y, hy⟩ : ∃ y, (psL ns dl j).getD j 0 = y := ⟨_, rfl⟩
    have HRX : Hid (∀ u, SuS w #[.slice (some ⟨b, off, none⟩) m cap] g (psL ns dl j) u → u.cell? ⟨g, p, none⟩ = some (.int .u64 x)) := fun u hu => by rw [← hx]; exact hu.r.num (by rw [HPL.out, hm.out]; exact hpm)
    have HRY : Hid (∀ u, SuS w #[.slice (some ⟨b, off, none⟩) m cap] g (psL ns dl j) u → u.cell? ⟨g, j, none⟩ = some (.int .u64 y)) := fun u hu => by rw [← hy]; exact hu.r.num (by rw [HPL.out, hm.out]; exact hj)
    rw [hx, hy] at HST
    obtain ⟨z, hz⟩ : ∃ z, Hid (IntKind.u64.wrap (x + y) = z) := ⟨_, Lib.hid rfl⟩
    have HZ := hz
    rw [hz.out] at HST
    clear hlm hna hdk hup hx hy hz
    go_wp2_with fail
    obtain ⟨x4, hx4⟩ : ∃ x, wr.drew = x := ⟨_, rfl⟩
    have hbd : Below wr.heap.size wr x4 := by rw [← hx4]; exact below_drew wr
    have SD := Lib.hid (S3.out.call hbd)
    clear S3
    refine wp_region_k (S := fun u' => SuS w #[.slice (some ⟨b, off, none⟩) m cap] g (psL ns dl j) u') (k := 15) (by kernel_rfl) ?_
    rw [hx4]
    clear hx4 hbd
    (try simp only [Act.put, List.setIfInBounds_toArray, List.set_cons_zero, List.set_cons_succ])
    refine wpAnyK_take (i := 0) (oi := ⟨some 21, _, _, _, _, _⟩) (v := .slice (some ⟨g, 0, none⟩) m m) [0] rfl (by kernel_rfl) (by kernel_rfl) (by kernel_rfl) (by kernel_rfl) (fun _ _ _ h => h) (Or.inl ⟨by rfl, fun wz hz => ?_⟩) SD.out ?_
    · clear hz; go_simp; first | done | with_reducible rfl | rfl
    (try simp only [Act.put, List.setIfInBounds_toArray, List.set_cons_zero, List.set_cons_succ])
    refine wpAnyK_take (i := 1) (oi := ⟨some 22, _, _, _, _, _⟩) (v := .pointer (some ⟨w.heap.size, 0, none⟩)) [1] rfl (by kernel_rfl) (by kernel_rfl) (by kernel_rfl) (by kernel_rfl) (fun _ _ _ h => h) (Or.inl ⟨by rfl, fun wz hz => ?_⟩) SD.out ?_
    · clear hz; go_simp; first | done | with_reducible rfl | rfl
    (try simp only [Act.put, List.setIfInBounds_toArray, List.set_cons_zero, List.set_cons_succ])
    refine k_load1 (oi := ⟨some 23, _, _, _, _, _⟩) 2 [2] rfl (by kernel_rfl) (by kernel_rfl) (by kernel_rfl) (by kernel_rfl) (fun _ _ _ _ h => h) rfl 41 (.tmp 22) rfl w.heap.size (0) (by first | rfl | simp [Act.eval, Act.put]) (.slice (some ⟨b, off, none⟩) m cap) _ (fun u' hu => hu.p.t.cell 0) Try.underlying41 rfl SD.out ?_
    (try simp only [Act.put, List.setIfInBounds_toArray, List.set_cons_zero, List.set_cons_succ])
    refine wpAnyK_take (i := 3) (oi := ⟨some 24, _, _, _, _, _⟩) (v := .int .i64 j) [3] rfl (by kernel_rfl) (by kernel_rfl) (by kernel_rfl) (by kernel_rfl) (fun _ _ _ h => h) (Or.inl ⟨by rfl, fun wz hz => ?_⟩) SD.out ?_
    · clear hz; go_simp; first | done | with_reducible rfl | rfl
    (try simp only [Act.put, List.setIfInBounds_toArray, List.set_cons_zero, List.set_cons_succ])
    refine wpAnyK_take (i := 4) (oi := ⟨some 25, _, _, _, _, _⟩) (v := .pointer (some ⟨b, off + j * 240, none⟩)) [4] rfl (by kernel_rfl) (by kernel_rfl) (by kernel_rfl) (by kernel_rfl) (fun _ _ _ h => h) (Or.inl ⟨by rfl, fun wz hz => ?_⟩) SD.out ?_
    · clear hz; go_simp; first | done | with_reducible rfl | rfl
    (try simp only [Act.put, List.setIfInBounds_toArray, List.set_cons_zero, List.set_cons_succ])
    refine wpAnyK_take (i := 5) (oi := ⟨some 26, _, _, _, _, _⟩) (v := .pointer (some ⟨b, off + j * 240 + 238, none⟩)) [5] rfl (by kernel_rfl) (by kernel_rfl) (by kernel_rfl) (by kernel_rfl) (fun _ _ _ h => h) (Or.inl ⟨by rfl, fun wz hz => ?_⟩) SD.out ?_
    · clear hz; go_simp; first | done | with_reducible rfl | rfl
    (try simp only [Act.put, List.setIfInBounds_toArray, List.set_cons_zero, List.set_cons_succ])
    refine k_load1 (oi := ⟨some 27, _, _, _, _, _⟩) 6 [6] rfl (by kernel_rfl) (by kernel_rfl) (by kernel_rfl) (by kernel_rfl) (fun _ _ _ _ h => h) rfl 3 (.tmp 26) rfl b (off + j * 240 + 238) (by first | rfl | simp [Act.eval, Act.put]) (.int .i64 (p : Int)) _ (fun u' hu => (hu.p.b.cell (p := ⟨b, off + j * 240 + 238, none⟩) hbb).trans HUP.out) Try.underlying3 rfl SD.out ?_
    (try simp only [Act.put, List.setIfInBounds_toArray, List.set_cons_zero, List.set_cons_succ])
    refine wpAnyK_take (i := 7) (oi := ⟨some 28, _, _, _, _, _⟩) (v := .pointer (some ⟨g, p, none⟩)) [7] rfl (by kernel_rfl) (by kernel_rfl) (by kernel_rfl) (by kernel_rfl) (fun _ _ _ h => h) (Or.inl ⟨by rfl, fun wz hz => ?_⟩) SD.out ?_
    · clear hz; go_simp; first | done | with_reducible rfl | rfl
    (try simp only [Act.put, List.setIfInBounds_toArray, List.set_cons_zero, List.set_cons_succ])
    refine k_load1 (oi := ⟨some 29, _, _, _, _, _⟩) 8 [8] rfl (by kernel_rfl) (by kernel_rfl) (by kernel_rfl) (by kernel_rfl) (fun _ _ _ _ h => h) rfl 22 (.tmp 28) rfl g (p) (by first | rfl | simp [Act.eval, Act.put]) (.int .u64 x) _ (fun u' hu => HRX.out u' hu) Try.underlying22 rfl SD.out ?_
    (try simp only [Act.put, List.setIfInBounds_toArray, List.set_cons_zero, List.set_cons_succ])
    refine wpAnyK_take (i := 9) (oi := ⟨some 30, _, _, _, _, _⟩) (v := .slice (some ⟨g, 0, none⟩) m m) [9] rfl (by kernel_rfl) (by kernel_rfl) (by kernel_rfl) (by kernel_rfl) (fun _ _ _ h => h) (Or.inl ⟨by rfl, fun wz hz => ?_⟩) SD.out ?_
    · clear hz; go_simp; first | done | with_reducible rfl | rfl
    (try simp only [Act.put, List.setIfInBounds_toArray, List.set_cons_zero, List.set_cons_succ])
    refine wpAnyK_take (i := 10) (oi := ⟨some 31, _, _, _, _, _⟩) (v := .int .i64 j) [10] rfl (by kernel_rfl) (by kernel_rfl) (by kernel_rfl) (by kernel_rfl) (fun _ _ _ h => h) (Or.inl ⟨by rfl, fun wz hz => ?_⟩) SD.out ?_
    · clear hz; go_simp; first | done | with_reducible rfl | rfl
    (try simp only [Act.put, List.setIfInBounds_toArray, List.set_cons_zero, List.set_cons_succ])
    refine wpAnyK_take (i := 11) (oi := ⟨some 32, _, _, _, _, _⟩) (v := .pointer (some ⟨g, j, none⟩)) [11] rfl (by kernel_rfl) (by kernel_rfl) (by kernel_rfl) (by kernel_rfl) (fun _ _ _ h => h) (Or.inl ⟨by rfl, fun wz hz => ?_⟩) SD.out ?_
    · clear hz; go_simp; first | done | with_reducible rfl | rfl
    (try simp only [Act.put, List.setIfInBounds_toArray, List.set_cons_zero, List.set_cons_succ])
    refine k_load1 (oi := ⟨some 33, _, _, _, _, _⟩) 12 [12] rfl (by kernel_rfl) (by kernel_rfl) (by kernel_rfl) (by kernel_rfl) (fun _ _ _ _ h => h) rfl 22 (.tmp 32) rfl g (j) (by first | rfl | simp [Act.eval, Act.put]) (.int .u64 y) _ (fun u' hu => HRY.out u' hu) Try.underlying22 rfl SD.out ?_
    (try simp only [Act.put, List.setIfInBounds_toArray, List.set_cons_zero, List.set_cons_succ])
    refine wpAnyK_take (i := 13) (oi := ⟨some 34, _, _, _, _, _⟩) (v := .int .u64 z) [13] rfl (by kernel_rfl) (by kernel_rfl) (by kernel_rfl) (by kernel_rfl) (fun _ _ _ h => h) (Or.inl ⟨by rfl, fun wz hz => ?_⟩) SD.out ?_
    · clear hz; rw [← HZ.out]; go_simp; first | done | with_reducible rfl | rfl
    (try simp only [Act.put, List.setIfInBounds_toArray, List.set_cons_zero, List.set_cons_succ])
    refine wpAnyK_take (i := 14) (oi := ⟨some 35, _, _, _, _, _⟩) (v := .pointer (some ⟨g, p, none⟩)) [14] rfl (by kernel_rfl) (by kernel_rfl) (by kernel_rfl) (by kernel_rfl) (fun _ _ _ h => h) (Or.inl ⟨by rfl, fun wz hz => ?_⟩) SD.out ?_
    · clear hz; go_simp; first | done | with_reducible rfl | rfl
    (try simp only [Act.put, List.setIfInBounds_toArray, List.set_cons_zero, List.set_cons_succ])
    refine wpAnyK_last (o := ⟨none, _, _, _, _, _⟩) (i := 15) (by kernel_rfl) rfl (by kernel_rfl) (fun K hK => ?_)
    rw [if_pos (by rfl)]
    refine wp_store_num 22 (.tmp 35) (.tmp 34) rfl g p .u64 (psL ns dl j) z SD.out.r (by rw [HPL.out, hm.out]; omega) (by first | rfl | simp [Act.eval, Act.put]) rfl hiu ?_
    intro w4 U4 B4
    rw [HST.out] at B4
    have S4 := Lib.hid (SD.out.upd U4 B4)
    refine hK.out _ _ ?_
    clear hK K U4 B4
    (try simp only [Act.put, List.setIfInBounds_toArray, List.set_cons_zero, List.set_cons_succ])
    refine wpAnyK_done (by kernel_rfl) ?_ _
    clear SD
    go_wp2_with fail
    go_roundw
    case rel => exact ⟨j - 1, by omega, by go_num, S4.out⟩
    case measure => simp [intOf]; omega
end

end Go.Proofs.Ytidimiioglgliaa
