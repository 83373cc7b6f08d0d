/- Several texts as one: Rm, BtV, BtW, SuD, TrC. -/
import Derived.Test.YtdmjpmigejpkmaaLt
import Derived.Maps.RangeWalk
import Derived.Maps.OwnOps
import Derived.WideKeyEntry
import Derived.Carry
import Derived.Test.YtdmjpmigejpkmaaZ3
import Derived.Test.YtdmjpmigejpkmaaZ5
import Derived.Test.YtdmjpmigejpkmaaZ2
import Derived.Test.YtdmjpmigejpkmaaRt
namespace Go.Proofs.Ytdmjpmigejpkmaa

/-! Rm -/
section
set_option linter.unusedVariables false
set_option linter.unusedSimpArgs false
namespace RM
open Go.RowKit Go.Maps

set_option maxRecDepth 100000

/-- A root, as a key. -/
structure RtD where
  r : List Int

def RtD.ok (c : RtD) : Prop := IsBytes 32 c.r

def RtD.cells (c : RtD) : List Value := bytesL c.r

theorem RtD.len {c : RtD} (h : c.ok) : c.cells.length = 32 := bytesL_len h

theorem RtD.inj {c d : RtD} (h : c.cells = d.cells) : c = d := by
  cases c; cases d
  cases bytesL_inj h
  rfl
instance : DecidableEq RtD := fun a b => decidable_of_iff (a.r = b.r) (by cases a; cases b; simp)

theorem keyLits_cp {d : Nat} {c : RtD} (h : c.ok) : ∃ ls, Try.prog.keyLits (d + 3) 31 c.cells = some ls := keyLits_bytes (d := d + 1) Try.underlying31 (by kernel_rfl) h

/-- A map's element, read as itself. -/
def Rv (v : Value) : Option (DataW Value × List MemPlace) := some (.held v, [])

def cpX (c : RtD) : Value := .agg c.cells.toArray

theorem laid_out : laidOutB Try.prog = true := by kernel_rfl

theorem lawC : Keyed Try.prog 31 := Keyed.of_law (deep_law_laid laid_out (m := 3) (by omega) (of_decide_eq_true (by kernel_rfl)) (by kernel_rfl) (by kernel_rfl))
noncomputable def kl (c : RtD) : Lit := (keyOf Try.prog 31 (cpX c)).getD (.bool false)

theorem keyOf_cp {c : RtD} (h : c.ok) : keyOf Try.prog 31 (cpX c) = some (kl c) := by
  have hf : (cpX c).formed Try.prog 31 = true := by simp [cpX, Value.formed, Try.underlying31, RtD.len h]; kernel_rfl
  have hk : Try.prog.keyType 31 = true := by kernel_rfl
  have hs : ∃ d, Try.prog.types.size + 1 = d + 3 := ⟨Try.prog.types.size - 2, by have : 2 ≤ Try.prog.types.size := of_decide_eq_true (by kernel_rfl); omega⟩
  obtain ⟨d, hd⟩ := hs
  obtain ⟨ls, hls⟩ := keyLits_cp (d := d) h
  have hc : (cpX c).cells.toList = c.cells := by simp [cpX, Value.cells]
  have : ∃ l, keyOf Try.prog 31 (cpX c) = some l := by
    unfold keyOf
    simp only [Try.underlying31, hk, hf, Bool.and_self, if_true, hc, hd, hls]
    exact ⟨_, rfl⟩
  obtain ⟨l, hl⟩ := this
  simp [kl, hl]

theorem kl_inj {c d : RtD} (hc : c.ok) (hd : d.ok) (h : kl c = kl d) : c = d := by
  have h1 := keyOf_cp hc
  rw [h] at h1
  have := lawC.inj h1 (keyOf_cp hd)
  simp only [cpX, Value.agg.injEq] at this
  exact RtD.inj (by simpa using this)
abbrev Ents := List (RtD × Value)
noncomputable def encE (p : RtD × Value) : Lit × DataW Value := (kl p.1, .held p.2)
noncomputable def dms (L : Ents) : List (Lit × DataW Value) := (L.map encE).foldr DataW.insert []

/-- Entries of a map: no key twice. -/
structure EntsOK (L : Ents) : Prop where
  nodup : (L.map Prod.fst).Nodup
  ok : ∀ p ∈ L, p.1.ok

theorem EntsOK.nil : EntsOK [] := ⟨by simp, by simp⟩

theorem EntsOK.perm {L M : Ents} (h : EntsOK L) (hp : L.Perm M) : EntsOK M := ⟨(hp.map _).nodup_iff.1 h.nodup, fun p hm => h.ok p (hp.mem_iff.2 hm)⟩

theorem EntsOK.cons {L : Ents} (h : EntsOK L) {c : RtD} {v : Value} (hc : c.ok) (hn : c ∉ L.map Prod.fst) : EntsOK ((c, v) :: L) :=
  ⟨by rw [List.map_cons, List.nodup_cons]; exact ⟨hn, h.nodup⟩, fun p hp => by rcases List.mem_cons.1 hp with rfl | hp; exact hc; exact h.ok p hp⟩

theorem EntsOK.sub {L M : Ents} (h : EntsOK L) (hs : M.Sublist L) : EntsOK M := ⟨h.nodup.sublist (hs.map _), fun p hp => h.ok p (hs.subset hp)⟩

theorem EntsOK.uniq {L : Ents} (h : EntsOK L) {p q : RtD × Value} (hp : p ∈ L) (hq : q ∈ L) (e : p.1 = q.1) : p = q := by
  have := h.nodup
  clear h
  induction L with
  | nil => cases hp
  | cons x r ih =>
    rw [List.map_cons, List.nodup_cons] at this
    rcases List.mem_cons.1 hp with rfl | hp
    · rcases List.mem_cons.1 hq with rfl | hq
      · rfl
      · exact absurd (List.mem_map.2 ⟨q, hq, e.symm⟩) this.1
    · rcases List.mem_cons.1 hq with e2 | hq
      · rw [e2] at e; exact absurd (List.mem_map.2 ⟨p, hp, e⟩) this.1
      · exact ih hp hq this.2

theorem enc_keys {L : Ents} (h : EntsOK L) : Maps.Keys (KeysOf Try.prog 31) (L.map encE) := by
  intro p hp
  obtain ⟨x, hx, rfl⟩ := List.mem_map.1 hp
  exact ⟨cpX x.1, keyOf_cp (h.ok x hx)⟩

theorem enc_apart {L : Ents} (h : EntsOK L) : (L.map encE).Pairwise (fun p q => p.1 ≠ q.1) := by
  rw [List.pairwise_map]
  have h1 : L.Pairwise (fun p q => p.1 ≠ q.1) := by have := h.nodup; rwa [List.Nodup, List.pairwise_map] at this
  refine (List.Pairwise.and_mem.1 h1).imp fun {p q} hpq e => hpq.2.2 (kl_inj (h.ok p hpq.1) (h.ok q hpq.2.1) e)

theorem dms_sorted {L : Ents} (h : EntsOK L) : (dms L).Pairwise (fun p q => p.1.before q.1 = true) := Maps.sorted_sorted lawC.one _ (enc_keys h) (enc_apart h)

theorem dms_perm {L M : Ents} (h : EntsOK L) (hp : L.Perm M) : dms L = dms M :=
  ChangeMaps.eq_of_perm_sorted ((WideShapes.sorted_perm _).trans ((hp.map _).trans (WideShapes.sorted_perm _).symm)) (dms_sorted h) (dms_sorted (h.perm hp))

theorem dms_len (L : Ents) : (dms L).length = L.length := by simp [dms, length_sorted]

theorem notKey_enc {L : Ents} (h : EntsOK L) {c : RtD} (hc : c.ok) {p : RtD × Value} (hp : p ∈ L) : ChangeMaps.notKey (kl c) (encE p) = decide (p.1 ≠ c) := by
  rw [Bool.eq_iff_iff, Maps.notKey_iff (lawC.key (keyOf_cp hc)), decide_eq_true_iff]
  exact ⟨fun hne e => hne (by rw [← e]; rfl), fun hne e => hne (kl_inj (h.ok p hp) hc e)⟩

theorem dms_put {L : Ents} (h : EntsOK L) {c : RtD} (v : Value) (hc : c.ok) (hn : c ∉ L.map Prod.fst) : ChangeMaps.putKey (kl c) (.held v) (dms L) = dms ((c, v) :: L) := by
  refine (Maps.sorted_put lawC.one (k := kl c) (d := .held v) (E := L.map encE) (E' := (kl c, .held v) :: L.map encE) ⟨cpX c, keyOf_cp hc⟩ (enc_keys h) (enc_apart h) ?_).symm
  have : (L.map encE).filter (ChangeMaps.notKey (kl c)) = L.map encE := by
    rw [List.filter_eq_self]
    intro q hq
    obtain ⟨p, hp, rfl⟩ := List.mem_map.1 hq
    rw [notKey_enc h hc hp, decide_eq_true_iff]
    exact fun e => hn (List.mem_map.2 ⟨p, hp, e⟩)
  rw [this]

theorem dms_del {L : Ents} (h : EntsOK L) {c : RtD} (hc : c.ok) : ChangeMaps.delKey (kl c) (dms L) = dms (L.filter fun p => decide (p.1 ≠ c)) := by
  refine (Maps.sorted_del lawC.one (k := kl c) (E := L.map encE) (E' := (L.filter fun p => decide (p.1 ≠ c)).map encE) (enc_keys h) (enc_apart h) ?_).symm
  rw [List.filter_map]
  refine List.Perm.of_eq (congrArg _ (List.filter_congr fun p hp => ?_))
  exact (notKey_enc h hc hp).symm

/-- The entry at a key. -/
def mget : Ents → RtD → Option Value
  | [], _ => none
  | (d, v) :: r, c => if d = c then some v else mget r c

theorem mget_none {L : Ents} {c : RtD} : mget L c = none ↔ c ∉ L.map Prod.fst := by
  induction L with
  | nil => simp [mget]
  | cons x r ih =>
    obtain ⟨d, v⟩ := x
    unfold mget
    by_cases e : d = c
    · simp [e]
    · rw [if_neg e, ih]; simp [Ne.symm e]

theorem mget_mem {L : Ents} {c : RtD} {v : Value} (h : mget L c = some v) : (c, v) ∈ L := by
  induction L with
  | nil => cases h
  | cons x r ih =>
    obtain ⟨d, u⟩ := x
    unfold mget at h
    by_cases e : d = c
    · rw [if_pos e] at h; cases h; subst e; simp
    · rw [if_neg e] at h; exact List.mem_cons_of_mem _ (ih h)

theorem mget_some {L : Ents} (hL : EntsOK L) {c : RtD} {v : Value} (h : (c, v) ∈ L) : mget L c = some v := by
  cases hm : mget L c with
  | none => exact absurd (List.mem_map.2 ⟨_, h, rfl⟩) (mget_none.1 hm)
  | some u => have := hL.uniq (mget_mem hm) h rfl; cases this; rfl

theorem mget_perm {L M : Ents} (hL : EntsOK L) (hp : L.Perm M) (c : RtD) : mget M c = mget L c := by
  cases hm : mget L c with
  | none => exact mget_none.2 fun h => mget_none.1 hm ((hp.map _).mem_iff.2 h)
  | some v => exact mget_some (hL.perm hp) (hp.mem_iff.1 (mget_mem hm))

theorem dms_at {L : Ents} (h : EntsOK L) {c : RtD} (hc : c.ok) (z : DataW Value) : (DataW.map (dms L)).atKey (kl c) z = ((mget L c).map DataW.held).getD z := by
  have hat := WideShapes.atKey_sorted (L.map encE) (ChangeMaps.rising_of_pairwise _ (dms_sorted h)) (kl c) (lawC.key (keyOf_cp hc))
  cases hm : mget L c with
  | none =>
    refine hat.1 (fun q hq e => ?_) z
    obtain ⟨p, hp, rfl⟩ := List.mem_map.1 hq
    exact mget_none.1 hm (List.mem_map.2 ⟨p, hp, kl_inj (h.ok p hp) hc e⟩)
  | some v => exact hat.2 (encE (c, v)) (List.mem_map.2 ⟨_, mget_mem hm, rfl⟩) rfl z

/-- Block b is a map with these entries. -/
def MapIs (w : World) (b : Nat) (L : Ents) : Prop := w.ownsMap Try.prog 31 Rv b L.length (.map (dms L)) ∧ EntsOK L

theorem own_tight {w : World} {b n : Nat} {L : Ents} (h : w.ownsMap Try.prog 31 Rv b n (.map (dms L))) : w.ownsMap Try.prog 31 Rv b L.length (.map (dms L)) := by
  obtain ⟨es, clock, hb, F, hs, hD⟩ := h
  refine ⟨es, clock, hb, F, ?_, hD⟩
  have := congrArg (fun d => match d with | DataW.map l => l.length | _ => 0) hD
  simp only [dms_len, length_read] at this
  omega

theorem MapIs.perm {w : World} {b : Nat} {L M : Ents} (h : MapIs w b L) (hp : L.Perm M) : MapIs w b M := ⟨by rw [← dms_perm h.2 hp, ← hp.length_eq]; exact h.1, h.2.perm hp⟩

theorem MapIs.made (w : World) : MapIs (w.alloc (.map #[] 0)) w.heap.size [] := ⟨World.ownsMap_made w _ _ _, EntsOK.nil⟩

theorem MapIs.lt {w : World} {b : Nat} {L : Ents} (h : MapIs w b L) : b < w.heap.size := h.1.lt

theorem MapIs.grown {w w' : World} {b : Nat} {L : Ents} {row : Option Nat} (h : MapIs w b L) (hg : w.grownBy w' row) (hne : some b ≠ row) : MapIs w' b L := ⟨h.1.kept hg hne, h.2⟩

theorem below_grown {w w' : World} (hb : Below w.heap.size w w') : w.grownBy w' none := ⟨hb.os, hb.tape, hb.output, hb.size, fun k hk _ => hb.block k hk⟩

theorem grown_belowM {w w' : World} (hb : w.grownBy w' none) : Below w.heap.size w w' := ⟨hb.os, hb.tape, hb.output, hb.size, fun k hk => hb.block k hk (by simp)⟩

theorem MapIs.call {w w' : World} {b : Nat} {L : Ents} (h : MapIs w b L) (hb : Below w.heap.size w w') : MapIs w' b L := h.grown (below_grown hb) (by simp)

theorem MapIs.obj {w : World} {b : Nat} {L : Ents} (h : MapIs w b L) : ∃ es clock, w.heap[b]? = some (.map es clock) := by obtain ⟨es, clock, hb, _⟩ := h.1; exact ⟨es, clock, hb⟩

/-- 'm[c]', 'v, ok := m[c]'. -/
theorem MapIs.look {w : World} {b : Nat} {L : Ents} (h : MapIs w b L) {c : RtD} (hc : c.ok) {t e : TypeId} (ok : Bool) (ht : Try.prog.underlying t = some (.map 31 e)) {z : Value} (hz : (zeroValue e).run Try.prog w = .ok z w) :
    (Instr.lookup t (.map (some b)) (cpX c) ok).run Try.prog w = .ok (if ok then .tuple #[(mget L c).getD z, .bool (mget L c).isSome] else (mget L c).getD z) w := by
  obtain ⟨⟨es, clock, hb, F, hs, hD⟩, hok⟩ := h
  have hat := dms_at hok hc
  rw [hD] at hat
  rcases Maps.fit_look ok lawC ht hz hb F (keyOf_cp hc) with ⟨hrun, _, h2⟩ | ⟨e0, y, _, _, hrun, hRv, h2, _⟩
  · have : mget L c = none := by
      cases hm : mget L c with
      | none => rfl
      | some v => have := (h2 .nil).symm.trans (hat .nil); rw [hm] at this; cases this
    rw [hrun, this]; rfl
  · have : mget L c = some e0.val := by
      have e1 : y.1 = .held e0.val := by simp only [Rv, Option.some.injEq] at hRv; rw [← hRv]
      have e2 := (h2 .nil).symm.trans (hat .nil)
      rw [e1] at e2
      cases hm : mget L c with
      | none => rw [hm] at e2; cases e2
      | some v => rw [hm] at e2; simp only [Option.map_some, Option.getD_some, DataW.held.injEq] at e2; rw [e2]
    rw [hrun, this]; rfl

/-- 'm[c] = v' at a key that is not there. -/
theorem MapIs.put {w : World} {b : Nat} {L : Ents} (h : MapIs w b L) {c : RtD} (hc : c.ok) (v : Value) {t e : TypeId} (ht : Try.prog.underlying t = some (.map 31 e)) (hn : c ∉ L.map Prod.fst) (hl : L.length < maxLen) :
    ∃ w', (Instr.mapUpdate t (.map (some b)) (cpX c) v).run Try.prog w = .ok () w' ∧ MapIs w' b ((c, v) :: L) ∧ w.grownBy w' (some b) := by
  obtain ⟨w', h1, h2, h3⟩ := h.1.update lawC ht hl (keyOf_cp hc) (val := v) (d := .held v) (ps := []) rfl
  rw [DataW.put_eq, dms_put h.2 v hc hn] at h2
  exact ⟨w', h1, ⟨h2, h.2.cons hc hn⟩, h3⟩

/-- 'len(m)'. -/
theorem MapIs.len {w : World} {b : Nat} {L : Ents} (h : MapIs w b L) {t e : TypeId} (ht : Try.prog.underlying t = some (.map 31 e)) (ty : TypeId) : (Builtin.len_ #[t] ty #[.map (some b)]).run Try.prog w = .ok (.int .i64 L.length) w := by
  have := h.1.len ht ty
  rwa [Maps.size_eq, dms_len] at this

/-- 'for c, v := range m' under way: U is still to come. -/
def RangeIs (w : World) (b r : Nat) (L U : Ents) (cnt : Nat) : Prop :=
  ∃ n left, w.ranges Try.prog 31 Rv b r n (.map (dms L)) left cnt ∧ (∀ l, left l = true ↔ ∃ p ∈ U, kl p.1 = l) ∧ (∀ p ∈ U, p ∈ L) ∧ EntsOK L ∧ EntsOK U

theorem RangeIs.map {w : World} {b r cnt : Nat} {L U : Ents} (h : RangeIs w b r L U cnt) : MapIs w b L := by
  obtain ⟨n, left, h1, _, _, h4, _⟩ := h
  exact ⟨own_tight h1.owns, h4⟩

theorem RangeIs.left_eq {w : World} {b r cnt : Nat} {L U : Ents} (h : RangeIs w b r L U cnt) : w.rangeLeft b r = cnt := by obtain ⟨n, left, h1, _⟩ := h; exact h1.left_eq

theorem RangeIs.lt {w : World} {b r cnt : Nat} {L U : Ents} (h : RangeIs w b r L U cnt) : r < w.heap.size := by obtain ⟨n, left, h1, _⟩ := h; exact h1.lt

theorem RangeIs.ne {w : World} {b r cnt : Nat} {L U : Ents} (h : RangeIs w b r L U cnt) : r ≠ b := by obtain ⟨n, left, h1, _⟩ := h; exact h1.ne

theorem RangeIs.grown {w w' : World} {b r cnt : Nat} {L U : Ents} {row : Option Nat} (h : RangeIs w b r L U cnt) (hg : w.grownBy w' row) (h1 : some b ≠ row) (h2 : some r ≠ row) : RangeIs w' b r L U cnt := by
  obtain ⟨n, left, h3, h4⟩ := h
  exact ⟨n, left, h3.kept hg h1 h2, h4⟩

theorem has_dms {L : Ents} (h : EntsOK L) (l : Lit) : Maps.has (DataW.map (dms L)) l = true ↔ ∃ p ∈ L, kl p.1 = l := by
  rw [Maps.has_eq, List.any_eq_true]
  constructor
  · rintro ⟨q, hq, hs⟩
    obtain ⟨p, hp, rfl⟩ := List.mem_map.1 (mem_sorted.1 hq)
    exact ⟨p, hp, WideAt.sameKey_eq hs⟩
  · rintro ⟨p, hp, rfl⟩
    exact ⟨encE p, mem_sorted.2 (List.mem_map.2 ⟨p, hp, rfl⟩), WideAt.sameKey_self (lawC.key (keyOf_cp (h.ok p hp)))⟩

theorem MapIs.range {w : World} {b : Nat} {L : Ents} (h : MapIs w b L) {t e : TypeId} (ht : Try.prog.underlying t = some (.map 31 e)) :
    ∃ w', (Instr.range t (.map (some b))).run Try.prog w = .ok (.pointer (some ⟨w.heap.size, 0, none⟩)) w' ∧ RangeIs w' b w.heap.size L L L.length ∧ w.grownBy w' none ∧ w'.heap.size = w.heap.size + 1 := by
  obtain ⟨w', h1, h2, h3, h4⟩ := h.1.range lawC ht
  rw [Maps.size_eq, dms_len] at h2
  exact ⟨w', h1, ⟨_, _, h2, has_dms h.2, fun p hp => hp, h.2, h.2⟩, h3, h4⟩

theorem erase_perm {U : Ents} {p : RtD × Value} (hp : p ∈ U) : ∃ U', U.Perm (p :: U') := by
  obtain ⟨a, b, rfl⟩ := List.append_of_mem hp
  exact ⟨a ++ b, List.perm_middle⟩

/-- The step. -/
theorem RangeIs.next {w : World} {b r cnt : Nat} {L U : Ents} (h : RangeIs w b r L U cnt) (ty : TypeId) :
    (U = [] ∧ (Instr.next (.pointer (some ⟨r, 0, none⟩)) false ty).run Try.prog w = .ok (.tuple #[.bool false]) w) ∨
    ∃ p U' w' cnt', U.Perm (p :: U') ∧ (Instr.next (.pointer (some ⟨r, 0, none⟩)) false ty).run Try.prog w = .ok (.tuple #[.bool true, cpX p.1, p.2]) w' ∧ RangeIs w' b r L U' cnt' ∧ cnt' < cnt ∧ w.grownBy w' (some r) ∧ w'.heap.size = w.heap.size ∧
      (Instr.entry (.pointer (some ⟨r, 0, none⟩))).run Try.prog w' = .ok (.tuple #[cpX p.1, p.2]) w' := by
  obtain ⟨n, left, h1, hl, hsub, hL, hU⟩ := h
  rcases h1.next lawC ty with ⟨_, h0, hrun⟩ | ⟨key, v, l, y, w', cnt', hkey, hlk, hv, hat, hrun, hrg, hlt, hgr, hsz, hen⟩
  · refine .inl ⟨?_, hrun⟩
    cases U with
    | nil => rfl
    | cons p r => have := (hl (kl p.1)).2 ⟨p, by simp, rfl⟩; rw [h0] at this; cases this
  · obtain ⟨p, hp, rfl⟩ := (hl l).1 hlk
    have hpo := hU.ok p hp
    have ek : key = cpX p.1 := lawC.inj hkey (keyOf_cp hpo)
    have ey : y.1 = .held v := by simp only [Rv, Option.some.injEq] at hv; rw [← hv]
    have ev : v = p.2 := by
      have e1 := (hat .nil).symm.trans (dms_at hL hpo .nil)
      rw [ey, mget_some hL (hsub p hp)] at e1
      simpa using e1
    subst ek ev
    obtain ⟨U', hp'⟩ := erase_perm hp
    have hU2 := hU.perm hp'
    have hnd := hU2.nodup
    rw [List.map_cons, List.nodup_cons] at hnd
    refine .inr ⟨p, U', w', cnt', hp', hrun, ⟨n, _, hrg, fun l => ?_, fun q hq => hsub q (hp'.mem_iff.2 (List.mem_cons_of_mem _ hq)), hL, hU2.sub (List.sublist_cons_self _ _)⟩, hlt, hgr, hsz, hen⟩
    simp only [Bool.and_eq_true, Bool.not_eq_true', hl]
    constructor
    · rintro ⟨⟨q, hq, rfl⟩, hs⟩
      rcases List.mem_cons.1 (hp'.mem_iff.1 hq) with rfl | hq'
      · rw [WideAt.sameKey_self (lawC.key (keyOf_cp hpo))] at hs; cases hs
      · exact ⟨q, hq', rfl⟩
    · rintro ⟨q, hq, rfl⟩
      refine ⟨⟨q, hp'.mem_iff.2 (List.mem_cons_of_mem _ hq), rfl⟩, ?_⟩
      cases hs : (kl q.1).sameKey (kl p.1)
      · rfl
      · exact absurd (List.mem_map.2 ⟨q, hq, kl_inj (hU2.ok q (List.mem_cons_of_mem _ hq)) hpo (WideAt.sameKey_eq hs)⟩) hnd.1

/-- 'delete(m, c)' in the round, c no longer to come. -/
theorem RangeIs.drop {w : World} {b r cnt : Nat} {L U : Ents} (h : RangeIs w b r L U cnt) {c : RtD} (hc : c.ok) (hn : c ∉ U.map Prod.fst) {t e : TypeId} (ht : Try.prog.underlying t = some (.map 31 e)) (ty : TypeId) :
    ∃ w' cnt', (Builtin.delete_ #[t, 31] ty #[.map (some b), cpX c]).run Try.prog w = .ok (.tuple #[]) w' ∧ RangeIs w' b r (L.filter fun p => decide (p.1 ≠ c)) U cnt' ∧ cnt' ≤ cnt ∧ w.grownBy w' (some b) := by
  obtain ⟨n, left, h1, hl, hsub, hL, hU⟩ := h
  obtain ⟨w', cnt', hrun, hrg, hle, hmt⟩ := h1.drop lawC ht (keyOf_cp hc) ty
  rw [DataW.del_eq, dms_del hL hc] at hrg
  have hne : ∀ q ∈ U, q.1 ≠ c := fun q hq e => hn (List.mem_map.2 ⟨q, hq, e⟩)
  refine ⟨w', cnt', hrun, ⟨n, _, hrg, fun l => ?_, fun q hq => List.mem_filter.2 ⟨hsub q hq, by simpa using hne q hq⟩, hL.sub List.filter_sublist, hU⟩, hle, hmt.grown⟩
  simp only [Bool.and_eq_true, Bool.not_eq_true', hl]
  constructor
  · exact fun h => h.1
  · rintro ⟨q, hq, rfl⟩
    refine ⟨⟨q, hq, rfl⟩, ?_⟩
    cases hs : (kl q.1).sameKey (kl c)
    · rfl
    · exact absurd (kl_inj (hU.ok q hq) hc (WideAt.sameKey_eq hs)) (hne q hq)
/-! ### The entries behind a store at any key, and behind a deletion -/

theorem mget_filter (L : Ents) (c d : RtD) : mget (L.filter fun p => decide (p.1 ≠ c)) d = if d = c then none else mget L d := by
  induction L with
  | nil => simp [mget]
  | cons x r ih =>
    obtain ⟨k, v⟩ := x
    by_cases e : k = c
    · rw [List.filter_cons_of_neg (by simp [e]), ih]
      by_cases e2 : d = c
      · rw [if_pos e2, if_pos e2]
      · rw [if_neg e2, if_neg e2, mget, if_neg (by rw [e]; exact fun h => e2 h.symm)]
    · rw [List.filter_cons_of_pos (by simp [e]), mget, mget, ih]
      by_cases e2 : k = d
      · subst e2; rw [if_pos rfl, if_neg e, if_pos rfl]
      · rw [if_neg e2, if_neg e2]

theorem MapIs.putAny {w : World} {b : Nat} {L : Ents} (h : MapIs w b L) {c : RtD} (hc : c.ok) (v : Value) {t e : TypeId} (ht : Try.prog.underlying t = some (.map 31 e)) (hl : L.length < maxLen) :
    ∃ w', (Instr.mapUpdate t (.map (some b)) (cpX c) v).run Try.prog w = .ok () w' ∧ MapIs w' b ((c, v) :: L.filter fun p => decide (p.1 ≠ c)) ∧ w.grownBy w' (some b) := by
  obtain ⟨w', h1, h2, h3⟩ := h.1.update lawC ht hl (keyOf_cp hc) (val := v) (d := .held v) (ps := []) rfl
  have hs := h.2.sub (List.filter_sublist (l := L) (p := fun p => decide (p.1 ≠ c)))
  have hn : c ∉ (L.filter fun p => decide (p.1 ≠ c)).map Prod.fst := by
    intro hm
    obtain ⟨p, hp, e⟩ := List.mem_map.1 hm
    have := (List.mem_filter.1 hp).2
    simp [e] at this
  have hE : dms ((c, v) :: L.filter fun p => decide (p.1 ≠ c)) = ChangeMaps.putKey (kl c) (.held v) (dms L) := by
    refine Maps.sorted_put lawC.one (k := kl c) (d := .held v) (E := L.map encE) ⟨cpX c, keyOf_cp hc⟩ (enc_keys h.2) (enc_apart h.2) ?_
    rw [List.map_cons]
    refine List.Perm.cons _ ?_
    rw [List.filter_map]
    exact List.Perm.of_eq (congrArg _ (List.filter_congr fun p hp => (notKey_enc h.2 hc hp).symm))
  rw [DataW.put_eq, ← hE] at h2
  exact ⟨w', h1, ⟨own_tight h2, hs.cons hc hn⟩, h3⟩

theorem MapIs.del {w : World} {b : Nat} {L : Ents} (h : MapIs w b L) {c : RtD} (hc : c.ok) {t e : TypeId} (ht : Try.prog.underlying t = some (.map 31 e)) (ty : TypeId) :
    ∃ w', (Builtin.delete_ #[t, 31] ty #[.map (some b), cpX c]).run Try.prog w = .ok (.tuple #[]) w' ∧ MapIs w' b (L.filter fun p => decide (p.1 ≠ c)) ∧ w.grownBy w' (some b) := by
  obtain ⟨⟨es, clock, hb, F, hs, hD⟩, hok⟩ := h
  obtain ⟨es', hrun, F', hsz, hdel, _⟩ := Maps.fit_drop (ty := ty) lawC ht hb F (keyOf_cp hc)
  have hD' : dms L = (es.toList.map (WideElems.rg Try.prog 31 Rv)).foldr DataW.insert [] := by simpa using hD
  rw [← hD', dms_del hok hc] at hdel
  refine ⟨_, hrun, ⟨own_tight ⟨es', clock, ChangeMaps.heap_setBlock_same hb _, F', Nat.le_refl _, by rw [hdel]⟩, hok.sub List.filter_sublist⟩, ⟨rfl, rfl, rfl, by simp [ChangeMaps.setBlock], fun i _ hi => ChangeMaps.heap_setBlock_other hb _ (fun e => hi (by rw [e]))⟩⟩
/-! ### A map of weights -/

/-- Block b is a map of numbers that gives each root its weight (none: 0). -/
def WtI (w : World) (b m : Nat) (f : List Int → Int) : Prop := ∃ L, MapIs w b L ∧ L.length ≤ m ∧ ∀ r, IsBytes 32 r → (mget L ⟨r⟩).getD (.int .u64 0) = .int .u64 (f r)

theorem WtI.lt {w : World} {b m : Nat} {f : List Int → Int} (h : WtI w b m f) : b < w.heap.size := by obtain ⟨L, h, _⟩ := h; exact h.lt

theorem WtI.made (w : World) : WtI (w.alloc (.map #[] 0)) w.heap.size 0 (fun _ => 0) := ⟨[], MapIs.made w, Nat.le_refl _, fun r _ => rfl⟩

theorem WtI.call {w w' : World} {b m : Nat} {f : List Int → Int} (h : WtI w b m f) (hb : Below w.heap.size w w') : WtI w' b m f := by obtain ⟨L, h1, h2⟩ := h; exact ⟨L, h1.call hb, h2⟩

theorem WtI.grown {w w' : World} {b m : Nat} {f : List Int → Int} {row : Option Nat} (h : WtI w b m f) (hg : w.grownBy w' row) (hne : some b ≠ row) : WtI w' b m f := by obtain ⟨L, h1, h2⟩ := h; exact ⟨L, h1.grown hg hne, h2⟩

theorem WtI.congr {w : World} {b m : Nat} {f g : List Int → Int} (h : WtI w b m f) (e : ∀ r, IsBytes 32 r → f r = g r) : WtI w b m g := by obtain ⟨L, h1, h2, h3⟩ := h; exact ⟨L, h1, h2, fun r hr => by rw [h3 r hr, e r hr]⟩

theorem WtI.wide {w : World} {b m n : Nat} {f : List Int → Int} (h : WtI w b m f) (hn : m ≤ n) : WtI w b n f := by obtain ⟨L, h1, h2, h3⟩ := h; exact ⟨L, h1, Nat.le_trans h2 hn, h3⟩

theorem zero_u64 (w : World) : (zeroValue 29).run Try.prog w = .ok (.int .u64 0) w := Try.zeroValue29 w

theorem wt_put {L : Ents} {f : List Int → Int} {r : List Int} (h3 : ∀ s, IsBytes 32 s → (mget L ⟨s⟩).getD (.int .u64 0) = .int .u64 (f s)) (x : Int) (s : List Int) (hs : IsBytes 32 s) :
    (mget ((⟨r⟩, .int .u64 x) :: L.filter fun p => decide (p.1 ≠ ⟨r⟩)) ⟨s⟩).getD (.int .u64 0) = .int .u64 (if s = r then x else f s) := by
  rw [mget]
  by_cases e : s = r
  · subst e; rw [if_pos rfl, if_pos rfl]; rfl
  · rw [if_neg (fun h => e (by cases h; rfl)), mget_filter, if_neg (fun h => e (by cases h; rfl)), if_neg e]
    exact h3 s hs
section
open Go.ChangeShapes Go.WideShapes Go.MapKept Go.ChangeMaps
open Go.WideMaps (KeyLaw)

theorem entry_shape {P : Program} {w : World} {t k e : TypeId} {H : Type} {R : Value → Option (DataW H × List MemPlace)} {b : Nat} {es : Array MapEntry} {clock : Nat} (K : KeyLaw P k) (ht : P.underlying t = some (.map k e)) {z : Value} (hz : ∀ u : World, (zeroValue e).run P u = .ok z u) (hb : w.heap[b]? = some (.map es clock)) (F : WideElems.Fit P k R es clock)
    {key : Value} {kl : Lit} (hkey : keyOf P k key = some kl) :
    ((Instr.mapEntry t (.map (some b)) key).run P w = .ok (.tuple #[z, goInt clock]) (setBlock w b (.map (es.push ⟨key, z, clock⟩) (clock + 1))) ∧ (Instr.mapUpdate t (.map (some b)) key z).run P w = .ok () (setBlock w b (.map (es.push ⟨key, z, clock⟩) (clock + 1))) ∧ (Instr.lookup t (.map (some b)) key false).run P w = .ok z w) ∨
    ∃ e0 : MapEntry, (Instr.mapEntry t (.map (some b)) key).run P w = .ok (.tuple #[e0.val, goInt e0.born]) (setBlock w b (.map es clock)) := by
  rcases K.find w hkey es.toList F.keys with ⟨h1, h2⟩ | ⟨j, e0, h1, h2, h3⟩
  · refine .inl ⟨?_, ?_, ?_⟩
    · simp [Instr.mapEntry, run_underlying ht, MapKept.run_getObj_map hb, K.check w false hkey, h1, hz, MapKept.run_setObj_map _ hb, Result.andThen, setBlock]
    · simp [Instr.mapUpdate, run_underlying ht, MapKept.run_getObj_map hb, K.check w false hkey, h1, MapKept.run_setObj_map _ hb, Result.andThen, setBlock]
    · simp [Instr.lookup, run_underlying ht, MapKept.run_getObj_map hb, K.check w _ hkey, h1, hz, Result.andThen]
  · refine .inr ⟨e0, ?_⟩
    have hj : es[j]? = some e0 := by simpa using h2
    have hsame : es.modify j (fun e => { e with key := key }) = es := by
      apply Array.ext'
      rw [Array.toList_modify, modify_eq_set _ _ _ _ h2]
      have : ({ e0 with key := key } : MapEntry) = e0 := by rw [← h3]
      rw [this]
      exact WideElems.set_self _ _ _ h2
    simp [Instr.mapEntry, run_underlying ht, MapKept.run_getObj_map hb, K.check w false hkey, h1, hj, h3, K.stays w hkey, hsame, MapKept.run_setObj_map _ hb, Result.andThen, setBlock]
end
end RM
end

/-! BtV -/
section
set_option linter.unusedVariables false
set_option linter.unusedSimpArgs false
open Go.RowKit

set_option maxRecDepth 100000

theorem at_mlook {P : Program} {ops : Array Oper} {Q : Exit → Act → World → Prop} {dst : Option Tmp} {t ty' : TypeId} (m x : Operand) {ok : Bool} {pos : String} {aft : Array Edge} {g : Option (Nat × Bool)} {rest : List Oper} {a : Act} {w : World}
    (h : wpList P ops Q (⟨dst, .lookup t m x ok, ty', pos, aft, g⟩ :: rest) a w) : wpList P ops Q (⟨dst, .lookup t m x ok, ty', pos, aft, g⟩ :: rest) a w := h

theorem wpList_mlook {P : Program} {ops : Array Oper} {rest : List Oper} {o : Oper} {a : Act} {w : World} {Q : Exit → Act → World → Prop} (hg : o.guard = none) (t : TypeId) (m x : Operand) (ok : Bool) (ho : o.op = .lookup t m x ok) (mv xv v : Value) (hm : a.eval m = mv) (hx : a.eval x = xv)
    (hr : (Instr.lookup t mv xv ok).run P w = .ok v w) (h : wpList P ops Q rest (a.put o.dst v) w) : wpList P ops Q (o :: rest) a w :=
  wpList_plain hg fun _ hK => by
    unfold Oper.wp execOp
    simp only [ho, hm, hx, Sem.run_bind, hr, Result.andThen_ok, Sem.run_pure]
    exact hK _ _ h

theorem at_mput {P : Program} {ops : Array Oper} {Q : Exit → Act → World → Prop} {dst : Option Tmp} {t ty' : TypeId} (m x v : Operand) {pos : String} {aft : Array Edge} {g : Option (Nat × Bool)} {rest : List Oper} {a : Act} {w : World}
    (h : wpList P ops Q (⟨dst, .mapUpdate t m x v, ty', pos, aft, g⟩ :: rest) a w) : wpList P ops Q (⟨dst, .mapUpdate t m x v, ty', pos, aft, g⟩ :: rest) a w := h

theorem wpList_mput {P : Program} {ops : Array Oper} {rest : List Oper} {o : Oper} {a : Act} {w w' : World} {Q : Exit → Act → World → Prop} (hg : o.guard = none) (t : TypeId) (m x v : Operand) (ho : o.op = .mapUpdate t m x v) (mv xv vv : Value) (hm : a.eval m = mv) (hx : a.eval x = xv) (hv : a.eval v = vv)
    (hr : (Instr.mapUpdate t mv xv vv).run P w = .ok () w') (h : wpList P ops Q rest (a.put o.dst undef) w') : wpList P ops Q (o :: rest) a w :=
  wpList_plain hg fun _ hK => by
    unfold Oper.wp execOp
    simp only [ho, hm, hx, hv, Sem.run_bind, hr, Result.andThen_ok, Sem.run_pure]
    exact hK _ _ h

theorem at_mmake {P : Program} {ops : Array Oper} {Q : Exit → Act → World → Prop} {dst : Option Tmp} {t ty' : TypeId} (r : Option Operand) {pos : String} {aft : Array Edge} {g : Option (Nat × Bool)} {rest : List Oper} {a : Act} {w : World}
    (h : wpList P ops Q (⟨dst, .makeMap t r, ty', pos, aft, g⟩ :: rest) a w) : wpList P ops Q (⟨dst, .makeMap t r, ty', pos, aft, g⟩ :: rest) a w := h

theorem wpList_mmake {P : Program} {ops : Array Oper} {rest : List Oper} {o : Oper} {a : Act} {w : World} {Q : Exit → Act → World → Prop} (hg : o.guard = none) (t k e : TypeId) (x : Operand) (ho : o.op = .makeMap t (some x)) (ht : P.underlying t = some (.map k e)) (ik : IntKind) (n : Int) (hx : a.eval x = .int ik n)
    (h : wpList P ops Q rest (a.put o.dst (.map (some w.heap.size))) (w.alloc (.map #[] 0))) : wpList P ops Q (o :: rest) a w :=
  wpList_plain hg fun _ hK => by
    have hr : (Instr.makeMap t (some (.int ik n))).run P w = .ok (.map (some w.heap.size)) (w.alloc (.map #[] 0)) := by
      simp [Instr.makeMap, run_underlying ht, asInt, newObj, go_sem]
      rfl
    unfold Oper.wp execOp
    simp only [ho, hx, Option.map_some, Sem.run_bind, hr, Result.andThen_ok, Sem.run_pure]
    exact hK _ _ h
/-! ### The index of a root, grown by a node -/

theorem findN_snoc (xs : List NdD) (d : NdD) (r : List Int) : findN (xs ++ [d]) r = if 0 ≤ findN xs r then findN xs r else if d.b.root = r then (xs.length : Int) else -1 := by
  rcases findN_spec xs r with ⟨h1, h2⟩ | ⟨k, hk, h1, h2, h3⟩
  · rw [if_neg (by omega)]
    by_cases e : d.b.root = r
    · rw [if_pos e]
      rcases findN_spec (xs ++ [d]) r with ⟨h4, h5⟩ | ⟨k, hk, h4, h5, h6⟩
      · have := h5 xs.length (by simp)
        rw [List.getElem_append_right (Nat.le_refl _)] at this
        exact absurd e (by simpa using this)
      · rw [h4]
        by_cases hkl : k < xs.length
        · rw [List.getElem_append_left hkl] at h5
          exact absurd h5 (h2 k hkl)
        · simp at hk; omega
    · rw [if_neg e]
      rcases findN_spec (xs ++ [d]) r with ⟨h4, h5⟩ | ⟨k, hk, h4, h5, h6⟩
      · exact h4
      · by_cases hkl : k < xs.length
        · rw [List.getElem_append_left hkl] at h5
          exact absurd h5 (h2 k hkl)
        · obtain rfl : k = xs.length := by simp at hk; omega
          rw [List.getElem_append_right (Nat.le_refl _)] at h5
          exact absurd (by simpa using h5) e
  · rw [h1, if_pos (by omega)]
    rcases findN_spec (xs ++ [d]) r with ⟨h4, h5⟩ | ⟨j, hj, h4, h5, h6⟩
    · have := h5 k (by simp; omega)
      rw [List.getElem_append_left hk] at this
      exact absurd h2 this
    · rw [h4]
      rcases Nat.lt_trichotomy j k with h | h | h
      · rw [List.getElem_append_left (by omega)] at h5
        exact absurd h5 (h3 j h (by omega))
      · rw [h]
      · have := h6 k h (by simp; omega)
        rw [List.getElem_append_left hk] at this
        exact absurd h2 this

/-- No root twice. -/
def DisN (xs : List NdD) : Prop := xs.Pairwise fun a b => a.b.root ≠ b.b.root

theorem DisN.find {xs : List NdD} (h : DisN xs) {u : Nat} (hu : u < xs.length) : findN xs xs[u].b.root = u := by
  rcases findN_spec xs xs[u].b.root with ⟨_, h2⟩ | ⟨k, hk, h1, h2, h3⟩
  · exact absurd rfl (h2 u hu)
  · rw [h1]
    rcases Nat.lt_trichotomy k u with hl | hl | hl
    · exact absurd h2 (List.pairwise_iff_getElem.1 h k u hk hu hl)
    · rw [hl]
    · exact absurd rfl (h3 u hl hu)

theorem DisN.snoc {xs : List NdD} (h : DisN xs) {d : NdD} (hd : ¬ 0 ≤ findN xs d.b.root) : DisN (xs ++ [d]) := by
  unfold DisN
  rw [List.pairwise_append]
  refine ⟨h, List.pairwise_singleton _ _, fun a ha b hb => ?_⟩
  rw [List.mem_singleton.1 hb]
  obtain ⟨i, hi, rfl⟩ := List.mem_iff_getElem.1 ha
  rcases findN_spec xs d.b.root with ⟨_, h2⟩ | ⟨k, hk, h1, _, _⟩
  · exact h2 i hi
  · omega

/-- Block b is a map that gives each root of these nodes its index. -/
def MpN (w : World) (b : Nat) (xs : List NdD) : Prop := ∃ L, RM.MapIs w b L ∧ L.length ≤ xs.length ∧ ∀ r, IsBytes 32 r → RM.mget L ⟨r⟩ = if 0 ≤ findN xs r then some (.int .i64 (findN xs r)) else none

theorem MpN.call {w w' : World} {b : Nat} {xs : List NdD} (h : MpN w b xs) (hb : Below w.heap.size w w') : MpN w' b xs := by obtain ⟨L, h1, h2⟩ := h; exact ⟨L, h1.call hb, h2⟩

theorem MpN.lt {w : World} {b : Nat} {xs : List NdD} (h : MpN w b xs) : b < w.heap.size := by obtain ⟨L, h1, _⟩ := h; exact h1.lt

theorem MpN.made (w : World) : MpN (w.alloc (.map #[] 0)) w.heap.size [] := ⟨[], RM.MapIs.made w, Nat.le_refl _, fun r _ => rfl⟩

theorem und_mpi : Try.prog.underlying 67 = some (.map 31 3) := Try.underlying67

theorem MpN.look {w : World} {b : Nat} {xs : List NdD} (h : MpN w b xs) {r : List Int} (hr : IsBytes 32 r) :
    (Instr.lookup 67 (.map (some b)) (.agg (bytesL r).toArray) true).run Try.prog w = .ok (.tuple #[.int .i64 (if 0 ≤ findN xs r then findN xs r else 0), .bool (decide (0 ≤ findN xs r))]) w := by
  obtain ⟨L, h1, _, h3⟩ := h
  have := h1.look (c := ⟨r⟩) hr true und_mpi (Try.zeroValue3 w)
  rw [h3 r hr] at this
  refine this.trans ?_
  by_cases e : 0 ≤ findN xs r
  · simp [e]
  · simp [e]

theorem MpN.put {w : World} {b : Nat} {xs : List NdD} (h : MpN w b xs) {d : NdD} (hd : IsBytes 32 d.b.root) (hn : ¬ 0 ≤ findN xs d.b.root) (hl : xs.length ≤ 100000) :
    ∃ w', (Instr.mapUpdate 67 (.map (some b)) (.agg (bytesL d.b.root).toArray) (.int .i64 (xs.length : Nat))).run Try.prog w = .ok () w' ∧ MpN w' b (xs ++ [d]) ∧ w.grownBy w' (some b) := by
  obtain ⟨L, h1, h2, h3⟩ := h
  have hnk : (⟨d.b.root⟩ : RM.RtD) ∉ L.map Prod.fst := RM.mget_none.1 (by rw [h3 _ hd, if_neg hn])
  obtain ⟨w', hrun, hm, hg⟩ := h1.put (c := ⟨d.b.root⟩) hd (.int .i64 (xs.length : Nat)) und_mpi hnk (by unfold maxLen; omega)
  refine ⟨w', hrun, ⟨_, hm, by simp; omega, fun r hr => ?_⟩, hg⟩
  rw [RM.mget, findN_snoc]
  by_cases e : d.b.root = r
  · subst e
    rw [if_pos rfl, if_neg hn, if_pos rfl, if_pos (by omega)]
  · rw [if_neg (fun h => e (by cases h; rfl)), h3 r hr, if_neg e]
    by_cases e2 : 0 ≤ findN xs r
    · rw [if_pos e2, if_pos e2, if_pos e2]
    · rw [if_neg e2, if_neg e2, if_neg (by omega)]

/-- Where a node points to a node before it, the parent's index tells its root. -/
theorem par_iff {ns : List NdD} {k : Nat} (hk : k < ns.length) (hd : DisN (ns.take k)) {u : Nat} (hu : u < k) {r : List Int} : findN (ns.take k) r = (u : Int) ↔ r = rootAt ns u := by
  have hut : u < (ns.take k).length := by rw [List.length_take]; omega
  have e : rootAt ns (u : Int) = (ns.take k)[u].b.root := by
    rw [List.getElem_take]
    simp [rootAt, List.getElem?_eq_getElem (show u < ns.length by omega)]
  rw [e]
  constructor
  · intro h
    rcases findN_spec (ns.take k) r with ⟨h1, _⟩ | ⟨j, hj, h1, h2, _⟩
    · omega
    · rw [h1] at h
      obtain rfl : j = u := by omega
      exact h2.symm
  · rintro rfl
    exact hd.find hut

/-- The variables of validateNode. -/
structure VnS (w : World) (TA L : Array Value) (mb : Nat) (xs : List NdD) (u : World) : Prop where
  v : VaS w TA L (w.heap.size + 1) u
  m : MpN u mb xs

theorem VnS.call {w u u' : World} {TA L : Array Value} {mb : Nat} {xs : List NdD} (h : VnS w TA L mb xs u) (hb : Below u.heap.size u u') : VnS w TA L mb xs u' := ⟨h.v.call hb, h.m.call hb⟩

set_option maxHeartbeats 16000000 in
theorem vnode_any (v : Value) (ns : List NdD) (k mb : Nat) (w : World) (hN : NodesV w v ns) (hkn : k < ns.length) (hM : MpN w mb (ns.take k)) (hD : DisN (ns.take k)) :
    Calls Try.prog 42 #[.agg #[v], .int .i64 k, .map (some mb)] w fun e w' => e = .returned (.int .i64 (nodeE ns ns[k] k)) ∧ Below w.heap.size w w' := by
  obtain ⟨a, cap, rfl, hmx⟩ := hN.shape
  unfold maxLen at hmx
  have HN := Lib.hid hN
  have HM := Lib.hid hM
  have HDI := Lib.hid hD
  have hi1 : (Try.prog.info? 25).map (·.size) = some 1 := by kernel_rfl
  obtain ⟨ZN, hZN⟩ : ∃ Z, flatP (zeBkP ++ [[.int .i64 0], [.int .i64 0]]) = Z := ⟨_, rfl⟩
  have hszN : ZN.size = 240 := by rw [← hZN]; rfl
  obtain ⟨hz240, hst240⟩ := zero_array (P := Try.prog) (t := 41) (n := 240) ZN (by rw [← hZN]; kernel_rfl) hszN (by rw [← hZN]; kernel_rfl)
  obtain ⟨m, hm⟩ : ∃ m, Hid (ns.length = m) := ⟨_, Lib.hid rfl⟩
  rw [hm.out] at hmx HN
  have hlt' : (k : Int) < m := by rw [← hm.out]; omega
  obtain ⟨rb, ro, rfl, hlm, hrb, hna, hdk⟩ := HN.out.elem hkn
  have HALL := Lib.hid hna.all
  obtain ⟨d, hd⟩ : ∃ d, ns[k] = d := ⟨_, rfl⟩
  rw [hd] at HALL hdk ⊢
  rw [hm.out]
  have HDK := Lib.hid hdk
  have HNT : Hid (∀ u b, Blk u b d.cells.toArray → NdAt u b 0 d) := fun u b hu => nd_at hu.rng HDK.out
  obtain ⟨L, hL⟩ : ∃ L, d.cells = L := ⟨_, rfl⟩
  have hLl : L.length = 240 := by rw [← hL]; exact NdD.len hdk
  have HL1 : Hid (∀ v ∈ L, v.oneCell' = true) := by show ∀ v ∈ L, _; rw [← hL]; exact NdD.one _
  rw [hL] at HALL HNT
  have hiL : (Try.prog.info? 41).map (·.size) = some L.length := by rw [hLl]; kernel_rfl
  have HT0 : Hid (Blk (w.alloc (.cells #[.slice (some ⟨rb, ro, none⟩) m cap] 25)) w.heap.size #[.slice (some ⟨rb, ro, none⟩) m cap]) := Blk.new rfl
  have HBA := Lib.hid ((Below.refl w.heap.size w).alloc (Nat.le_refl _) (.cells #[.slice (some ⟨rb, ro, none⟩) m cap] 25))
  obtain ⟨q, hq⟩ : ∃ q, nodeE ns d k = q := ⟨_, rfl⟩
  rw [hq]
  unfold nodeE at hq
  obtain ⟨xs, hxs⟩ : ∃ xs, Hid (ns.take k = xs) := ⟨_, Lib.hid rfl⟩
  rw [hxs.out] at hq HM
  obtain ⟨fr, hfr⟩ : ∃ z, Hid (findN xs d.b.root = z) := ⟨_, Lib.hid rfl⟩
  obtain ⟨fp, hfp⟩ : ∃ z, Hid (findN xs d.b.parent = z) := ⟨_, Lib.hid rfl⟩
  rw [hfr.out] at hq
  have HLR := Lib.hid (fun u (h : VnS w #[.slice (some ⟨rb, ro, none⟩) m cap] L.toArray mb xs u) => h.m.look (r := d.b.root) hdk.1.2.2.2.1)
  have HLP := Lib.hid (fun u (h : VnS w #[.slice (some ⟨rb, ro, none⟩) m cap] L.toArray mb xs u) => h.m.look (r := d.b.parent) hdk.1.2.2.2.2.1)
  rw [hfr.out] at HLR
  rw [hfp.out] at HLP
  have hiR : (Try.prog.info? 31).map (·.size) = some (bytesL d.b.root).length := by rw [bytesL_len hdk.1.2.2.2.1]; kernel_rfl
  have hiP : (Try.prog.info? 31).map (·.size) = some (bytesL d.b.parent).length := by rw [bytesL_len hdk.1.2.2.2.2.1]; kernel_rfl
  have HRR : Hid (∀ u, VnS w #[.slice (some ⟨rb, ro, none⟩) m cap] L.toArray mb xs u → u.rangeAt (w.heap.size + 1) 67 (bytesL d.b.root)) := fun u h => by have := (HNT.out _ _ h.v.n).bk.root; rw [Nat.zero_add] at this; exact this
  have HRP : Hid (∀ u, VnS w #[.slice (some ⟨rb, ro, none⟩) m cap] L.toArray mb xs u → u.rangeAt (w.heap.size + 1) 99 (bytesL d.b.parent)) := fun u h => by have := (HNT.out _ _ h.v.n).bk.parent; rw [Nat.zero_add] at this; exact this
  obtain ⟨Rr, hRr⟩ : ∃ z, bytesL d.b.root = z := ⟨_, rfl⟩
  obtain ⟨Rp, hRp⟩ : ∃ z, bytesL d.b.parent = z := ⟨_, rfl⟩
  rw [hRr] at HRR HLR hiR
  rw [hRp] at HRP HLP hiP
  obtain ⟨st, hst⟩ : ∃ z, Hid (d.st = z) := ⟨_, Lib.hid rfl⟩
  obtain ⟨up, hup⟩ : ∃ z, Hid (d.up = z) := ⟨_, Lib.hid rfl⟩
  obtain ⟨sl, hsl⟩ : ∃ z, Hid (d.b.slot = z) := ⟨_, Lib.hid rfl⟩
  have HCS : Hid (∀ u, VnS w #[.slice (some ⟨rb, ro, none⟩) m cap] L.toArray mb xs u → u.cell? ⟨w.heap.size + 1, 239, none⟩ = some (.int .i64 st)) := fun u h => by have := (HNT.out _ _ h.v.n).st; rw [Nat.zero_add, hst.out] at this; exact this
  have HCU : Hid (∀ u, VnS w #[.slice (some ⟨rb, ro, none⟩) m cap] L.toArray mb xs u → u.cell? ⟨w.heap.size + 1, 238, none⟩ = some (.int .i64 up)) := fun u h => by have := (HNT.out _ _ h.v.n).up; rw [Nat.zero_add, hup.out] at this; exact this
  have HCL : Hid (∀ u, VnS w #[.slice (some ⟨rb, ro, none⟩) m cap] L.toArray mb xs u → u.cell? ⟨w.heap.size + 1, 66, none⟩ = some (.int .u64 sl)) := fun u h => by have := (HNT.out _ _ h.v.n).bk.slot; rw [Nat.zero_add, hsl.out] at this; exact this
  have HSS := Lib.hid (fun u => cstatus_any st u)
  have HUU := Lib.hid (fun u => cup_any up k u)
  have hbf : badForm d k ↔ ¬ ((0 ≤ st ∧ st ≤ 2) ∧ upOK up k) := by unfold badForm upOK; rw [hst.out, hup.out]; omega
  have HSZ := Lib.hid hszN
  have HMI : Hid ((w.alloc (.cells #[.slice (some ⟨rb, ro, none⟩) m cap] 25)).heap.size = w.heap.size + 1) := by show _ = _; simp
  rw [hup.out, hsl.out] at hq
  have HQ0 := Lib.hid hq
  clear hN hM hD hst240 hZN hlm hna hdk hd hL hRr hRp hq hszN
  by_cases hs : 0 ≤ st ∧ st ≤ 2
  case neg =>
    have HDS : Hid (decide (0 ≤ st ∧ st ≤ 2) = false) := decide_eq_false hs
    have HQ : Hid (2 = q) := by show 2 = q; rw [← HQ0.out, if_pos (hbf.2 fun h => hs h.1)]
    clear hs hbf
    go_enter Try.func42, Try.ntmps42
    go_wp2_with (first
      | ((with_reducible refine at_load (.tmp 12) ?_); refine wpList_load_1 23 (.tmp 12) rfl w.heap.size 0 (.slice (some ⟨rb, ro, none⟩) m cap) (HT0.out.cell 0) rfl _ Try.underlying23 rfl rfl ?_)
      | ((with_reducible refine at_load (.tmp 15) ?_); refine wpList_load_rng 41 (.tmp 15) rfl rb (ro + k * 240) L (Below.rng HBA.out hrb HALL.out) rfl _ Try.underlying41 rfl hiL rfl ?_)
      | ((with_reducible refine at_store (.tmp 7) ?_); refine wpList_store_blk rfl 41 (.tmp 7) _ rfl (w.heap.size + 1) L.toArray rfl rfl ZN (Blk.new (by simp)) (by rw [HSZ.out, List.size_toArray, hLl]) (by simpa using hiL) (fun v hv => HL1.out v (by simpa using hv)) ?_; intro w2 U2 B2; have hb2 := U2.below ((Below.refl (w.alloc (.cells #[.slice (some ⟨rb, ro, none⟩) m cap] 25)).heap.size (w.alloc (.cells #[.slice (some ⟨rb, ro, none⟩) m cap] 25))).alloc (Nat.le_refl _) (.cells ZN 41)) (by simp); have VS2 : Hid (VnS w #[.slice (some ⟨rb, ro, none⟩) m cap] L.toArray mb xs w2) := ⟨⟨HT0.out.call hb2, B2, HBA.out.trans (hb2.mono HBA.out.size)⟩, (HM.out.call HBA.out).call hb2⟩; clear U2 B2 hb2)
      | ((with_reducible refine at_load (.tmp 17) ?_); refine wpList_load_1 3 (.tmp 17) rfl (w.heap.size + 1) 239 (.int .i64 st) (HCS.out _ VS2.out) rfl _ Try.underlying3 rfl rfl ?_)
      | (go_at_call 50; refine (HSS.out _).mono ?_; rintro e w3 ⟨rfl, hb3⟩; rw [HDS.out]; have VS3 := Lib.hid (VS2.out.call hb3); clear hb3))
    go_ret
    exact ⟨by rw [← HQ.out]; rfl, VS3.out.v.b⟩
  have HDS : Hid (decide (0 ≤ st ∧ st ≤ 2) = true) := decide_eq_true hs
  by_cases hu : upOK up k
  case neg =>
    have HDU : Hid (decide (upOK up k) = false) := decide_eq_false hu
    have HQ : Hid (2 = q) := by show 2 = q; rw [← HQ0.out, if_pos (hbf.2 fun h => hu h.2)]
    clear hs hbf hu
    go_enter Try.func42, Try.ntmps42
    go_wp2_with (first
      | ((with_reducible refine at_load (.tmp 12) ?_); refine wpList_load_1 23 (.tmp 12) rfl w.heap.size 0 (.slice (some ⟨rb, ro, none⟩) m cap) (HT0.out.cell 0) rfl _ Try.underlying23 rfl rfl ?_)
      | ((with_reducible refine at_load (.tmp 15) ?_); refine wpList_load_rng 41 (.tmp 15) rfl rb (ro + k * 240) L (Below.rng HBA.out hrb HALL.out) rfl _ Try.underlying41 rfl hiL rfl ?_)
      | ((with_reducible refine at_store (.tmp 7) ?_); refine wpList_store_blk rfl 41 (.tmp 7) _ rfl (w.heap.size + 1) L.toArray rfl rfl ZN (Blk.new (by simp)) (by rw [HSZ.out, List.size_toArray, hLl]) (by simpa using hiL) (fun v hv => HL1.out v (by simpa using hv)) ?_; intro w2 U2 B2; have hb2 := U2.below ((Below.refl (w.alloc (.cells #[.slice (some ⟨rb, ro, none⟩) m cap] 25)).heap.size (w.alloc (.cells #[.slice (some ⟨rb, ro, none⟩) m cap] 25))).alloc (Nat.le_refl _) (.cells ZN 41)) (by simp); have VS2 : Hid (VnS w #[.slice (some ⟨rb, ro, none⟩) m cap] L.toArray mb xs w2) := ⟨⟨HT0.out.call hb2, B2, HBA.out.trans (hb2.mono HBA.out.size)⟩, (HM.out.call HBA.out).call hb2⟩; clear U2 B2 hb2)
      | ((with_reducible refine at_load (.tmp 17) ?_); refine wpList_load_1 3 (.tmp 17) rfl (w.heap.size + 1) 239 (.int .i64 st) (HCS.out _ VS2.out) rfl _ Try.underlying3 rfl rfl ?_)
      | (go_at_call 50; refine (HSS.out _).mono ?_; rintro e w3 ⟨rfl, hb3⟩; rw [HDS.out]; have VS3 := Lib.hid (VS2.out.call hb3); clear hb3)
      | ((with_reducible refine at_load (.tmp 22) ?_); refine wpList_load_1 3 (.tmp 22) rfl (w.heap.size + 1) 238 (.int .i64 up) (HCU.out _ VS3.out) rfl _ Try.underlying3 rfl rfl ?_)
      | (go_at_call 51; refine (HUU.out _).mono ?_; rintro e w4 ⟨rfl, hb4⟩; rw [HDU.out]; have VS4 := Lib.hid (VS3.out.call hb4); clear hb4))
    go_ret
    exact ⟨by rw [← HQ.out]; rfl, VS4.out.v.b⟩
  have HDU : Hid (decide (upOK up k) = true) := decide_eq_true hu
  have HQ1 : Hid ((if 0 ≤ fr then 9 else if 0 < k ∧ d.b.parent ≠ rootAt ns up then 10 else if 0 < k ∧ sl ≤ slotAt ns up then 14 else 0) = q) := by show _ = q; rw [← HQ0.out, if_neg (fun h => hbf.1 h ⟨hs, hu⟩)]
  have HUO := Lib.hid hu
  clear hs hu hbf HQ0
  by_cases hr : 0 ≤ fr
  case pos =>
    have HDR : Hid (decide (0 ≤ fr) = true) := decide_eq_true hr
    have HVR : Hid ((if 0 ≤ fr then fr else 0) = fr) := if_pos hr
    have HQ : Hid (9 = q) := by show 9 = q; rw [← HQ1.out, if_pos hr]
    clear hr
    go_enter Try.func42, Try.ntmps42
    go_wp2_with (first
      | ((with_reducible refine at_load (.tmp 12) ?_); refine wpList_load_1 23 (.tmp 12) rfl w.heap.size 0 (.slice (some ⟨rb, ro, none⟩) m cap) (HT0.out.cell 0) rfl _ Try.underlying23 rfl rfl ?_)
      | ((with_reducible refine at_load (.tmp 15) ?_); refine wpList_load_rng 41 (.tmp 15) rfl rb (ro + k * 240) L (Below.rng HBA.out hrb HALL.out) rfl _ Try.underlying41 rfl hiL rfl ?_)
      | ((with_reducible refine at_store (.tmp 7) ?_); refine wpList_store_blk rfl 41 (.tmp 7) _ rfl (w.heap.size + 1) L.toArray rfl rfl ZN (Blk.new (by simp)) (by rw [HSZ.out, List.size_toArray, hLl]) (by simpa using hiL) (fun v hv => HL1.out v (by simpa using hv)) ?_; intro w2 U2 B2; have hb2 := U2.below ((Below.refl (w.alloc (.cells #[.slice (some ⟨rb, ro, none⟩) m cap] 25)).heap.size (w.alloc (.cells #[.slice (some ⟨rb, ro, none⟩) m cap] 25))).alloc (Nat.le_refl _) (.cells ZN 41)) (by simp); have VS2 : Hid (VnS w #[.slice (some ⟨rb, ro, none⟩) m cap] L.toArray mb xs w2) := ⟨⟨HT0.out.call hb2, B2, HBA.out.trans (hb2.mono HBA.out.size)⟩, (HM.out.call HBA.out).call hb2⟩; clear U2 B2 hb2)
      | ((with_reducible refine at_load (.tmp 17) ?_); refine wpList_load_1 3 (.tmp 17) rfl (w.heap.size + 1) 239 (.int .i64 st) (HCS.out _ VS2.out) rfl _ Try.underlying3 rfl rfl ?_)
      | (go_at_call 50; refine (HSS.out _).mono ?_; rintro e w3 ⟨rfl, hb3⟩; rw [HDS.out]; have VS3 := Lib.hid (VS2.out.call hb3); clear hb3)
      | ((with_reducible refine at_load (.tmp 22) ?_); refine wpList_load_1 3 (.tmp 22) rfl (w.heap.size + 1) 238 (.int .i64 up) (HCU.out _ VS3.out) rfl _ Try.underlying3 rfl rfl ?_)
      | (go_at_call 51; refine (HUU.out _).mono ?_; rintro e w4 ⟨rfl, hb4⟩; rw [HDU.out]; have VS4 := Lib.hid (VS3.out.call hb4); clear hb4)
      | ((with_reducible refine at_load (.tmp 31) ?_); refine wpList_load_rng 31 (.tmp 31) rfl (w.heap.size + 1) 67 Rr (HRR.out _ VS4.out) rfl _ Try.underlying31 rfl hiR rfl ?_)
      | ((with_reducible refine at_mlook (.tmp 29) (.tmp 32) ?_); refine wpList_mlook rfl _ (.tmp 29) (.tmp 32) true rfl _ _ _ rfl rfl (HLR.out _ VS4.out) ?_; rw [HDR.out, HVR.out]))
    go_ret
    exact ⟨by rw [← HQ.out]; rfl, VS4.out.v.b⟩
  have HDR : Hid (decide (0 ≤ fr) = false) := decide_eq_false hr
  have HVR : Hid ((if 0 ≤ fr then fr else 0) = 0) := if_neg hr
  have HQ2 : Hid ((if 0 < k ∧ d.b.parent ≠ rootAt ns up then 10 else if 0 < k ∧ sl ≤ slotAt ns up then 14 else 0) = q) := by show _ = q; rw [← HQ1.out, if_neg hr]
  clear hr HQ1
  by_cases hk0 : k = 0
  case pos =>
    subst hk0
    have HQ : Hid (0 = q) := by show 0 = q; rw [← HQ2.out, if_neg (by omega), if_neg (by omega)]
    go_enter Try.func42, Try.ntmps42
    go_wp2_with (first
      | ((with_reducible refine at_load (.tmp 12) ?_); refine wpList_load_1 23 (.tmp 12) rfl w.heap.size 0 (.slice (some ⟨rb, ro, none⟩) m cap) (HT0.out.cell 0) rfl _ Try.underlying23 rfl rfl ?_)
      | ((with_reducible refine at_load (.tmp 15) ?_); refine wpList_load_rng 41 (.tmp 15) rfl rb ro L (by simpa using Below.rng HBA.out hrb HALL.out) rfl _ Try.underlying41 rfl hiL rfl ?_)
      | ((with_reducible refine at_store (.tmp 7) ?_); refine wpList_store_blk rfl 41 (.tmp 7) _ rfl (w.heap.size + 1) L.toArray rfl rfl ZN (Blk.new (by simp)) (by rw [HSZ.out, List.size_toArray, hLl]) (by simpa using hiL) (fun v hv => HL1.out v (by simpa using hv)) ?_; intro w2 U2 B2; have hb2 := U2.below ((Below.refl (w.alloc (.cells #[.slice (some ⟨rb, ro, none⟩) m cap] 25)).heap.size (w.alloc (.cells #[.slice (some ⟨rb, ro, none⟩) m cap] 25))).alloc (Nat.le_refl _) (.cells ZN 41)) (by simp); have VS2 : Hid (VnS w #[.slice (some ⟨rb, ro, none⟩) m cap] L.toArray mb xs w2) := ⟨⟨HT0.out.call hb2, B2, HBA.out.trans (hb2.mono HBA.out.size)⟩, (HM.out.call HBA.out).call hb2⟩; clear U2 B2 hb2)
      | ((with_reducible refine at_load (.tmp 17) ?_); refine wpList_load_1 3 (.tmp 17) rfl (w.heap.size + 1) 239 (.int .i64 st) (HCS.out _ VS2.out) rfl _ Try.underlying3 rfl rfl ?_)
      | (go_at_call 50; refine (HSS.out _).mono ?_; rintro e w3 ⟨rfl, hb3⟩; rw [HDS.out]; have VS3 := Lib.hid (VS2.out.call hb3); clear hb3)
      | ((with_reducible refine at_load (.tmp 22) ?_); refine wpList_load_1 3 (.tmp 22) rfl (w.heap.size + 1) 238 (.int .i64 up) (HCU.out _ VS3.out) rfl _ Try.underlying3 rfl rfl ?_)
      | (go_at_call 51; refine (HUU.out _).mono ?_; rintro e w4 ⟨rfl, hb4⟩; rw [HDU.out]; have VS4 := Lib.hid (VS3.out.call hb4); clear hb4)
      | ((with_reducible refine at_load (.tmp 31) ?_); refine wpList_load_rng 31 (.tmp 31) rfl (w.heap.size + 1) 67 Rr (HRR.out _ VS4.out) rfl _ Try.underlying31 rfl hiR rfl ?_)
      | ((with_reducible refine at_mlook (.tmp 29) (.tmp 32) ?_); refine wpList_mlook rfl _ (.tmp 29) (.tmp 32) true rfl _ _ _ rfl rfl (HLR.out _ VS4.out) ?_; rw [HDR.out, HVR.out]))
    go_ret
    exact ⟨by rw [← HQ.out]; rfl, VS4.out.v.b⟩
  have hkz : ((k : Int) == 0) = false := by simp; omega
  obtain ⟨u, rfl⟩ : ∃ u : Nat, up = u := ⟨up.toNat, by have := HUO.out; unfold upOK at this; omega⟩
  have huk : u < k := by have := HUO.out; unfold upOK at this; omega
  have hum : u < ns.length := by omega
  have HPI : Hid (fp = (u : Int) ↔ d.b.parent = rootAt ns (u : Int)) := by show _ ↔ _; rw [← hfp.out, ← hxs.out]; exact par_iff hkn HDI.out huk
  have hkp : 0 < k := by omega
  by_cases hp0 : 0 ≤ fp
  case neg =>
    have HDP : Hid (decide (0 ≤ fp) = false) := decide_eq_false hp0
    have HVP : Hid ((if 0 ≤ fp then fp else 0) = 0) := if_neg hp0
    have HQ : Hid (10 = q) := by show 10 = q; rw [← HQ2.out, if_pos ⟨hkp, fun e => hp0 (by have := HPI.out.2 e; omega)⟩]
    clear hp0 hk0
    go_enter Try.func42, Try.ntmps42
    go_wp2_with (first
      | ((with_reducible refine at_load (.tmp 12) ?_); refine wpList_load_1 23 (.tmp 12) rfl w.heap.size 0 (.slice (some ⟨rb, ro, none⟩) m cap) (HT0.out.cell 0) rfl _ Try.underlying23 rfl rfl ?_)
      | ((with_reducible refine at_load (.tmp 15) ?_); refine wpList_load_rng 41 (.tmp 15) rfl rb (ro + k * 240) L (Below.rng HBA.out hrb HALL.out) rfl _ Try.underlying41 rfl hiL rfl ?_)
      | ((with_reducible refine at_store (.tmp 7) ?_); refine wpList_store_blk rfl 41 (.tmp 7) _ rfl (w.heap.size + 1) L.toArray rfl rfl ZN (Blk.new (by simp)) (by rw [HSZ.out, List.size_toArray, hLl]) (by simpa using hiL) (fun v hv => HL1.out v (by simpa using hv)) ?_; intro w2 U2 B2; have hb2 := U2.below ((Below.refl (w.alloc (.cells #[.slice (some ⟨rb, ro, none⟩) m cap] 25)).heap.size (w.alloc (.cells #[.slice (some ⟨rb, ro, none⟩) m cap] 25))).alloc (Nat.le_refl _) (.cells ZN 41)) (by simp); have VS2 : Hid (VnS w #[.slice (some ⟨rb, ro, none⟩) m cap] L.toArray mb xs w2) := ⟨⟨HT0.out.call hb2, B2, HBA.out.trans (hb2.mono HBA.out.size)⟩, (HM.out.call HBA.out).call hb2⟩; clear U2 B2 hb2)
      | ((with_reducible refine at_load (.tmp 17) ?_); refine wpList_load_1 3 (.tmp 17) rfl (w.heap.size + 1) 239 (.int .i64 st) (HCS.out _ VS2.out) rfl _ Try.underlying3 rfl rfl ?_)
      | (go_at_call 50; refine (HSS.out _).mono ?_; rintro e w3 ⟨rfl, hb3⟩; rw [HDS.out]; have VS3 := Lib.hid (VS2.out.call hb3); clear hb3)
      | ((with_reducible refine at_load (.tmp 22) ?_); refine wpList_load_1 3 (.tmp 22) rfl (w.heap.size + 1) 238 (.int .i64 (u : Int)) (HCU.out _ VS3.out) rfl _ Try.underlying3 rfl rfl ?_)
      | (go_at_call 51; refine (HUU.out _).mono ?_; rintro e w4 ⟨rfl, hb4⟩; rw [HDU.out]; have VS4 := Lib.hid (VS3.out.call hb4); clear hb4)
      | ((with_reducible refine at_load (.tmp 31) ?_); refine wpList_load_rng 31 (.tmp 31) rfl (w.heap.size + 1) 67 Rr (HRR.out _ VS4.out) rfl _ Try.underlying31 rfl hiR rfl ?_)
      | ((with_reducible refine at_mlook (.tmp 29) (.tmp 32) ?_); refine wpList_mlook rfl _ (.tmp 29) (.tmp 32) true rfl _ _ _ rfl rfl (HLR.out _ VS4.out) ?_; rw [HDR.out, HVR.out])
      | ((with_reducible refine at_load (.tmp 42) ?_); refine wpList_load_rng 31 (.tmp 42) rfl (w.heap.size + 1) 99 Rp (HRP.out _ VS4.out) rfl _ Try.underlying31 rfl hiP rfl ?_)
      | ((with_reducible refine at_mlook (.tmp 40) (.tmp 43) ?_); refine wpList_mlook rfl _ (.tmp 40) (.tmp 43) true rfl _ _ _ rfl rfl (HLP.out _ VS4.out) ?_; rw [HDP.out, HVP.out]))
    go_ret
    exact ⟨by rw [← HQ.out]; rfl, VS4.out.v.b⟩
  have HDP : Hid (decide (0 ≤ fp) = true) := decide_eq_true hp0
  have HVP : Hid ((if 0 ≤ fp then fp else 0) = fp) := if_pos hp0
  by_cases hpu : fp = (u : Int)
  case neg =>
    have hne : (fp != (u : Int)) = true := by simp [hpu]
    have HQ : Hid (10 = q) := by show 10 = q; rw [← HQ2.out, if_pos ⟨hkp, fun e => hpu (HPI.out.2 e)⟩]
    clear hp0 hk0 hpu
    go_enter Try.func42, Try.ntmps42
    go_wp2_with (first
      | ((with_reducible refine at_load (.tmp 12) ?_); refine wpList_load_1 23 (.tmp 12) rfl w.heap.size 0 (.slice (some ⟨rb, ro, none⟩) m cap) (HT0.out.cell 0) rfl _ Try.underlying23 rfl rfl ?_)
      | ((with_reducible refine at_load (.tmp 15) ?_); refine wpList_load_rng 41 (.tmp 15) rfl rb (ro + k * 240) L (Below.rng HBA.out hrb HALL.out) rfl _ Try.underlying41 rfl hiL rfl ?_)
      | ((with_reducible refine at_store (.tmp 7) ?_); refine wpList_store_blk rfl 41 (.tmp 7) _ rfl (w.heap.size + 1) L.toArray rfl rfl ZN (Blk.new (by simp)) (by rw [HSZ.out, List.size_toArray, hLl]) (by simpa using hiL) (fun v hv => HL1.out v (by simpa using hv)) ?_; intro w2 U2 B2; have hb2 := U2.below ((Below.refl (w.alloc (.cells #[.slice (some ⟨rb, ro, none⟩) m cap] 25)).heap.size (w.alloc (.cells #[.slice (some ⟨rb, ro, none⟩) m cap] 25))).alloc (Nat.le_refl _) (.cells ZN 41)) (by simp); have VS2 : Hid (VnS w #[.slice (some ⟨rb, ro, none⟩) m cap] L.toArray mb xs w2) := ⟨⟨HT0.out.call hb2, B2, HBA.out.trans (hb2.mono HBA.out.size)⟩, (HM.out.call HBA.out).call hb2⟩; clear U2 B2 hb2)
      | ((with_reducible refine at_load (.tmp 17) ?_); refine wpList_load_1 3 (.tmp 17) rfl (w.heap.size + 1) 239 (.int .i64 st) (HCS.out _ VS2.out) rfl _ Try.underlying3 rfl rfl ?_)
      | (go_at_call 50; refine (HSS.out _).mono ?_; rintro e w3 ⟨rfl, hb3⟩; rw [HDS.out]; have VS3 := Lib.hid (VS2.out.call hb3); clear hb3)
      | ((with_reducible refine at_load (.tmp 22) ?_); refine wpList_load_1 3 (.tmp 22) rfl (w.heap.size + 1) 238 (.int .i64 (u : Int)) (HCU.out _ VS3.out) rfl _ Try.underlying3 rfl rfl ?_)
      | (go_at_call 51; refine (HUU.out _).mono ?_; rintro e w4 ⟨rfl, hb4⟩; rw [HDU.out]; have VS4 := Lib.hid (VS3.out.call hb4); clear hb4)
      | ((with_reducible refine at_load (.tmp 31) ?_); refine wpList_load_rng 31 (.tmp 31) rfl (w.heap.size + 1) 67 Rr (HRR.out _ VS4.out) rfl _ Try.underlying31 rfl hiR rfl ?_)
      | ((with_reducible refine at_mlook (.tmp 29) (.tmp 32) ?_); refine wpList_mlook rfl _ (.tmp 29) (.tmp 32) true rfl _ _ _ rfl rfl (HLR.out _ VS4.out) ?_; rw [HDR.out, HVR.out])
      | ((with_reducible refine at_load (.tmp 42) ?_); refine wpList_load_rng 31 (.tmp 42) rfl (w.heap.size + 1) 99 Rp (HRP.out _ VS4.out) rfl _ Try.underlying31 rfl hiP rfl ?_)
      | ((with_reducible refine at_mlook (.tmp 40) (.tmp 43) ?_); refine wpList_mlook rfl _ (.tmp 40) (.tmp 43) true rfl _ _ _ rfl rfl (HLP.out _ VS4.out) ?_; rw [HDP.out, HVP.out])
      | ((with_reducible refine at_load (.tmp 51) ?_); refine wpList_load_1 3 (.tmp 51) rfl (w.heap.size + 1) 238 (.int .i64 (u : Int)) (HCU.out _ VS4.out) rfl _ Try.underlying3 rfl rfl ?_))
    go_ret
    exact ⟨by rw [← HQ.out]; rfl, VS4.out.v.b⟩
  have hne : (fp != (u : Int)) = false := by simp [hpu]
  have HQ3 : Hid ((if 0 < k ∧ sl ≤ slotAt ns (u : Int) then 14 else 0) = q) := by show _ = q; rw [← HQ2.out, if_neg (show ¬ (0 < k ∧ d.b.parent ≠ rootAt ns (u : Int)) from fun h => h.2 (HPI.out.1 hpu))]
  obtain ⟨rb2, ro2, he2, hlm2, hrb2, hna2, hdk2⟩ := HN.out.elem hum
  cases he2
  have hsa : slotAt ns (u : Int) = ns[u].b.slot := by simp [slotAt, List.getElem?_eq_getElem hum]
  have HSU := Lib.hid hna2.bk.slot
  obtain ⟨s1, hs1⟩ : ∃ z, ns[u].b.slot = z := ⟨_, rfl⟩
  rw [hs1] at HSU hsa
  obtain ⟨qs, hqs⟩ : ∃ z : Bool, decide (sl ≤ s1) = z := ⟨_, rfl⟩
  have HQS : Hid (qs = true ↔ sl ≤ s1) := by show _ ↔ _; rw [← hqs]; exact decide_eq_true_iff
  have hum' : (u : Int) < m := by rw [← hm.out]; omega
  rw [hsa] at HQ3
  clear hna2 hdk2 hsa hs1 hlm2 hp0 hk0 hpu
  go_enter Try.func42, Try.ntmps42
  go_wp2_with (first
    | ((with_reducible refine at_load (.tmp 12) ?_); refine wpList_load_1 23 (.tmp 12) rfl w.heap.size 0 (.slice (some ⟨rb, ro, none⟩) m cap) (HT0.out.cell 0) rfl _ Try.underlying23 rfl rfl ?_)
    | ((with_reducible refine at_load (.tmp 15) ?_); refine wpList_load_rng 41 (.tmp 15) rfl rb (ro + k * 240) L (Below.rng HBA.out hrb HALL.out) rfl _ Try.underlying41 rfl hiL rfl ?_)
    | ((with_reducible refine at_store (.tmp 7) ?_); refine wpList_store_blk rfl 41 (.tmp 7) _ rfl (w.heap.size + 1) L.toArray rfl rfl ZN (Blk.new (by simp)) (by rw [HSZ.out, List.size_toArray, hLl]) (by simpa using hiL) (fun v hv => HL1.out v (by simpa using hv)) ?_; intro w2 U2 B2; have hb2 := U2.below ((Below.refl (w.alloc (.cells #[.slice (some ⟨rb, ro, none⟩) m cap] 25)).heap.size (w.alloc (.cells #[.slice (some ⟨rb, ro, none⟩) m cap] 25))).alloc (Nat.le_refl _) (.cells ZN 41)) (by simp); have VS2 : Hid (VnS w #[.slice (some ⟨rb, ro, none⟩) m cap] L.toArray mb xs w2) := ⟨⟨HT0.out.call hb2, B2, HBA.out.trans (hb2.mono HBA.out.size)⟩, (HM.out.call HBA.out).call hb2⟩; clear U2 B2 hb2)
    | ((with_reducible refine at_load (.tmp 17) ?_); refine wpList_load_1 3 (.tmp 17) rfl (w.heap.size + 1) 239 (.int .i64 st) (HCS.out _ VS2.out) rfl _ Try.underlying3 rfl rfl ?_)
    | (go_at_call 50; refine (HSS.out _).mono ?_; rintro e w3 ⟨rfl, hb3⟩; rw [HDS.out]; have VS3 := Lib.hid (VS2.out.call hb3); clear hb3)
    | ((with_reducible refine at_load (.tmp 22) ?_); refine wpList_load_1 3 (.tmp 22) rfl (w.heap.size + 1) 238 (.int .i64 (u : Int)) (HCU.out _ VS3.out) rfl _ Try.underlying3 rfl rfl ?_)
    | (go_at_call 51; refine (HUU.out _).mono ?_; rintro e w4 ⟨rfl, hb4⟩; rw [HDU.out]; have VS4 := Lib.hid (VS3.out.call hb4); clear hb4)
    | ((with_reducible refine at_load (.tmp 31) ?_); refine wpList_load_rng 31 (.tmp 31) rfl (w.heap.size + 1) 67 Rr (HRR.out _ VS4.out) rfl _ Try.underlying31 rfl hiR rfl ?_)
    | ((with_reducible refine at_mlook (.tmp 29) (.tmp 32) ?_); refine wpList_mlook rfl _ (.tmp 29) (.tmp 32) true rfl _ _ _ rfl rfl (HLR.out _ VS4.out) ?_; rw [HDR.out, HVR.out])
    | ((with_reducible refine at_load (.tmp 42) ?_); refine wpList_load_rng 31 (.tmp 42) rfl (w.heap.size + 1) 99 Rp (HRP.out _ VS4.out) rfl _ Try.underlying31 rfl hiP rfl ?_)
    | ((with_reducible refine at_mlook (.tmp 40) (.tmp 43) ?_); refine wpList_mlook rfl _ (.tmp 40) (.tmp 43) true rfl _ _ _ rfl rfl (HLP.out _ VS4.out) ?_; rw [HDP.out, HVP.out])
    | ((with_reducible refine at_load (.tmp 51) ?_); refine wpList_load_1 3 (.tmp 51) rfl (w.heap.size + 1) 238 (.int .i64 (u : Int)) (HCU.out _ VS4.out) rfl _ Try.underlying3 rfl rfl ?_))
  refine wp_region_fam2 (by kernel_rfl) (by kernel_rfl) ?_
  intro T F hT hF hG
  have c0 : ∀ t, (F t).cell? ⟨w.heap.size, 0, none⟩ = some (.slice (some ⟨rb, ro, none⟩) m cap) := fun t => (VS4.out.call (hF t)).v.t.cell 0
  have c1 : ∀ t, (F t).cell? ⟨w.heap.size + 1, 238, none⟩ = some (.int .i64 (u : Int)) := fun t => HCU.out _ (VS4.out.call (hF t))
  have c2 : ∀ t, (F t).cell? ⟨w.heap.size + 1, 66, none⟩ = some (.int .u64 sl) := fun t => HCL.out _ (VS4.out.call (hF t))
  have c3 : ∀ t, (F t).cell? ⟨rb, ro + u * 240 + 66, none⟩ = some (.int .u64 s1) := fun t => ((VS4.out.call (hF t)).v.b.cell (p := ⟨rb, ro + u * 240 + 66, none⟩) hrb2).trans HSU.out
  repeat (go_big_quiet_step (fail))
  refine wpQuiet_nil ?_
  rintro _ ⟨t, rfl⟩
  have VS5 := Lib.hid (VS4.out.call (hF t))
  obtain ⟨w5, hw5⟩ : ∃ u, F t = u := ⟨_, rfl⟩
  rw [hw5] at VS5 ⊢
  clear c0 c1 c2 c3 hG hw5 hF hT hqs
  clear t F T
  cases qs
  case true =>
    have HQ : Hid (14 = q) := by show 14 = q; rw [← HQ3.out, if_pos ⟨hkp, HQS.out.1 rfl⟩]
    go_wp2_with fail
    go_ret
    exact ⟨by rw [← HQ.out]; rfl, VS5.out.v.b⟩
  case false =>
    have HQ : Hid (0 = q) := by show 0 = q; rw [← HQ3.out, if_neg (fun h => by have := HQS.out.2 h.2; cases this)]
    go_wp2_with fail
    go_ret
    exact ⟨by rw [← HQ.out]; rfl, VS5.out.v.b⟩
end

/-! BtW -/
section
set_option linter.unusedVariables false
set_option linter.unusedSimpArgs false
open Go.RowKit

set_option maxRecDepth 100000

structure BvS (w : World) (T : Array Value) (xs : List NdD) (u : World) : Prop where
  p : PaS w T u
  m : MpN u (w.heap.size + 1) xs

theorem BvS.call {w u u' : World} {T : Array Value} {xs : List NdD} (h : BvS w T xs u) (hb : Below u.heap.size u u') : BvS w T xs u' := ⟨h.p.call hb, h.m.call hb⟩

def BvI (w : World) (T : Array Value) (ns : List NdD) (m : Nat) (q : Int) (i : Value) (wr : World) : Prop :=
  ∃ k : Nat, k ≤ m ∧ i = .int .i64 k ∧ vtGo ns (ns.length - k) k = q ∧ BvS w T (ns.take k) wr ∧ DisN (ns.take k)

set_option maxHeartbeats 16000000 in
theorem cvtree_any (v : Value) (ns : List NdD) (w : World) (hN : NodesV w v ns) :
    Calls Try.prog 28 #[.agg #[v]] w fun e w' => e = .returned (.int .i64 (vtE ns)) ∧ Below w.heap.size w w' := by
  obtain ⟨a, cap, rfl, hmx⟩ := hN.shape
  unfold maxLen at hmx
  have HN := Lib.hid hN
  have hi1 : (Try.prog.info? 25).map (·.size) = some 1 := by kernel_rfl
  obtain ⟨ZN, hZN⟩ : ∃ Z, flatP (zeBkP ++ [[.int .i64 0], [.int .i64 0]]) = Z := ⟨_, rfl⟩
  have hszN : ZN.size = 240 := by rw [← hZN]; rfl
  obtain ⟨hz240, hst240⟩ := zero_array (P := Try.prog) (t := 41) (n := 240) ZN (by rw [← hZN]; kernel_rfl) hszN (by rw [← hZN]; kernel_rfl)
  have HSZ := Lib.hid hszN
  obtain ⟨q, hq⟩ : ∃ q, vtE ns = q := ⟨_, rfl⟩
  rw [hq]
  unfold vtE at hq
  obtain ⟨m, hm⟩ : ∃ m, Hid (ns.length = m) := ⟨_, Lib.hid rfl⟩
  rw [hm.out] at hmx HN hq ⊢
  have S0 := Lib.hid (pas_new w #[.slice a m cap] 25)
  clear hN hst240 hZN hszN
  by_cases h0 : m = 0
  · subst h0
    rw [if_pos (.inl rfl)] at hq
    have HQ := Lib.hid hq
    clear hq
    go_enter Try.func28, Try.ntmps28
    go_wp2_with (first
      | ((with_reducible refine at_load (.tmp 7) ?_); refine wpList_load_1 23 (.tmp 7) rfl w.heap.size 0 (.slice a 0 cap) (S0.out.t.cell 0) rfl _ Try.underlying23 rfl rfl ?_))
    go_ret
    exact ⟨by rw [← HQ.out]; rfl, S0.out.b⟩
  have hz : ((m : Int) == 0) = false := by simp; omega
  by_cases hbig : 4096 < m
  · rw [if_pos (.inr hbig)] at hq
    have HQ := Lib.hid hq
    have hbig' : (4096 : Int) < m := by omega
    clear hq h0
    go_enter Try.func28, Try.ntmps28
    go_wp2_with (first
      | ((with_reducible refine at_load (.tmp 7) ?_); refine wpList_load_1 23 (.tmp 7) rfl w.heap.size 0 (.slice a m cap) (S0.out.t.cell 0) rfl _ Try.underlying23 rfl rfl ?_)
      | ((with_reducible refine at_load (.tmp 12) ?_); refine wpList_load_1 23 (.tmp 12) rfl w.heap.size 0 (.slice a m cap) (S0.out.t.cell 0) rfl _ Try.underlying23 rfl rfl ?_))
    go_ret
    exact ⟨by rw [← HQ.out]; rfl, S0.out.b⟩
  rw [if_neg (by omega)] at hq
  have HQ0 := Lib.hid hq
  have hbig' : ((4096 : Int) < m) = False := eq_false (by omega)
  clear hq h0
  have S1 : Hid (BvS w #[.slice a m cap] [] ((w.alloc (.cells #[.slice a m cap] 25)).alloc (.map #[] 0))) := by
    refine ⟨S0.out.call ((Below.refl _ _).alloc (Nat.le_refl _) _), ?_⟩
    have h := MpN.made (w.alloc (.cells #[.slice a m cap] 25))
    have e : (w.alloc (.cells #[.slice a m cap] 25)).heap.size = w.heap.size + 1 := by simp
    rw [e] at h
    exact h
  have HMU := Lib.hid und_mpi
  go_enter Try.func28, Try.ntmps28
  go_wp2_with (first
    | ((with_reducible refine at_load (.tmp 7) ?_); refine wpList_load_1 23 (.tmp 7) rfl w.heap.size 0 (.slice a m cap) (S0.out.t.cell 0) rfl _ Try.underlying23 rfl rfl ?_)
    | ((with_reducible refine at_load (.tmp 12) ?_); refine wpList_load_1 23 (.tmp 12) rfl w.heap.size 0 (.slice a m cap) (S0.out.t.cell 0) rfl _ Try.underlying23 rfl rfl ?_)
    | ((with_reducible refine at_load (.tmp 17) ?_); refine wpList_load_1 23 (.tmp 17) rfl w.heap.size 0 (.slice a m cap) (S0.out.t.cell 0) rfl _ Try.underlying23 rfl rfl ?_)
    | ((with_reducible refine at_load (.tmp 21) ?_); refine wpList_load_1 23 (.tmp 21) rfl w.heap.size 0 (.slice a m cap) (S1.out.p.t.cell 0) rfl _ Try.underlying23 rfl rfl ?_)
    | ((with_reducible refine at_mmake (some (.tmp 19)) ?_); refine wpList_mmake rfl _ _ _ (.tmp 19) rfl HMU.out .i64 (m : Int) rfl ?_))
  go_loopw [24] (fun i wr => BvI w #[.slice a m cap] ns m q i wr) (fun i _ => m - (intOf i).toNat)
  case atStart => exact ⟨0, Nat.zero_le _, rfl, by rw [hm.out]; exact HQ0.out, S1.out, List.Pairwise.nil⟩
  case round =>
    obtain ⟨k, hk, rfl, hgo, hs, hdi⟩ := hrel
    have HGO := Lib.hid hgo
    have S2 := Lib.hid hs
    have HDI := Lib.hid hdi
    clear hgo hs hdi
    by_cases hlt : k < m
    case neg =>
      obtain rfl : k = m := by omega
      have HQV : Hid (0 = q) := by show 0 = q; rw [← HGO.out, hm.out, Nat.sub_self]; rfl
      go_wp2_with fail
      go_ret
      exact ⟨by rw [← HQV.out]; rfl, S2.out.p.b⟩
    have hlt' : (k : Int) < m := by omega
    have hkn : k < ns.length := by rw [hm.out]; exact hlt
    have hstep := vtGo_step hkn
    have HVN := Lib.hid (fun u (hu : BvS w #[.slice a m cap] (ns.take k) u) => vnode_any (.slice a m cap) ns k (w.heap.size + 1) u (HN.out.call hu.p.b) hkn hu.m HDI.out)
    have HTK := Lib.hid (List.take_succ_eq_append_getElem hkn)
    have HTL : Hid ((ns.take k).length = k) := by show _ = _; rw [List.length_take]; omega
    obtain ⟨rb, ro, rfl, hlm, hrb, hna, hdk⟩ := HN.out.elem hkn
    have HALL := Lib.hid hna.all
    obtain ⟨d, hd⟩ : ∃ d, ns[k] = d := ⟨_, rfl⟩
    rw [hd] at HALL hdk hstep HVN HTK
    have HDK := Lib.hid hdk
    have HNT : Hid (∀ u b, Blk u b d.cells.toArray → NdAt u b 0 d) := fun u b hu => nd_at hu.rng HDK.out
    obtain ⟨L, hL⟩ : ∃ L, d.cells = L := ⟨_, rfl⟩
    have hLl : L.length = 240 := by rw [← hL]; exact NdD.len hdk
    have HL1 : Hid (∀ v ∈ L, v.oneCell' = true) := by show ∀ v ∈ L, _; rw [← hL]; exact NdD.one _
    rw [hL] at HALL HNT
    have hiL : (Try.prog.info? 41).map (·.size) = some L.length := by rw [hLl]; kernel_rfl
    have hiR : (Try.prog.info? 31).map (·.size) = some (bytesL d.b.root).length := by rw [bytesL_len hdk.1.2.2.2.1]; kernel_rfl
    have HSTEP := Lib.hid hstep
    obtain ⟨ev, hev⟩ : ∃ z, nodeE ns d k = z := ⟨_, rfl⟩
    have HEV := Lib.hid hev
    rw [hev] at HVN HSTEP
    clear hlm hna hdk hd hL hstep hev
    by_cases he : ev = 0
    case neg =>
      have hne : (ev != 0) = true := by simpa using he
      have HQ : Hid (ev = q) := by show ev = q; rw [← HGO.out, HSTEP.out, if_neg he]
      clear he
      go_wp2_with (first
        | ((with_reducible refine at_load (.tmp 27) ?_); refine wpList_load_rng 41 (.tmp 27) rfl rb (ro + k * 240) L (Below.rng S2.out.p.b hrb HALL.out) rfl _ Try.underlying41 rfl hiL rfl ?_)
        | ((with_reducible refine at_store (.tmp 5) ?_); refine wpList_store_blk rfl 41 (.tmp 5) _ rfl wr.heap.size L.toArray rfl rfl ZN (Blk.new rfl) (by rw [HSZ.out, List.size_toArray, hLl]) (by simpa using hiL) (fun v hv => HL1.out v (by simpa using hv)) ?_; intro w2 U2 B2; have hb2 := U2.below ((Below.refl wr.heap.size wr).alloc (Nat.le_refl _) (.cells ZN 41)) (Nat.le_refl _); have S3 := Lib.hid (S2.out.call hb2); have BL3 := Lib.hid B2; clear U2 B2 hb2)
        | ((with_reducible refine at_load (.tmp 1) ?_); refine wpList_load_g 25 (.tmp 1) rfl w.heap.size rfl #[.slice (some ⟨rb, ro, none⟩) m cap] _ S3.out.p.t Try.underlying25 rfl hi1 rfl ?_)
        | (go_at_call 42; refine (HVN.out _ S3.out).mono ?_; rintro e w3 ⟨rfl, hb3⟩; have S4 := Lib.hid (S3.out.call hb3); have BL4 := Lib.hid (BL3.out.call hb3); clear hb3))
      go_ret
      exact ⟨by rw [← HQ.out]; rfl, S4.out.p.b⟩
    subst he
    have hne : ((0 : Int) != 0) = false := by simp
    have HNX : Hid (vtGo ns (ns.length - (k + 1)) (k + 1) = q) := by show _ = q; rw [← HGO.out, HSTEP.out, if_pos rfl]
    have HNF : Hid (¬ 0 ≤ findN (ns.take k) d.b.root) := fun h => by
      have e := HEV.out
      unfold nodeE at e
      by_cases hb : badForm d k
      · rw [if_pos hb] at e; cases e
      · rw [if_neg hb, if_pos h] at e; cases e
    have HDN : Hid (DisN (ns.take (k + 1))) := by show DisN _; rw [HTK.out]; exact HDI.out.snoc HNF.out
    go_wp2_with (first
      | ((with_reducible refine at_load (.tmp 27) ?_); refine wpList_load_rng 41 (.tmp 27) rfl rb (ro + k * 240) L (Below.rng S2.out.p.b hrb HALL.out) rfl _ Try.underlying41 rfl hiL rfl ?_)
      | ((with_reducible refine at_store (.tmp 5) ?_); refine wpList_store_blk rfl 41 (.tmp 5) _ rfl wr.heap.size L.toArray rfl rfl ZN (Blk.new rfl) (by rw [HSZ.out, List.size_toArray, hLl]) (by simpa using hiL) (fun v hv => HL1.out v (by simpa using hv)) ?_; intro w2 U2 B2; have hb2 := U2.below ((Below.refl wr.heap.size wr).alloc (Nat.le_refl _) (.cells ZN 41)) (Nat.le_refl _); have S3 := Lib.hid (S2.out.call hb2); have BL3 := Lib.hid B2; clear U2 B2 hb2)
      | ((with_reducible refine at_load (.tmp 1) ?_); refine wpList_load_g 25 (.tmp 1) rfl w.heap.size rfl #[.slice (some ⟨rb, ro, none⟩) m cap] _ S3.out.p.t Try.underlying25 rfl hi1 rfl ?_)
      | (go_at_call 42; refine (HVN.out _ S3.out).mono ?_; rintro e w3 ⟨rfl, hb3⟩; have S4 := Lib.hid (S3.out.call hb3); have BL4 := Lib.hid (BL3.out.call hb3); clear hb3)
      | ((with_reducible refine at_load (.tmp 38) ?_); refine wpList_load_rng 31 (.tmp 38) rfl wr.heap.size 67 (bytesL d.b.root) (by have := (HNT.out _ _ BL4.out).bk.root; rw [Nat.zero_add] at this; exact this) rfl _ Try.underlying31 rfl hiR rfl ?_)
      | ((with_reducible refine at_mput (.tmp 36) (.tmp 39) (.tmp 40) ?_); obtain ⟨w5, hr5, hm5, hg5⟩ := S4.out.m.put (d := d) HDK.out.1.2.2.2.1 (by have := HNF.out; omega) (by rw [HTL.out]; omega); rw [HTL.out] at hr5; refine wpList_mput rfl _ (.tmp 36) (.tmp 39) (.tmp 40) rfl _ _ _ rfl rfl rfl hr5 ?_; rw [← HTK.out] at hm5; have S5 : Hid (BvS w #[.slice (some ⟨rb, ro, none⟩) m cap] (ns.take (k + 1)) w5) := ⟨S4.out.p.grown hg5 (fun j hj => by cases hj; omega), hm5⟩; clear hm5 hg5 hr5))
    go_roundw
    case rel => exact ⟨k + 1, by omega, by go_num, HNX.out, S5.out, HDN.out⟩
    case measure => simp [intOf]; omega
end

/-! SuD -/
section
set_option linter.unusedVariables false
set_option linter.unusedSimpArgs false
open Go.RowKit

set_option maxRecDepth 100000

set_option maxHeartbeats 8000000 in
theorem cclo_any (v : Value) (ns : List NdD) (w : World) (hN : NodesV w v ns) (hcap : CapOK v) :
    Calls Try.prog 10 #[.agg #[v]] w fun e w' => e = .returned (.int .i64 (cloN ns)) ∧ Below w.heap.size w w' := by
  have HVT := Lib.hid (fun u (hu : Below w.heap.size w u) => cvtree_any v ns u (hN.call hu))
  obtain ⟨a, cap, rfl, hmx⟩ := hN.shape
  unfold maxLen at hmx
  have HCP := Lib.hid (hcap _ _ _ rfl)
  have HN := Lib.hid hN
  have hi1 : (Try.prog.info? 25).map (·.size) = some 1 := by kernel_rfl
  obtain ⟨ZN, hZN⟩ : ∃ Z, flatP (zeBkP ++ [[.int .i64 0], [.int .i64 0]]) = Z := ⟨_, rfl⟩
  have hszN : ZN.size = 240 := by rw [← hZN]; rfl
  obtain ⟨hz240, hst240⟩ := zero_array (P := Try.prog) (t := 41) (n := 240) ZN (by rw [← hZN]; kernel_rfl) hszN (by rw [← hZN]; kernel_rfl)
  have HSZ := Lib.hid hszN
  have HVL := Lib.hid (vtE_len (ns := ns))
  have HVU := Lib.hid (fun h => @vtE_up ns h)
  obtain ⟨q, hq⟩ : ∃ q, Hid (cloN ns = q) := ⟨_, Lib.hid rfl⟩
  rw [hq.out]
  have HQ : Hid (q = if vtE ns = 0 then clGo ns (ns.length - 1) 1 else vtE ns) := hq.out.symm
  obtain ⟨ve, hve⟩ : ∃ ve, vtE ns = ve := ⟨_, rfl⟩
  rw [hve] at HVT HVL HVU HQ
  obtain ⟨m, hm⟩ : ∃ m, Hid (ns.length = m) := ⟨_, Lib.hid rfl⟩
  rw [hm.out] at hmx HN HVT HVL HQ HCP ⊢
  have S0 := Lib.hid (pas_new w #[.slice a m cap] 25)
  clear hN hcap hve hst240 hZN hszN
  by_cases h0 : ve = 0
  case neg =>
    have HR : Hid (q = ve) := by show _ = _; rw [HQ.out, if_neg h0]
    have hve0 : (ve != 0) = true := by simpa using h0
    clear h0
    go_enter Try.func10, Try.ntmps10
    go_wp2_with (first
      | ((with_reducible refine at_load (.tmp 1) ?_); refine wpList_load_g 25 (.tmp 1) rfl w.heap.size rfl #[.slice a m cap] _ S0.out.t Try.underlying25 rfl hi1 rfl ?_)
      | (go_at_call 28; refine (HVT.out _ S0.out.b).mono ?_; rintro e w1 ⟨rfl, hb1⟩; have S1 := Lib.hid (S0.out.call hb1); clear hb1))
    go_ret
    exact ⟨by rw [HR.out]; rfl, S1.out.b⟩
  subst h0
  have HR : Hid (clGo ns (m - 1) 1 = q) := by show _ = _; rw [HQ.out, if_pos rfl]
  have hm0 := (HVL.out rfl).1
  have hm1 := (HVL.out rfl).2
  have hm0' : (1 : Int) ≤ m := by omega
  obtain ⟨M, HM⟩ : ∃ M, Hid (m = M + 1) := ⟨m - 1, Lib.hid (by omega)⟩
  obtain ⟨ta, hta⟩ : ∃ ta, (if cap = 1 then a else a.map (·.add (1 * 240))) = ta := ⟨_, rfl⟩
  have hsl : ∀ u, (Instr.sliceAt 23 (.slice a m cap) (some (.int .i64 1)) none none).run Try.prog u = .ok (.slice ta M (cap - 1)) u := fun u => by
    have h := runSlLo (t := 23) (e := 41) (sz := 240) Try.underlying23 (by kernel_rfl) (fun w => Try.sizeOf41 w) a m cap 1 (by omega) u
    rw [hta, show m - 1 = M by have := HM.out; omega] at h
    exact h
  have HTA : Hid (∀ b off, a = some ⟨b, off, none⟩ → 1 < m → ta = some ⟨b, off + 240, none⟩) := fun b off e h1 => by
    rw [← hta, if_neg (by have := HCP.out; omega), e]; rfl
  have HML : Hid (M ≤ 4096) := by have := HM.out; show M ≤ _; omega
  clear hta
  go_enter Try.func10, Try.ntmps10
  go_wp2_with (first
    | ((with_reducible refine at_load (.tmp 1) ?_); refine wpList_load_g 25 (.tmp 1) rfl w.heap.size rfl #[.slice a m cap] _ S0.out.t Try.underlying25 rfl hi1 rfl ?_)
    | (go_at_call 28; refine (HVT.out _ S0.out.b).mono ?_; rintro e w1 ⟨rfl, hb1⟩; have S1 := Lib.hid (S0.out.call hb1); clear hb1)
    | ((with_reducible refine at_load (.tmp 11) ?_); refine wpList_load_1 23 (.tmp 11) rfl w.heap.size 0 (.slice a m cap) (S1.out.t.cell 0) rfl _ Try.underlying23 rfl rfl ?_))
  clear hsl
  go_loopw [15] (fun i wr => ∃ k : Nat, k ≤ M ∧ i = .int .i64 k ∧ clGo ns (M - k) (k + 1) = q ∧ PaS w #[.slice a m cap] wr) (fun i _ => M - (intOf i).toNat)
  case atStart => exact ⟨0, Nat.zero_le _, rfl, by rw [Nat.sub_zero, ← HR.out, show m - 1 = M by have := HM.out; omega], S1.out⟩
  case round =>
    obtain ⟨k, hk, rfl, hgo, hs⟩ := hrel
    have S2 := Lib.hid hs
    have HGO := Lib.hid hgo
    have hMl := HML.out
    clear hs hgo
    by_cases hlt : k < M
    case neg =>
      obtain rfl : k = M := by omega
      have HV : Hid (q = 0) := by show _ = _; rw [← HGO.out, Nat.sub_self]; rfl
      go_wp2_with fail
      go_ret
      exact ⟨by rw [HV.out]; rfl, S2.out.b⟩
    have hlt' : (k : Int) < M := by omega
    have hkn : k + 1 < ns.length := by rw [hm.out]; have := HM.out; omega
    obtain ⟨u1, u2⟩ := HVU.out (by trivial) hkn (by omega)
    obtain ⟨j, hj⟩ : ∃ j : Nat, ns[k + 1].up = j := ⟨ns[k + 1].up.toNat, by omega⟩
    have hjk : j < k + 1 := by omega
    have hjn : j < ns.length := by omega
    have hjm : j < m := by rw [← hm.out]; exact hjn
    have hjm' : (j : Int) < m := by omega
    have HSTEP : Hid ((if badC ns[k + 1].st ns[j].st then 15 else clGo ns (M - (k + 1)) (k + 2)) = q) := by
      show _ = _
      rw [← HGO.out, show M - k = (M - (k + 1)) + 1 by omega]
      show _ = (if badC (stI ns (k + 1)) (stI ns (upI ns (k + 1)).toNat) then 15 else clGo ns (M - (k + 1)) (k + 2))
      rw [stI_at hkn, upI_at hkn, hj, show ((j : Int)).toNat = j from rfl, stI_at hjn]
    obtain ⟨b, off, rfl, hlm, hbb, hna, hdk⟩ := HN.out.elem hkn
    obtain ⟨b', off', e', hl9, hb9, hnb, ho9⟩ := HN.out.elem hjn
    cases e'
    have ht := HTA.out b off rfl (by have := HM.out; omega)
    subst ht
    have HALL := hna.all
    rw [show off + (k + 1) * 240 = off + 240 + k * 240 by omega] at HALL
    have HRG := Lib.hid HALL
    have HSU := Lib.hid hnb.st
    obtain ⟨d, hd⟩ : ∃ d, ns[k + 1] = d := ⟨_, rfl⟩
    rw [hd] at HRG HALL hdk HSTEP hj
    have HNT : Hid (∀ u b, Blk u b d.cells.toArray → NdAt u b 0 d) := fun u b hu => nd_at hu.rng hdk
    obtain ⟨L, hL⟩ : ∃ L, d.cells = L := ⟨_, rfl⟩
    have hLl : L.length = 240 := by rw [← hL]; exact NdD.len hdk
    have HL1 : Hid (∀ v ∈ L, v.oneCell' = true) := by show ∀ v ∈ L, _; rw [← hL]; exact NdD.one _
    rw [hL] at HRG HNT
    have hiL : (Try.prog.info? 41).map (·.size) = some L.length := by rw [hLl]; kernel_rfl
    have HLL := Lib.hid hLl
    obtain ⟨s, hs⟩ : ∃ s, d.st = s := ⟨_, rfl⟩
    obtain ⟨p, hp⟩ : ∃ p, ns[j].st = p := ⟨_, rfl⟩
    have HNS : Hid (∀ u b, Blk u b L.toArray → u.cell? ⟨b, 239, none⟩ = some (.int .i64 s) ∧ u.cell? ⟨b, 238, none⟩ = some (.int .i64 (j : Int))) := fun u b hu => by
      have h := HNT.out u b hu
      have h1 := h.st
      have h2 := h.up
      rw [Nat.zero_add] at h1 h2
      rw [hs] at h1
      rw [hj] at h2
      exact ⟨h1, h2⟩
    rw [hs] at HSTEP
    rw [hp] at HSTEP HSU
    clear hlm hna hnb hs hp hj u1 u2 HGO hl9 ho9 HALL hdk hd hL hLl HNT
    go_upto_region 7 with (first
      | ((with_reducible refine at_load (.tmp 17) ?_); refine wpList_load_rng 41 (.tmp 17) rfl b (off + 240 + k * 240) L (Below.rng S2.out.b hbb HRG.out) rfl _ Try.underlying41 rfl hiL rfl ?_)
      | ((with_reducible refine at_store (.tmp 5) ?_); refine wpList_store_blk rfl 41 (.tmp 5) _ rfl wr.heap.size L.toArray rfl rfl ZN (Blk.new rfl) (by rw [HSZ.out, List.size_toArray, HLL.out]) (by simpa using hiL) (fun v hv => HL1.out v (by simpa using hv)) ?_; intro w2 U2 B2; have hb2 := U2.below ((Below.refl wr.heap.size wr).alloc (Nat.le_refl _) (.cells ZN 41)) (Nat.le_refl _); have S3 := Lib.hid (S2.out.call hb2); have BL3 := Lib.hid B2; clear U2 B2 hb2))
    obtain ⟨bn, hbn⟩ : ∃ x, wr.heap.size = x := ⟨_, rfl⟩
    rw [hbn] at BL3 ⊢
    clear hbn
    (try simp only [Act.put])
    by_cases hb : badC s p
    · have HMF : Hid (∀ u, Calls Try.prog 29 #[.int .i64 s, .int .i64 p] u fun e w' => e = .returned (.bool false) ∧ Below u.heap.size u w') := fun u => by
        have h := mayf_any s p u
        rw [decide_eq_true hb] at h
        exact h
      have HV : Hid (q = 15) := by show _ = _; rw [← HSTEP.out, if_pos hb]
      clear hb HSTEP
      refine wp_region_fam2 (by kernel_rfl) (by kernel_rfl) ?_
      intro T F hT hF hG
      have c0 : ∀ t, (F t).cell? ⟨w.heap.size, 0, none⟩ = some (.slice (some ⟨b, off, none⟩) m cap) := fun t => (S3.out.call (hF t)).t.cell 0
      have c1 : ∀ t, (F t).cell? ⟨bn, 239, none⟩ = some (.int .i64 s) := fun t => (HNS.out _ _ (BL3.out.call (hF t))).1
      have c2 : ∀ t, (F t).cell? ⟨bn, 238, none⟩ = some (.int .i64 (j : Int)) := fun t => (HNS.out _ _ (BL3.out.call (hF t))).2
      have c3 : ∀ t, (F t).cell? ⟨b, off + j * 240 + 239, none⟩ = some (.int .i64 p) := fun t => ((S3.out.call (hF t)).b.cell (p := ⟨b, off + j * 240 + 239, none⟩) hb9).trans HSU.out
      repeat (go_big_quiet_step ((go_at_call 29; exact fam_call hF hG (Nat.le_refl _) (HMF.out _))))
      refine wpQuiet_nil ?_
      rintro _ ⟨t, rfl⟩
      have S4 := Lib.hid (S3.out.call (hF t))
      clear c0 c1 c2 c3 hG
      go_wp2_with fail
      go_ret
      exact ⟨by rw [HV.out]; rfl, S4.out.b⟩
    · have HMF : Hid (∀ u, Calls Try.prog 29 #[.int .i64 s, .int .i64 p] u fun e w' => e = .returned (.bool true) ∧ Below u.heap.size u w') := fun u => by
        have h := mayf_any s p u
        rw [decide_eq_false hb] at h
        exact h
      have HV : Hid (clGo ns (M - (k + 1)) (k + 2) = q) := by show _ = _; rw [← HSTEP.out, if_neg hb]
      clear hb HSTEP
      refine wp_region_fam2 (by kernel_rfl) (by kernel_rfl) ?_
      intro T F hT hF hG
      have c0 : ∀ t, (F t).cell? ⟨w.heap.size, 0, none⟩ = some (.slice (some ⟨b, off, none⟩) m cap) := fun t => (S3.out.call (hF t)).t.cell 0
      have c1 : ∀ t, (F t).cell? ⟨bn, 239, none⟩ = some (.int .i64 s) := fun t => (HNS.out _ _ (BL3.out.call (hF t))).1
      have c2 : ∀ t, (F t).cell? ⟨bn, 238, none⟩ = some (.int .i64 (j : Int)) := fun t => (HNS.out _ _ (BL3.out.call (hF t))).2
      have c3 : ∀ t, (F t).cell? ⟨b, off + j * 240 + 239, none⟩ = some (.int .i64 p) := fun t => ((S3.out.call (hF t)).b.cell (p := ⟨b, off + j * 240 + 239, none⟩) hb9).trans HSU.out
      repeat (go_big_quiet_step ((go_at_call 29; exact fam_call hF hG (Nat.le_refl _) (HMF.out _))))
      refine wpQuiet_nil ?_
      rintro _ ⟨t, rfl⟩
      have S4 := Lib.hid (S3.out.call (hF t))
      clear c0 c1 c2 c3 hG
      go_wp2_with fail
      go_roundw
      case rel => exact ⟨k + 1, by omega, by go_num, HV.out, S4.out⟩
      case measure => simp [intOf]; omega

theorem clGo_ok {ns : List NdD} (hok : TrOK ns) : ∀ f k : Nat, 0 < k → k + f ≤ ns.length → clGo ns f k = 0
  | 0, _, _, _ => rfl
  | f + 1, k, h0, hl => by
    have hk : k < ns.length := by omega
    obtain ⟨u, hu, _, e1, _, _, e4, e5⟩ := hok.up k hk h0
    show (if badC (stI ns k) (stI ns (upI ns k).toNat) then 15 else clGo ns f (k + 1)) = 0
    rw [stI_at hk, upI_at hk, e1, show ((u : Int)).toNat = u from rfl, stI_at hu, if_neg, clGo_ok hok f (k + 1) (by omega) (by omega)]
    rintro (⟨h1, h2⟩ | ⟨h1, h2⟩)
    · exact h2 (e4 h1)
    · exact h2 (e5 h1)

/-- A closed tree passes. -/
theorem clo_ok {ns : List NdD} (hok : TrOK ns) (hl : ns.length ≤ 4096) : cloN ns = 0 := by
  unfold cloN
  rw [if_pos (vtE_ok hok hl)]
  have := hok.pos
  exact clGo_ok hok _ 1 (by omega) (by omega)
end

/-! TrC -/
section
set_option linter.unusedVariables false
set_option linter.unusedSimpArgs false
open Go.RowKit

set_option maxRecDepth 100000

theorem i64_and16 (n : Int) : bits .and .i64 n 65535 = n % 65536 := by
  have h3 : (BitVec.ofInt 64 65535).toNat = 2 ^ 16 - 1 := by decide
  have key : (BitVec.ofInt 64 n &&& BitVec.ofInt 64 65535).toNat = (n % ((2 ^ 64 : Nat) : Int)).toNat % 2 ^ 16 := by
    rw [BitVec.toNat_and, BitVec.toNat_ofInt, h3, Nat.and_two_pow_sub_one_eq_mod]
  show IntKind.i64.wrap ((BitVec.ofInt 64 n &&& BitVec.ofInt 64 65535).toNat : Nat) = n % 65536
  rw [key, IntKind.wrap_i64]
  omega

theorem i64_and24 (n : Int) : bits .and .i64 n 16777215 = n % 16777216 := by
  have h3 : (BitVec.ofInt 64 16777215).toNat = 2 ^ 24 - 1 := by decide
  have key : (BitVec.ofInt 64 n &&& BitVec.ofInt 64 16777215).toNat = (n % ((2 ^ 64 : Nat) : Int)).toNat % 2 ^ 24 := by
    rw [BitVec.toNat_and, BitVec.toNat_ofInt, h3, Nat.and_two_pow_sub_one_eq_mod]
  show IntKind.i64.wrap ((BitVec.ofInt 64 n &&& BitVec.ofInt 64 16777215).toNat : Nat) = n % 16777216
  rw [key, IntKind.wrap_i64]
  omega

theorem i64_and16_nat (n : Int) : ∃ m : Nat, m ≤ 65535 ∧ bits .and .i64 n 65535 = m := ⟨(n % 65536).toNat, by omega, by rw [i64_and16]; omega⟩

theorem i64_and24_nat (n : Int) : ∃ m : Nat, m ≤ 16777215 ∧ bits .and .i64 n 16777215 = m := ⟨(n % 16777216).toNat, by omega, by rw [i64_and24]; omega⟩

/-- What At gives, as a plain function. -/
def atN (l : List Int) (i : Nat) : Nat := if l.length = 0 then i % 65536 else (l.getD (i % l.length) 0 % 16777216).toNat + i / l.length

set_option maxHeartbeats 4000000 in
theorem at_val (v : Value) (l : List Int) (i : Nat) (w : World) (h : IntsV w v l) (hi : i ≤ 1000000) :
    Calls Try.prog 26 #[v, .int .i64 i] w fun e w' => e = .returned (.int .i64 (atN l i)) ∧ Below w.heap.size w w' := by
  obtain ⟨a, len, cap, rfl⟩ := ints_shape' h.1
  have HI := Lib.hid h
  have HL := Lib.hid h.len
  have hmx := h.len.2
  unfold maxLen at hmx
  obtain ⟨q, hq⟩ : ∃ q, atN l i = q := ⟨_, rfl⟩
  rw [hq]
  unfold atN at hq
  rw [HL.out.1] at hq
  have HQ := Lib.hid hq
  clear h hq
  by_cases h0 : len = 0
  · subst h0
    have hk : bits .and .i64 i 65535 = (q : Int) := by rw [i64_and16, ← HQ.out, if_pos rfl]; omega
    go_enter Try.func26, Try.ntmps26
    go_wp2_with fail
    go_ret
    exact ⟨rfl, Below.refl _ _⟩
  have hz : ((len : Int) == 0) = false := by simp; omega
  have hz0 : ¬ (len : Int) = 0 := by omega
  have hr : i % len < len := Nat.mod_lt _ (by omega)
  have HQ2 : Hid ((l.getD (i % len) 0 % 16777216).toNat + i / len = q) := by have := HQ.out; rw [if_neg h0] at this; exact this
  have hdl : i / len ≤ i := Nat.div_le_self _ _
  obtain ⟨b, off, rfl, hbb, hce⟩ := HI.out.at (k := i % len) (by rw [HL.out.1]; exact hr)
  have hm : Int.tmod (i : Int) (len : Int) = ((i % len : Nat) : Int) := by rw [Int.tmod_eq_emod_of_nonneg (by omega)]; rfl
  have hd : Int.tdiv (i : Int) (len : Int) = ((i / len : Nat) : Int) := by rw [Int.tdiv_eq_ediv_of_nonneg (by omega)]; rfl
  obtain ⟨r, hrr⟩ : ∃ r, i % len = r := ⟨_, rfl⟩
  obtain ⟨d, hdd⟩ : ∃ d, i / len = d := ⟨_, rfl⟩
  rw [hrr] at hm hce hr HQ2
  rw [hdd] at hd hdl HQ2
  obtain ⟨x, hx⟩ : ∃ x, l.getD r 0 = x := ⟨_, rfl⟩
  rw [hx] at hce HQ2
  have ha : bits .and .i64 x 16777215 = (((x % 16777216).toNat : Nat) : Int) := by rw [i64_and24]; omega
  have hyb : (x % 16777216).toNat ≤ 16777215 := by omega
  obtain ⟨y, hy⟩ : ∃ y, (x % 16777216).toNat = y := ⟨_, rfl⟩
  rw [hy] at ha hyb HQ2
  have HCE := Lib.hid hce
  have hri : (r : Int) < len := by omega
  clear hrr hdd hx hce hy h0 HQ
  go_enter Try.func26, Try.ntmps26
  go_wp2_with fail
  refine wp_region_fam2 (by kernel_rfl) (by kernel_rfl) ?_
  intro T F hT hF hG
  have c0 : ∀ t, (F t).cell? ⟨b, off + r, none⟩ = some (.int .i64 x) := fun t => ((hF t).cell (p := ⟨b, off + r, none⟩) hbb).trans HCE.out
  repeat (go_big_quiet_step (fail))
  refine wpQuiet_nil ?_
  rintro _ ⟨t, rfl⟩
  have hft := hF t
  go_wp2_with fail
  go_ret
  exact ⟨by rw [← HQ2.out]; simp, hft⟩

theorem at_any (v : Value) (l : List Int) (i : Nat) (w : World) (h : IntsV w v l) (hi : i ≤ 1000000) :
    Calls Try.prog 26 #[v, .int .i64 i] w fun e w' => (∃ k : Nat, k ≤ 20000000 ∧ e = .returned (.int .i64 k)) ∧ Below w.heap.size w w' := by
  refine (at_val v l i w h hi).mono ?_
  rintro e w' ⟨rfl, hb⟩
  refine ⟨⟨_, ?_, rfl⟩, hb⟩
  unfold atN
  have := Nat.div_le_self i l.length
  split <;> omega
end

end Go.Proofs.Ytdmjpmigejpkmaa
