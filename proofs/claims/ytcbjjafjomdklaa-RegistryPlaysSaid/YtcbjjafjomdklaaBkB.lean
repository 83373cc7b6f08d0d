/- A book of tables in memory; NewBook, Known, Balance, Total. -/
import Derived.Test.YtcbjjafjomdklaaBkA
import Derived.Test.YtcbjjafjomdklaaMp
set_option linter.unusedVariables false

set_option linter.unusedSimpArgs false
namespace Go.Proofs.Ytcbjjafjomdklaa
open Go.RowKit Go.Maps

set_option maxRecDepth 100000

/-- A look-up in a region that draws its order. -/
theorem wpQuiet_look {P : Program} {ops : Array Oper} {C : World → Prop} {Q : Act → Prop} {o : Oper} {rest : List Oper} {a : Act} (t : TypeId) (m x : Operand) (ok : Bool) (ho : o.op = .lookup t m x ok) (mv xv v : Value) (hm : a.eval m = mv) (hx : a.eval x = xv)
    (hC : ∀ w, C w → (Instr.lookup t mv xv ok).run P w = .ok v w) (hw : Region.wanted o (yielded ops a.tmps) = true)
    (h : wpQuiet P ops C Q rest (a.put o.dst v)) : wpQuiet P ops C Q (o :: rest) a := by
  refine BigFrame.wpQuiet_want hw fun K hK => ⟨v, fun w hw' => ?_, hK _ h⟩
  have hl := hC w hw'
  unfold Oper.quietAt execOp
  simp only [ho, hm, hx, Sem.run_bind, Sem.run_pure, Result.andThen_ok, hl]
  exact ⟨rfl, rfl⟩

theorem at_qlook {P : Program} {ops : Array Oper} {C : World → Prop} {Q : Act → Prop} {dst : Option Tmp} {t ty' : TypeId} (m x : Operand) {ok : Bool} {pos : String} {aft : Array Edge} {g : Option (Nat × Bool)} {rest : List Oper} {a : Act}
    (h : wpQuiet P ops C Q (⟨dst, .lookup t m x ok, ty', pos, aft, g⟩ :: rest) a) : wpQuiet P ops C Q (⟨dst, .lookup t m x ok, ty', pos, aft, g⟩ :: rest) a := h

/-- 'len(m)' in such a region. -/
theorem wpQuiet_len {P : Program} {ops : Array Oper} {C : World → Prop} {Q : Act → Prop} {o : Oper} {rest : List Oper} {a : Act} (t : TypeId) (x : Operand) (ho : o.op = .call { callee := .builtin .len, args := #[x], argTypes := #[t] }) (xv v : Value) (hx : a.eval x = xv)
    (hC : ∀ w, C w → (Builtin.len_ #[t] o.type #[xv]).run P w = .ok v w) (hw : Region.wanted o (yielded ops a.tmps) = true)
    (h : wpQuiet P ops C Q rest (a.put o.dst v)) : wpQuiet P ops C Q (o :: rest) a := by
  refine BigFrame.wpQuiet_want hw fun K hK => ⟨v, fun w hw' => ?_, hK _ h⟩
  have hl := hC w hw'
  unfold Oper.quietAt execOp
  simp only [ho, resolve, invoke, builtin, List.map_toArray, List.map_cons, List.map_nil, hx, Sem.run_bind, Sem.run_pure, Result.andThen_ok, hl]
  exact ⟨rfl, rfl⟩

theorem at_qlen {P : Program} {ops : Array Oper} {C : World → Prop} {Q : Act → Prop} {dst : Option Tmp} {t ty' : TypeId} (x : Operand) {pos : String} {aft : Array Edge} {g : Option (Nat × Bool)} {rest : List Oper} {a : Act}
    (h : wpQuiet P ops C Q (⟨dst, .call { callee := .builtin .len, args := #[x], argTypes := #[t] }, ty', pos, aft, g⟩ :: rest) a) : wpQuiet P ops C Q (⟨dst, .call { callee := .builtin .len, args := #[x], argTypes := #[t] }, ty', pos, aft, g⟩ :: rest) a := h

/-- An entry of a book: a checkpoint, the slice of its balances, the balances. -/
structure TeD where
  c : CpD
  v : Value
  l : List Int

def TeD.ent (e : TeD) : CpD × Value := (e.c, e.v)

def nilS : Value := .slice none 0 0

/-- The balances at a checkpoint; none if there is no such table. -/
def tget : List TeD → CpD → Option TeD
  | [], _ => none
  | e :: r, c => if e.c = c then some e else tget r c

def tlst (E : List TeD) (c : CpD) : List Int := match tget E c with | none => [] | some e => e.l

theorem tget_mget (E : List TeD) (c : CpD) : mget (E.map TeD.ent) c = (tget E c).map TeD.v := by
  induction E with
  | nil => rfl
  | cons e r ih =>
    simp only [List.map_cons, TeD.ent, mget, tget]
    split
    · rfl
    · exact ih

theorem tget_mem {E : List TeD} {c : CpD} {e : TeD} (h : tget E c = some e) : e ∈ E ∧ e.c = c := by
  induction E with
  | nil => cases h
  | cons x r ih =>
    unfold tget at h
    by_cases e' : x.c = c
    · rw [if_pos e'] at h; cases h; exact ⟨by simp, e'⟩
    · rw [if_neg e'] at h; exact ⟨List.mem_cons_of_mem _ (ih h).1, (ih h).2⟩

theorem tget_none {E : List TeD} {c : CpD} : tget E c = none ↔ c ∉ E.map TeD.c := by
  induction E with
  | nil => simp [tget]
  | cons x r ih =>
    unfold tget
    by_cases e : x.c = c
    · simp [e]
    · rw [if_neg e, ih]; simp [Ne.symm e]

/-- A book in block b, its map in block mb: n balances a table, at most lim tables, these entries. -/
structure BookIs (w : World) (b mb : Nat) (n lim : Int) (E : List TeD) : Prop where
  blk : Blk w b #[.int .i64 n, .int .i64 lim, .map (some mb)]
  map : MapIs w mb (E.map TeD.ent)
  rows : ∀ e ∈ E, NumsV w e.v e.l ∧ (e.l.length : Int) = n ∧ e.l.sum ≤ 4611686018427387904

theorem BookIs.call {w w' : World} {b mb : Nat} {n lim : Int} {E : List TeD} (h : BookIs w b mb n lim E) (hb : Below w.heap.size w w') : BookIs w' b mb n lim E :=
  ⟨h.blk.call hb, h.map.call hb, fun e he => ⟨(h.rows e he).1.below hb, (h.rows e he).2⟩⟩

theorem nums_nil (w : World) : NumsV w nilS [] := ⟨⟨none, 0, 0, rfl, rfl, Nat.zero_le _, .inl rfl⟩, by simp⟩

theorem BookIs.at {w : World} {b mb : Nat} {n lim : Int} {E : List TeD} (h : BookIs w b mb n lim E) (c : CpD) : NumsV w ((mget (E.map TeD.ent) c).getD nilS) (tlst E c) := by
  rw [tget_mget]
  unfold tlst
  cases ht : tget E c with
  | none => exact nums_nil w
  | some e => exact (h.rows e (tget_mem ht).1).1

theorem BookIs.known {E : List TeD} (c : CpD) : (mget (E.map TeD.ent) c).isSome = (tget E c).isSome := by rw [tget_mget]; simp

theorem zero_nums (w : World) : (zeroValue 29).run Try.prog w = .ok nilS w := Try.zeroValue29 w

set_option maxHeartbeats 4000000 in
theorem newb_bad (n lim : Int) (w : World) (h : n < 0 ∨ 1024 < n ∨ lim < 1 ∨ 64 < lim) :
    Calls Try.prog 36 #[.int .i64 n, .int .i64 lim] w fun e w' => e = .returned (.tuple #[.pointer none, .int .i64 3]) ∧ w' = w := by
  by_cases h1 : n < 0
  · clear h
    go_enter Try.func36, Try.ntmps36
    go_wp2_with fail
    go_ret2
    exact ⟨rfl, rfl⟩
  by_cases h2 : 1024 < n
  · clear h
    go_enter Try.func36, Try.ntmps36
    go_wp2_with fail
    go_ret2
    exact ⟨rfl, rfl⟩
  by_cases h3 : lim < 1
  · clear h
    go_enter Try.func36, Try.ntmps36
    go_wp2_with fail
    go_ret2
    exact ⟨rfl, rfl⟩
  have h4 : 64 < lim := by omega
  clear h
  go_enter Try.func36, Try.ntmps36
  go_wp2_with fail
  go_ret2
  exact ⟨rfl, rfl⟩

set_option maxHeartbeats 4000000 in
theorem newb_ok (n lim : Int) (w : World) (h0 : 0 ≤ n) (h1 : n ≤ 1024) (h2 : 1 ≤ lim) (h3 : lim ≤ 64) :
    Calls Try.prog 36 #[.int .i64 n, .int .i64 lim] w fun e w' => e = .returned (.tuple #[.pointer (some ⟨w.heap.size + 1, 0, none⟩), .int .i64 0]) ∧ BookIs w' (w.heap.size + 1) w.heap.size n lim [] ∧ Below w.heap.size w w' := by
  have a1 : ¬ n < 0 := by omega
  have a2 : ¬ 1024 < n := by omega
  have a3 : ¬ lim < 1 := by omega
  have a4 : ¬ 64 < lim := by omega
  have hmm := @run_makeMap Try.prog
  go_enter Try.func36, Try.ntmps36
  go_wp2_with fail
  go_ret2
  refine ⟨?_, ⟨Blk.new (by simp), (MapIs.made w).grown (World.grownBy_alloc _ _ none) (by simp), by simp⟩, ((Below.refl _ w).alloc (Nat.le_refl _) _).alloc (by simp) _⟩
  simp
end Go.Proofs.Ytcbjjafjomdklaa
