/- Several texts as one: RdA, RdB, RdF, RdC, RdE, RdO, RdL, RdM, RdN, RdP, RdQ, RdW, RdR, RdT, RdV, RdX, RdS, RdY. -/
import Derived.Test.YtmnojgdfbhdkhaaY1
import Derived.Test.YtmnojgdfbhdkhaaFromB
import Derived.Test.YtmnojgdfbhdkhaaCdH
import Derived.Test.YtmnojgdfbhdkhaaY2
import Derived.Test.YtmnojgdfbhdkhaaY3
namespace Go.Proofs.Ytmnojgdfbhdkhaa

/-! RdA -/
section
set_option linter.unusedVariables false
set_option linter.unusedSimpArgs false
open Go.RowKit

/-- Block g holds the reference's reader of the bytes xs (in another block), at position p, with error e. -/
structure Rfp (w : World) (g : Nat) (a : Option Addr) (l c : Nat) (xs : List Int) (p : Nat) (e : Int) : Prop where
  blk : Blk w g #[.slice a l c, .int .i64 p, .int .i64 e]
  byt : Byt w (.slice a l c) xs
  le : p ≤ xs.length
  far : ∀ x, a = some x → 0 < l → x.block ≠ g

section
variable {w w' : World} {g l c p p' : Nat} {a : Option Addr} {xs : List Int} {e e' : Int}

theorem Rfp.len (h : Rfp w g a l c xs p e) : xs.length = l := by
  obtain ⟨a', l', c', e', hl, _⟩ := h.byt.ints
  cases e'; exact hl

theorem Rfp.grown (h : Rfp w g a l c xs p e) (hg : w.grownBy w' (some g)) (hB : Blk w' g #[.slice a l c, .int .i64 p', .int .i64 e']) (hp : p' ≤ xs.length) : Rfp w' g a l c xs p' e' :=
  ⟨hB, h.byt.grownBy hg h.far, hp, h.far⟩

theorem Rfp.drewN (h : Rfp w g a l c xs p e) (n : Nat) : Rfp (w.drewN n) g a l c xs p e :=
  ⟨h.blk, ⟨show Ints .u8 (w.drewN n) _ xs from h.byt.ints, h.byt.rng, h.byt.fits⟩, h.le, h.far⟩

theorem Rfp.setE (h : Rfp w g a l c xs p e) : Rfp (w.setCell ⟨g, 2, none⟩ (.int .i64 e')) g a l c xs p e' :=
  h.grown grownBy_set (h.blk.setCell (j := 2) (v := .int .i64 e')) h.le

theorem Rfp.setAt (h : Rfp w g a l c xs p e) (hp : p' ≤ xs.length) : Rfp (w.setCell ⟨g, 1, none⟩ (.int .i64 p')) g a l c xs p' e :=
  h.grown grownBy_set (h.blk.setCell (j := 1) (v := .int .i64 p')) hp

theorem Rfp.below (h : Rfp w g a l c xs p e) (hb : Below w.heap.size w w') : Rfp w' g a l c xs p e :=
  ⟨h.blk.call hb, h.byt.below hb, h.le, h.far⟩
end

/-- What a reading of the reference promises. -/
def RfReads (w : World) (g : Nat) (a : Option Addr) (l c : Nat) (xs : List Int) (v : Value) (p : Nat) (e : Int) (en : Ending) (w' : World) : Prop := en = .returned v ∧ Rfp w' g a l c xs p e ∧ w.grownBy w' (some g)

/-- What stands at the loop's head of raw. -/
def RawI (xs : List Int) (n i : Value) : Prop := ∃ (k : Nat) (m : Int), k ≤ 10 ∧ k ≤ xs.length ∧ i = .int .i64 k ∧ n = .int .u64 m ∧ (k < 10 → m = accU xs k) ∧ pu xs (10 - k) k = pu xs 10 0

/-- raw: number, place, error. -/
def RawP (w : World) (g : Nat) (a : Option Addr) (l c : Nat) (xs : List Int) (p : Nat) (r : Int × Int × Int) (en : Ending) (w' : World) : Prop :=
  en = .returned (.tuple #[.int .u64 r.1, .int .i64 ((p : Int) + r.2.1)]) ∧ Rfp w' g a l c xs p r.2.2 ∧ w.grownBy w' (some g)
end

/-! RdB -/
section
set_option linter.unusedVariables false
set_option linter.unusedSimpArgs false
open Go.RowKit

/-- The reader in the words of the code's: what is left, and the error. -/
structure Rfs (w : World) (g : Nat) (a : Option Addr) (l c : Nat) (xs : List Int) (s : RS) : Prop where
  fp : Rfp w g a l c xs (xs.length - s.r.length) s.e
  rest : s.r = xs.drop (xs.length - s.r.length)

def RfV (w : World) (g : Nat) (a : Option Addr) (l c : Nat) (xs : List Int) (v : Value) (s : RS) (en : Ending) (w' : World) : Prop := en = .returned v ∧ Rfs w' g a l c xs s ∧ w.grownBy w' (some g)

/-- take's value: some slice of these bytes. -/
def RfT (w : World) (g : Nat) (a : Option Addr) (l c : Nat) (xs : List Int) (ys : List Int) (s : RS) (en : Ending) (w' : World) : Prop :=
  ∃ a' l' c', en = .returned (.slice a' l' c') ∧ Byt w' (.slice a' l' c') ys ∧ (∀ x, a' = some x → 0 < l' → ∃ y, a = some y ∧ 0 < l ∧ y.block = x.block) ∧ Rfs w' g a l c xs s ∧ w.grownBy w' (some g)
end

/-! RdF -/
section
set_option linter.unusedVariables false
set_option linter.unusedSimpArgs false
open Go.RowKit
end

/-! RdC -/
section
set_option linter.unusedVariables false
set_option linter.unusedSimpArgs false
open Go.RowKit

theorem Rfs.byteL {w : World} {g l c : Nat} {a : Option Addr} {xs : List Int} {s : RS} (h : Rfs w g a l c xs s) : byteL s.r := fun x hx => h.fp.byt.rng x (List.mem_of_mem_drop (h.rest ▸ hx))

theorem Rfs.setErr {w : World} {g l c : Nat} {a : Option Addr} {xs r : List Int} {e e' : Int} (h : Rfs w g a l c xs ⟨r, e⟩) : Rfs (w.setCell ⟨g, 2, none⟩ (.int .i64 e')) g a l c xs ⟨r, e'⟩ := ⟨h.fp.setE, h.rest⟩

theorem Rfs.below {w w' : World} {g l c : Nat} {a : Option Addr} {xs : List Int} {s : RS} (h : Rfs w g a l c xs s) (hb : Below w.heap.size w w') : Rfs w' g a l c xs s := ⟨h.fp.below hb, h.rest⟩
theorem Rfs.drewN {w : World} {g l c : Nat} {a : Option Addr} {xs : List Int} {s : RS} (h : Rfs w g a l c xs s) (n : Nat) : Rfs (w.drewN n) g a l c xs s := ⟨h.fp.drewN n, h.rest⟩
theorem Rfs.lt {w : World} {g l c : Nat} {a : Option Addr} {xs : List Int} {s : RS} (h : Rfs w g a l c xs s) : g < w.heap.size := h.fp.blk.lt

/-- The reader is put back to an earlier state's place. -/
theorem Rfs.back {w w' : World} {g l c : Nat} {a : Option Addr} {xs r r' : List Int} {e e' : Int} (h : Rfs w' g a l c xs ⟨r', e'⟩) (h0 : Rfs w g a l c xs ⟨r, e⟩) {p : Nat} (hp : p = xs.length - r.length) : Rfs (w'.setCell ⟨g, 1, none⟩ (.int .i64 p)) g a l c xs ⟨r, e'⟩ := by
  subst hp
  exact ⟨h.fp.setAt h0.fp.le, h0.rest⟩

/-- The first k bytes, and zeros. -/
def mixK (ys : List Int) (k : Nat) : List Int := ys.take k ++ zeroR.drop k

/-- What Root's loop holds. -/
def RootI (w1 : World) (h1 : Nat) (ys : List Int) (i : Value) (wr : World) : Prop := ∃ k : Nat, k ≤ ys.length ∧ i = .int .i64 k ∧ Upd h1 w1 wr ∧ Blk wr h1 (bytesV (mixK ys k))

theorem Upd.rfl' (h : Nat) (w : World) : Upd h w w := ⟨rfl, rfl, rfl, rfl, fun _ _ => rfl⟩
theorem Upd.trans {h : Nat} {w w1 w2 : World} (h1 : Upd h w w1) (h2 : Upd h w1 w2) : Upd h w w2 :=
  ⟨h2.os.trans h1.os, h2.tape.trans h1.tape, h2.output.trans h1.output, h2.size.trans h1.size, fun b hb => (h2.block b hb).trans (h1.block b hb)⟩
theorem Upd.setCell (w : World) (h j : Nat) (v : Value) : Upd h w (w.setCell ⟨h, j, none⟩ v) := ⟨rfl, rfl, rfl, by simp [World.setCell], fun b hb => Below.heap_setCell w _ _ _ hb⟩

theorem Byt.updOther {w w' : World} {b : Nat} {a : Option Addr} {l c : Nat} {xs : List Int} (h : Byt w (.slice a l c) xs) (hU : Upd b w w') (hne : ∀ x, a = some x → 0 < l → x.block ≠ b) : Byt w' (.slice a l c) xs := by
  refine ⟨?_, h.rng, h.fits⟩
  obtain ⟨a', len, cap, e, hl, hm, hr⟩ := h.ints
  cases e
  refine ⟨_, _, _, rfl, hl, hm, ?_⟩
  by_cases h0 : l = 0
  · exact .inl h0
  rcases hr with h1 | ⟨d, off, rfl, hlt, hc⟩
  · exact absurd h1 h0
  · have hd := hne _ rfl (by omega)
    refine .inr ⟨d, off, rfl, by rw [hU.size]; exact hlt, fun i hi => ?_⟩
    rw [show w'.cell? ⟨d, off + i, none⟩ = w.cell? ⟨d, off + i, none⟩ by simp only [World.cell?, hU.block d hd]]
    exact hc i hi

theorem Rfs.upd {w w' : World} {g b l c : Nat} {a : Option Addr} {xs : List Int} {s : RS} (h : Rfs w g a l c xs s) (hU : Upd b w w') (hg : g ≠ b) (hne : ∀ x, a = some x → 0 < l → x.block ≠ b) : Rfs w' g a l c xs s :=
  ⟨⟨hU.blk h.fp.blk hg, h.fp.byt.updOther hU hne, h.fp.le, h.fp.far⟩, h.rest⟩

theorem Rfs.blk_lt {w : World} {g l c : Nat} {a : Option Addr} {xs : List Int} {s : RS} (h : Rfs w g a l c xs s) : ∀ x, a = some x → 0 < l → x.block < w.heap.size := h.fp.byt.blk_lt

theorem upd_grown {w w1 w2 : World} {g b : Nat} (h1 : w.grownBy w1 (some g)) (hU : Upd b w1 w2) (hb : w.heap.size ≤ b) : w.grownBy w2 (some g) :=
  ⟨hU.os.trans h1.os, hU.tape.trans h1.tape, hU.output.trans h1.output, by rw [hU.size]; exact h1.size, fun k hk hne => (hU.block k (by omega)).trans (h1.block k hk hne)⟩
end

/-! RdE -/
section
set_option linter.unusedVariables false
set_option linter.unusedSimpArgs false
open Go.RowKit
end

/-! RdO -/
section
set_option linter.unusedVariables false
set_option linter.unusedSimpArgs false
open Go.RowKit

/-- A slice of numbers in a row of the call's own, from block B on. -/
def OwnK (k : IntKind) (e : TypeId) (w : World) (B : Nat) (v : Value) (xs : List Int) : Prop := w.ownsRow B e 1 v xs.length (xs.map (Value.int k))

theorem OwnK.nil (k : IntKind) (e : TypeId) (w : World) (B : Nat) : OwnK k e w B (.slice none 0 0) [] := World.ownsRow_nil w B e 1
theorem OwnK.lt {k : IntKind} {e : TypeId} {w : World} {B : Nat} {v : Value} {xs : List Int} (h : OwnK k e w B v xs) : ∀ n, v.ownBlock = some n → B ≤ n ∧ n < w.heap.size := World.ownsRow.lt h
theorem OwnK.ints {k : IntKind} {e : TypeId} {w : World} {B : Nat} {v : Value} {xs : List Int} (h : OwnK k e w B v xs) (hm : xs.length ≤ maxLen) : Ints k w v xs := Ints.own h hm
theorem OwnK.lo {k : IntKind} {e : TypeId} {w : World} {B : Nat} {v : Value} {xs : List Int} (h : OwnK k e w B v xs) : ∀ x l c, v = .slice (some x) l c → B ≤ x.block ∧ x.block < w.heap.size := by
  rintro x l c rfl
  rcases h.2 with ⟨e, _⟩ | ⟨g, cap, cur, e, h1, h2, _⟩
  · cases e
  · cases e; exact h.lt g rfl
theorem OwnK.shape {k : IntKind} {e : TypeId} {w : World} {B : Nat} {v : Value} {xs : List Int} (h : OwnK k e w B v xs) : ∃ a l c, v = .slice a l c := by
  rcases h.2 with ⟨rfl, _⟩ | ⟨g, cap, cur, rfl, _⟩
  · exact ⟨_, _, _, rfl⟩
  · exact ⟨_, _, _, rfl⟩

theorem OwnK.grown {k : IntKind} {e : TypeId} {w w' : World} {B : Nat} {v : Value} {xs : List Int} {row : Option Nat} (h : OwnK k e w B v xs) (hg : w.grownBy w' row) (hne : ∀ n, v.ownBlock = some n → some n ≠ row) : OwnK k e w' B v xs := by
  refine ⟨h.1, ?_⟩
  rcases h.2 with h' | ⟨g, cap, cur, rfl, h2, h3, h4⟩
  · exact .inl h'
  · exact .inr ⟨g, cap, cur, rfl, h2, by rw [hg.block g (h.lt g rfl).2 (hne g rfl)]; exact h3, h4⟩

theorem run_app1 {k : IntKind} {t e : TypeId} {bytes : Nat} (ty : TypeId) (hinfo : (Try.prog.info? e).map (fun i => (i.zero, i.size, i.bytes)) = some (some (.int k 0), 1, bytes)) (hby : bytes ≤ 8) (ht : Try.prog.underlying t = some (.slice e))
    (w : World) (B : Nat) (v : Value) (xs : List Int) (hown : OwnK k e w B v xs) (g c : Nat) (x : Int) (hg : w.cell? ⟨g, 0, none⟩ = some (.int k x)) (h47 : xs.length ≤ 1000000000000) (hB : B ≤ w.heap.size) :
    ∃ v' w', (Builtin.append_ #[t, t] ty #[v, .slice (some ⟨g, 0, none⟩) 1 c]).run Try.prog w = .ok v' w' ∧ OwnK k e w' B v' (xs ++ [x]) ∧ w.grownBy w' v.ownBlock ∧ (v'.ownBlock = v.ownBlock ∨ v'.ownBlock = some w.heap.size) := by
  obtain ⟨i0, hi, hz0, hz1, hz2⟩ := info_parts hinfo
  obtain ⟨v', w', h1, h2, h3, _, h4⟩ := run_append_own_at (P := Try.prog) w B t ty e i0 (.int k 0) 1 bytes ht hi hz0 hz1 hz2 rfl (by decide) v xs.length _ hown ⟨g, 0, none⟩ 1 c [.int k x] (by simp)
    (fun j u hj => by
      cases j with
      | zero => rw [Go.WideShapes.add_plain]; simp at hj; subst hj; exact hg
      | succ j => simp at hj)
    (by intro u hu; rw [List.mem_singleton.1 hu]; rfl) (by unfold maxLen; omega) (by have : (xs.length + 1) * bytes ≤ (xs.length + 1) * 8 := Nat.mul_le_mul_left _ hby; omega) hB
  refine ⟨v', w', h1, ?_, h3, h4⟩
  have e1 : xs.map (Value.int k) ++ [.int k x] = (xs ++ [x]).map (Value.int k) := by simp
  rw [e1] at h2
  unfold OwnK
  rw [List.length_append]
  exact h2

/-- An append of one number, in a walk. -/
theorem wpList_app1 {k : IntKind} {t e : TypeId} {bytes : Nat} (hinfo : (Try.prog.info? e).map (fun i => (i.zero, i.size, i.bytes)) = some (some (.int k 0), 1, bytes)) (hby : bytes ≤ 8) (ht : Try.prog.underlying t = some (.slice e))
    {ops : Array Oper} {rest : List Oper} {o : Oper} {a : Act} {w : World} {Q : Exit → Act → World → Prop} (s x : Operand)
    (ho : o.op = .call { callee := .builtin .append, args := #[s, x], argTypes := #[t, t] }) (hw : Region.wanted o (yielded ops a.tmps) = true)
    (B : Nat) (v : Value) (xs : List Int) (hs : a.eval s = v) (hown : OwnK k e w B v xs) (g c : Nat) (y : Int) (hx : a.eval x = .slice (some ⟨g, 0, none⟩) 1 c) (hg : w.cell? ⟨g, 0, none⟩ = some (.int k y)) (h47 : xs.length ≤ 1000000000000) (hB : B ≤ w.heap.size)
    (h : ∀ v' w', OwnK k e w' B v' (xs ++ [y]) → w.grownBy w' v.ownBlock → (v'.ownBlock = v.ownBlock ∨ v'.ownBlock = some w.heap.size) → wpList Try.prog ops Q rest (a.put o.dst v') w') : wpList Try.prog ops Q (o :: rest) a w :=
  BigFrame.wpList_want hw fun _ hK => by
    obtain ⟨v', w', h1, h2, h3, h4⟩ := run_app1 o.type hinfo hby ht w B v xs hown g c y hg h47 hB
    unfold Oper.wp execOp
    simp only [ho, resolve, invoke, builtin, Sem.run_bind, Sem.run_pure, Result.andThen_ok, List.map_toArray, List.map_cons, List.map_nil, hs, hx, h1]
    exact hK _ _ (h v' w' h2 h3 h4)

theorem info_int : (Try.prog.info? 3).map (fun i => (i.zero, i.size, i.bytes)) = some (some (.int .i64 0), 1, 8) := by kernel_rfl
end

/-! RdL -/
section
set_option linter.unusedVariables false
set_option linter.unusedSimpArgs false
open Go.RowKit

/-- The first k elements. -/
def elsK (v : Nat → Int) (k : Nat) : List Int := (List.range k).map (elK v)
/-- What readList's loop holds: k elements. -/
def RfLI (w : World) (g : Nat) (a : Option Addr) (l c : Nat) (xs : List Int) (s1 : RS) (n : Nat) (v at' i : Value) (wr : World) : Prop :=
  ∃ k : Nat, k ≤ n ∧ i = .int .i64 k ∧ at' = .int .i64 (lstE (fun i => vU 1024 (stK 1024 s1 i)) k - 1) ∧ OwnK .i64 3 wr w.heap.size v (elsK (fun i => vU 1024 (stK 1024 s1 i)) k) ∧ Rfs wr g a l c xs (stK 1024 s1 k) ∧ w.grownBy wr (some g)

/-- What readList promises. -/
def RfL (k : IntKind) (w : World) (g : Nat) (a : Option Addr) (l c : Nat) (xs : List Int) (ls : List Int) (s : RS) (en : Ending) (w' : World) : Prop :=
  ∃ v ys, en = .returned v ∧ Ints k w' v ys ∧ ys.length ≤ 1024 ∧ (s.e = 0 → ys = ls) ∧ (∀ x l c, v = .slice (some x) l c → w.heap.size ≤ x.block) ∧ Rfs w' g a l c xs s ∧ w.grownBy w' (some g)
end

/-! RdM -/
section
set_option linter.unusedVariables false
set_option linter.unusedSimpArgs false
open Go.RowKit

/-- The reader and the result's variable rr; since w0 only g and new blocks have changed. -/
structure DQ (g : Nat) (a : Option Addr) (l c : Nat) (xs : List Int) (rr : Nat) (Z : Array Value) (w0 w : World) (s : RS) : Prop where
  rd : Rfs w g a l c xs s
  rv : Blk w rr Z
  gro : w0.grownBy w (some g)
  rrg : rr ≠ g
  rr0 : w0.heap.size ≤ rr
  rra : ∀ x, a = some x → 0 < l → x.block ≠ rr

/-- .. and the record's variable hx. -/
structure DR (g : Nat) (a : Option Addr) (l c : Nat) (xs : List Int) (rr : Nat) (Z : Array Value) (hx : Nat) (ls : List Nat) (w0 w : World) (ps : List (List Value)) (s : RS) : Prop where
  q : DQ g a l c xs rr Z w0 w s
  xv : Blk w hx (flatP ps)
  len : ps.map List.length = ls
  hx0 : w0.heap.size ≤ hx
  hxg : hx ≠ g
  hxr : hx ≠ rr
  hxa : ∀ x, a = some x → 0 < l → x.block ≠ hx

section
variable {g l c rr hx : Nat} {a : Option Addr} {xs : List Int} {Z : Array Value} {ls : List Nat} {w0 w w' : World} {ps : List (List Value)} {s : RS}

theorem DQ.read (h : DQ g a l c xs rr Z w0 w s) {s' : RS} (hr : Rfs w' g a l c xs s') (hg : w.grownBy w' (some g)) : DQ g a l c xs rr Z w0 w' s' :=
  ⟨hr, h.rv.grown hg (by simpa using h.rrg), h.gro.trans hg, h.rrg, h.rr0, h.rra⟩
theorem DQ.below (h : DQ g a l c xs rr Z w0 w s) (hb : Below w.heap.size w w') : DQ g a l c xs rr Z w0 w' s :=
  ⟨h.rd.below hb, h.rv.call hb, h.gro.trans (grownBy_of_below hb), h.rrg, h.rr0, h.rra⟩
theorem DQ.upd (h : DQ g a l c xs rr Z w0 w s) {b : Nat} (hU : Upd b w w') (h0 : w0.heap.size ≤ b) (hg : b ≠ g) (hr : b ≠ rr) (ha : ∀ x, a = some x → 0 < l → x.block ≠ b) : DQ g a l c xs rr Z w0 w' s :=
  ⟨h.rd.upd hU hg.symm ha, hU.blk h.rv hr.symm, upd_grown h.gro hU h0, h.rrg, h.rr0, h.rra⟩
/-- The result is stored. -/
theorem DQ.done (h : DQ g a l c xs rr Z w0 w s) (hU : Upd rr w w') : Rfs w' g a l c xs s ∧ w0.grownBy w' (some g) :=
  ⟨h.rd.upd hU h.rrg.symm h.rra, upd_grown h.gro hU h.rr0⟩

theorem DR.read (h : DR g a l c xs rr Z hx ls w0 w ps s) {s' : RS} (hr : Rfs w' g a l c xs s') (hg : w.grownBy w' (some g)) : DR g a l c xs rr Z hx ls w0 w' ps s' :=
  ⟨h.q.read hr hg, h.xv.grown hg (by simpa using h.hxg), h.len, h.hx0, h.hxg, h.hxr, h.hxa⟩
theorem DR.below (h : DR g a l c xs rr Z hx ls w0 w ps s) (hb : Below w.heap.size w w') : DR g a l c xs rr Z hx ls w0 w' ps s :=
  ⟨h.q.below hb, h.xv.call hb, h.len, h.hx0, h.hxg, h.hxr, h.hxa⟩
theorem DR.put (h : DR g a l c xs rr Z hx ls w0 w ps s) {ps' : List (List Value)} (hU : Upd hx w w') (hB : Blk w' hx (flatP ps')) (hl : ps'.map List.length = ls) : DR g a l c xs rr Z hx ls w0 w' ps' s :=
  ⟨h.q.upd hU h.hx0 h.hxg h.hxr h.hxa, hB, hl, h.hx0, h.hxg, h.hxr, h.hxa⟩
/-- The variable is made. -/
theorem DQ.start (h : DQ g a l c xs rr Z w0 w s) {ps : List (List Value)} {cs : Array Value} {T : TypeId} (hU : Upd w.heap.size (w.alloc (.cells cs T)) w') (hB : Blk w' w.heap.size (flatP ps)) (hl : ps.map List.length = ls) : DR g a l c xs rr Z w.heap.size ls w0 w' ps s := by
  have hb : Below w.heap.size w w' := hU.below ((Below.refl _ w).alloc (Nat.le_refl _) _) (Nat.le_refl _)
  exact ⟨h.below hb, hB, hl, h.gro.size, Nat.ne_of_gt h.rd.lt, Nat.ne_of_gt h.rv.lt, fun x hx h0 => Nat.ne_of_lt (h.rd.blk_lt x hx h0)⟩

theorem DR.partLen (h : DR g a l c xs rr Z hx ls w0 w ps s) {k n : Nat} (hk : ls[k]? = some n) : ∃ p, ps[k]? = some p ∧ p.length = n := by
  have := h.len
  subst this
  rw [List.getElem?_map] at hk
  cases hp : ps[k]? with
  | none => rw [hp] at hk; cases hk
  | some p => rw [hp] at hk; exact ⟨p, rfl, by simpa using hk⟩

theorem DR.cell1 (h : DR g a l c xs rr Z hx ls w0 w ps s) (k o : Nat) {v : Value} (hk : ps[k]? = some [v]) (hof : (ls.take k).sum = o) : w.cell? ⟨hx, o, none⟩ = some v := by
  have := h.xv.part1 hk
  rwa [offP_lens h.len, hof] at this
end

/-! ### Values that are built -/
end

/-! RdN -/
section
set_option linter.unusedVariables false
set_option linter.unusedSimpArgs false
open Go.RowKit

/-- A claim that the reference reads. -/
def RfC (w : World) (g : Nat) (a : Option Addr) (l c : Nat) (xs : List Int) (d : Value → ClD) (ls : List Int) (s : RS) (en : Ending) (w' : World) : Prop :=
  ∃ lv ys, en = .returned (.agg (d lv).cells.toArray) ∧ Ints .i64 w' lv ys ∧ ys.length ≤ 1024 ∧ (s.e = 0 → ys = ls) ∧ (∀ x l c, lv = .slice (some x) l c → w.heap.size ≤ x.block) ∧ Rfs w' g a l c xs s ∧ w.grownBy w' (some g)
end

/-! RdP -/
section
set_option linter.unusedVariables false
set_option linter.unusedSimpArgs false
open Go.RowKit
end

/-! RdQ -/
section
set_option linter.unusedVariables false
set_option linter.unusedSimpArgs false
open Go.RowKit

def rt2 (s : RS) : RS := nW (nU mxU s)
def rtC (s : RS) : CpD := ⟨vU mxU s, vW (nU mxU s)⟩
/-- The first k numbers. -/
def nmK (v : Nat → Int) (k : Nat) : List Int := (List.range k).map v
theorem OwnK.upd {k : IntKind} {e : TypeId} {w w' : World} {B b : Nat} {v : Value} {xs : List Int} (h : OwnK k e w B v xs) (hU : Upd b w w') (hne : ∀ n, v.ownBlock = some n → n ≠ b) : OwnK k e w' B v xs := by
  refine ⟨h.1, ?_⟩
  rcases h.2 with h' | ⟨g, cap, cur, rfl, h2, h3, h4⟩
  · exact .inl h'
  · exact .inr ⟨g, cap, cur, rfl, h2, by rw [hU.block g (hne g rfl)]; exact h3, h4⟩

/-- What ReadTable's loop holds. -/
def RtI (g : Nat) (a : Option Addr) (l c : Nat) (xs : List Int) (rr : Nat) (Z : Array Value) (hx B : Nat) (w : World) (cp : CpD) (s1 : RS) (n : Nat) (i : Value) (wr : World) : Prop :=
  ∃ (k : Nat) (v : Value), k ≤ n ∧ i = .int .i64 k ∧ DR g a l c xs rr Z hx [33, 1] w wr [cp.cells, [v]] (stK mxU s1 k) ∧ OwnK .u64 22 wr B v (nmK (fun i => vU mxU (stK mxU s1 i)) k) ∧ B ≤ wr.heap.size

/-- What ReadTable promises. -/
def RfTb (w : World) (g : Nat) (a : Option Addr) (l c : Nat) (xs : List Int) (cp : CpD) (ls : List Int) (s : RS) (en : Ending) (w' : World) : Prop :=
  ∃ v ys, en = .returned (.agg (flatP [cp.cells, [v]])) ∧ Ints .u64 w' v ys ∧ ys.length ≤ 1024 ∧ (∃ x l c, v = .slice x l c) ∧ (s.e = 0 → ys = ls) ∧ (∀ x l c, v = .slice (some x) l c → w.heap.size ≤ x.block) ∧ Rfs w' g a l c xs s ∧ w.grownBy w' (some g)

theorem tbOne (cp : CpD) (a : Option Addr) (l c : Nat) : ∀ v ∈ flatP [cp.cells, [.slice a l c]], v.oneCell' = true :=
  flatP_one fun p hp v hv => by
    simp only [List.mem_cons, List.not_mem_nil, or_false] at hp
    rcases hp with rfl | rfl
    · exact CpD.one _ v hv
    · rw [List.mem_singleton.1 hv]; rfl
end

/-! RdW -/
section
set_option linter.unusedVariables false
set_option linter.unusedSimpArgs false
open Go.RowKit
end

/-! RdR -/
section
set_option linter.unusedVariables false
set_option linter.unusedSimpArgs false
open Go.RowKit
end

/-! RdT -/
section
set_option linter.unusedVariables false
set_option linter.unusedSimpArgs false
open Go.RowKit

/-- What the reference's DecodeTable gives. -/
def TabF (w : World) (cp : CpD) (ls : List Int) (s : RS) (N : Nat) (en : Ending) (w' : World) : Prop :=
  ∃ lv ys, en = .returned (.tuple #[.agg (finX s.e true (flatP [cp.cells, [lv]]) (flatP zTb.parts)), .int .i64 (finU s.e true ((N : Int) - (s.r.length : Nat))), .int .i64 (finE s.e true)]) ∧ (s.e = 0 → (Ints .u64 w' lv ys ∧ New w.heap.size lv) ∧ ys = ls) ∧ ys.length ≤ 1024 ∧ Below w.heap.size w w'
end

/-! RdV -/
section
set_option linter.unusedVariables false
set_option linter.unusedSimpArgs false
open Go.RowKit

theorem vdOne (x : VdD) : ∀ v ∈ flatP x.parts, v.oneCell' = true :=
  flatP_one fun p hp v hv => by
    simp only [VdD.parts, List.mem_cons, List.not_mem_nil, or_false] at hp
    rcases hp with rfl | rfl | rfl
    · rw [List.mem_singleton.1 hv]; rfl
    · rw [List.mem_singleton.1 hv]; rfl
    · exact bytesL_one _ v hv
end

/-! RdX -/
section
set_option linter.unusedVariables false
set_option linter.unusedSimpArgs false
open Go.RowKit

/-- What the reference's DecodeAttestation gives. -/
def AttF (w : World) (d : Value → AtD) (ls : List Int) (s : RS) (N : Nat) (en : Ending) (w' : World) : Prop :=
  ∃ lv ys b, en = .returned (.tuple #[.agg (finX s.e b (flatP (d lv).parts) (flatP zAt.parts)), .int .i64 (finU s.e b ((N : Int) - (s.r.length : Nat))), .int .i64 (finE s.e b)]) ∧ (s.e = 0 → b = (vlE ls 1024 == 0) ∧ (Ints .i64 w' lv ys ∧ New w.heap.size lv) ∧ ys = ls) ∧ Below w.heap.size w w'

theorem atOne {v1 : Int} {r1 : List Int} {cp : CpD} {a : Option Addr} {l c : Nat} : ∀ v ∈ flatP [[Value.int .u64 v1], bytesL r1, cp.cells, [.slice a l c]], v.oneCell' = true :=
  flatP_one fun p hp v hv => by
    simp only [List.mem_cons, List.not_mem_nil, or_false] at hp
    rcases hp with rfl | rfl | rfl | rfl
    · rw [List.mem_singleton.1 hv]; rfl
    · exact bytesL_one _ v hv
    · exact CpD.one _ v hv
    · rw [List.mem_singleton.1 hv]; rfl
end

/-! RdS -/
section
set_option linter.unusedVariables false
set_option linter.unusedSimpArgs false
open Go.RowKit

/-- What the reference's DecodeSlashing gives. -/
def SlaF (w : World) (d1 d2 : Value → ClD) (l m : List Int) (s : RS) (N : Nat) (en : Ending) (w' : World) : Prop :=
  ∃ lv mv ys zs b, en = .returned (.tuple #[.agg (finX s.e b (flatP [(d1 lv).cells, (d2 mv).cells]) (flatP [zCl.cells, zCl.cells])), .int .i64 (finU s.e b ((N : Int) - (s.r.length : Nat))), .int .i64 (finE s.e b)]) ∧ (s.e = 0 → b = (vlsE [l, m] == 0) ∧ (Ints .i64 w' lv ys ∧ New w.heap.size lv) ∧ ys = l ∧ (Ints .i64 w' mv zs ∧ New w.heap.size mv) ∧ zs = m) ∧ Below w.heap.size w w'

theorem slOne {x y : ClD} (hx : ∃ a l c, x.v = .slice a l c) (hy : ∃ a l c, y.v = .slice a l c) : ∀ v ∈ flatP [x.cells, y.cells], v.oneCell' = true := by
  obtain ⟨_, _, _, hx⟩ := hx
  obtain ⟨_, _, _, hy⟩ := hy
  refine flatP_one fun p hp v hv => ?_
  simp only [List.mem_cons, List.not_mem_nil, or_false] at hp
  rcases hp with rfl | rfl
  · exact ClD.one _ (by rw [hx]; rfl) v hv
  · exact ClD.one _ (by rw [hy]; rfl) v hv
end

/-! RdY -/
section
set_option linter.unusedVariables false
set_option linter.unusedSimpArgs false
open Go.RowKit

def T3 (X : Array Value) (n e : Int) : Value := .tuple #[.agg X, .int .i64 n, .int .i64 e]

theorem ints_nil (k : IntKind) (w : World) : Ints k w (.slice none 0 0) [] := ⟨none, 0, 0, rfl, rfl, Nat.zero_le _, .inl rfl⟩
theorem intsV_nil (w : World) : IntsV w (.slice none 0 0) [] := ⟨ints_nil _ w, by simp⟩
theorem numsV_nil (w : World) : NumsV w (.slice none 0 0) [] := ⟨ints_nil _ w, by simp⟩
theorem zCp_ok : zCp.ok := ⟨by show (0 : Int) ≤ 0; omega, by show (0 : Int) ≤ _; omega, zeroR_is⟩
theorem zCl_ok : zCl.ok := ⟨⟨by show (0 : Int) ≤ 0; omega, by show (0 : Int) ≤ _; omega⟩, ⟨by show (0 : Int) ≤ 0; omega, by show (0 : Int) ≤ _; omega⟩, zeroR_is⟩

theorem finE_err {e : Int} (b : Bool) (h : e ≠ 0) : finE e b = e := by unfold finE; rw [if_pos h]
theorem finX_err {e : Int} (b : Bool) {X Z : Array Value} (h : e ≠ 0) : finX e b X Z = Z := by unfold finX; rw [finE_err b h, if_neg h]
theorem finX_two {e : Int} {b : Bool} {X Z : Array Value} : finX e b X Z = Z ∨ (e = 0 ∧ b = true ∧ finX e b X Z = X) := by
  by_cases h : e = 0
  · subst h
    cases b
    · exact .inl rfl
    · exact .inr ⟨rfl, rfl, rfl⟩
  · exact .inl (finX_err b h)

/-! ### Attestations -/
def SAtt (w : World) (X Y : Array Value) : Prop := ∃ s r c v1 v2 l, X = flatP [[.int .u64 s], bytesL r, CpD.cells c, [v1]] ∧ Y = flatP [[.int .u64 s], bytesL r, CpD.cells c, [v2]] ∧ (0 ≤ s ∧ s ≤ 18446744073709551615) ∧ IsBytes 32 r ∧ CpD.ok c ∧ IntsV w v1 l ∧ IntsV w v2 l
theorem SAtt.below {w w' : World} {X Y : Array Value} (h : SAtt w X Y) (hb : Below w.heap.size w w') : SAtt w' X Y := by
  obtain ⟨s, r, c, v1, v2, l, e1, e2, h1, h2, h3, h4, h5⟩ := h
  exact ⟨s, r, c, v1, v2, l, e1, e2, h1, h2, h3, h4.below hb, h5.below hb⟩

def AttK (w : World) (s0 : RS) (N : Nat) (X : Array Value) (n e : Int) : Prop :=
  ∃ lv b, X = finX (atS s0).e b (flatP (atD s0 lv).parts) (flatP zAt.parts) ∧ n = finU (atS s0).e b ((N : Int) - ((atS s0).r.length : Nat)) ∧ e = finE (atS s0).e b ∧ b = (vlE (atL s0) 1024 == 0) ∧ Ints .i64 w lv (atL s0)
theorem AttK.below {w w' : World} {s0 : RS} {N : Nat} {X : Array Value} {n e : Int} (h : AttK w s0 N X n e) (hb : Below w.heap.size w w') : AttK w' s0 N X n e := by
  obtain ⟨lv, b, h1, h2, h3, h4, h5⟩ := h
  exact ⟨lv, b, h1, h2, h3, h4, h5.below hb⟩
theorem at_parts (s0 : RS) (lv : Value) : (atD s0 lv).parts = [[.int .u64 (vU mxU s0)], bytesL (vW (nU mxU s0)), (vCD (nW (nU mxU s0))).cells, [lv]] := rfl
theorem at_shape {s0 : RS} (hb : byteL s0.r) (lv : Value) (b : Bool) (hl : ∃ a l c, lv = .slice a l c) : (finX (atS s0).e b (flatP (atD s0 lv).parts) (flatP zAt.parts)).size = 67 ∧ ∀ v ∈ finX (atS s0).e b (flatP (atD s0 lv).parts) (flatP zAt.parts), v.oneCell' = true := by
  obtain ⟨a, l, c, rfl⟩ := hl
  have h1 : byteL (nU mxU s0).r := nU_byte hb
  rcases finX_two (e := (atS s0).e) (b := b) (X := flatP (atD s0 (.slice a l c)).parts) (Z := flatP zAt.parts) with h | ⟨_, _, h⟩
  · rw [h]; exact ⟨rfl, AtD.one0⟩
  · rw [h, at_parts]
    exact ⟨by rw [flatP_size]; simp [bytesL_len (vW_is h1), CpD.len (vCD_ok (nW_byte h1))], atOne⟩

/-! ### Slashings -/
def SSla (w : World) (X Y : Array Value) : Prop := ∃ (x y : ClD) (v1 v2 : Value) (l m : List Int), X = flatP [x.cells, y.cells] ∧ Y = flatP [(⟨x.source, x.target, x.root, v1⟩ : ClD).cells, (⟨y.source, y.target, y.root, v2⟩ : ClD).cells] ∧ x.ok ∧ y.ok ∧ IntsV w x.v l ∧ IntsV w y.v m ∧ IntsV w v1 l ∧ IntsV w v2 m
theorem SSla.below {w w' : World} {X Y : Array Value} (h : SSla w X Y) (hb : Below w.heap.size w w') : SSla w' X Y := by
  obtain ⟨x, y, v1, v2, l, m, e1, e2, h1, h2, h3, h4, h5, h6⟩ := h
  exact ⟨x, y, v1, v2, l, m, e1, e2, h1, h2, h3.below hb, h4.below hb, h5.below hb, h6.below hb⟩

def SlaK (w : World) (s0 : RS) (N : Nat) (X : Array Value) (n e : Int) : Prop :=
  ∃ lv mv b, X = finX (clS (clS s0)).e b (flatP [(clD s0 lv).cells, (clD (clS s0) mv).cells]) (flatP [zCl.cells, zCl.cells]) ∧ n = finU (clS (clS s0)).e b ((N : Int) - ((clS (clS s0)).r.length : Nat)) ∧ e = finE (clS (clS s0)).e b ∧ b = (vlsE [clL s0, clL (clS s0)] == 0) ∧ Ints .i64 w lv (clL s0) ∧ Ints .i64 w mv (clL (clS s0))
theorem SlaK.below {w w' : World} {s0 : RS} {N : Nat} {X : Array Value} {n e : Int} (h : SlaK w s0 N X n e) (hb : Below w.heap.size w w') : SlaK w' s0 N X n e := by
  obtain ⟨lv, mv, b, h1, h2, h3, h4, h5, h6⟩ := h
  exact ⟨lv, mv, b, h1, h2, h3, h4, h5.below hb, h6.below hb⟩
theorem sl_shape {s0 : RS} (hb : byteL s0.r) (lv mv : Value) (b : Bool) (hl : ∃ a l c, lv = .slice a l c) (hm : ∃ a l c, mv = .slice a l c) :
    (finX (clS (clS s0)).e b (flatP [(clD s0 lv).cells, (clD (clS s0) mv).cells]) (flatP [zCl.cells, zCl.cells])).size = 70 ∧ ∀ v ∈ finX (clS (clS s0)).e b (flatP [(clD s0 lv).cells, (clD (clS s0) mv).cells]) (flatP [zCl.cells, zCl.cells]), v.oneCell' = true := by
  rcases finX_two (e := (clS (clS s0)).e) (b := b) (X := flatP [(clD s0 lv).cells, (clD (clS s0) mv).cells]) (Z := flatP [zCl.cells, zCl.cells]) with h | ⟨_, _, h⟩
  · rw [h]; exact ⟨rfl, SlD.one0⟩
  · rw [h]
    exact ⟨by rw [flatP_size]; simp [ClD.len (clD_ok hb lv), ClD.len (clD_ok (clS_byte hb) mv)], slOne hl hm⟩

/-! ### Tables -/
def STab (w : World) (X Y : Array Value) : Prop := ∃ (c : CpD) (v1 v2 : Value) (l : List Int), X = flatP [c.cells, [v1]] ∧ Y = flatP [c.cells, [v2]] ∧ c.ok ∧ NumsV w v1 l ∧ NumsV w v2 l
theorem STab.below {w w' : World} {X Y : Array Value} (h : STab w X Y) (hb : Below w.heap.size w w') : STab w' X Y := by
  obtain ⟨c, v1, v2, l, e1, e2, h1, h2, h3⟩ := h
  exact ⟨c, v1, v2, l, e1, e2, h1, h2.below hb, h3.below hb⟩

def TabK (w : World) (s0 : RS) (N : Nat) (X : Array Value) (n e : Int) : Prop :=
  ∃ lv, X = finX (tdS s0).e true (flatP [(vCD s0).cells, [lv]]) (flatP zTb.parts) ∧ n = finU (tdS s0).e true ((N : Int) - ((tdS s0).r.length : Nat)) ∧ e = finE (tdS s0).e true ∧ Ints .u64 w lv (tdL s0)
theorem TabK.below {w w' : World} {s0 : RS} {N : Nat} {X : Array Value} {n e : Int} (h : TabK w s0 N X n e) (hb : Below w.heap.size w w') : TabK w' s0 N X n e := by
  obtain ⟨lv, h1, h2, h3, h5⟩ := h
  exact ⟨lv, h1, h2, h3, h5.below hb⟩
theorem tdL_rng {s : RS} (h : byteL s.r) : ∀ x ∈ tdL s, 0 ≤ x ∧ x ≤ 18446744073709551615 := by
  intro x hx
  unfold tdL tbV at hx
  obtain ⟨i, _, rfl⟩ := List.mem_map.1 hx
  exact vU_rng (stK_byte (nU_byte (nC_byte h)) i) (by unfold mxU; omega)
theorem tbOne0 : ∀ v ∈ flatP zTb.parts, v.oneCell' = true := fun v hv => (Array.all_eq_true_iff_forall_mem.1 (show (flatP zTb.parts).all (·.oneCell') = true by kernel_rfl)) v hv
theorem tb_shape {s0 : RS} (hb : byteL s0.r) (lv : Value) (hl : ∃ a l c, lv = .slice a l c) : (finX (tdS s0).e true (flatP [(vCD s0).cells, [lv]]) (flatP zTb.parts)).size = 34 ∧ ∀ v ∈ finX (tdS s0).e true (flatP [(vCD s0).cells, [lv]]) (flatP zTb.parts), v.oneCell' = true := by
  obtain ⟨a, l, c, rfl⟩ := hl
  rcases finX_two (e := (tdS s0).e) (b := true) (X := flatP [(vCD s0).cells, [.slice a l c]]) (Z := flatP zTb.parts) with h | ⟨_, _, h⟩
  · rw [h]; exact ⟨rfl, tbOne0⟩
  · rw [h]
    exact ⟨by rw [flatP_size]; simp [CpD.len (vCD_ok hb)], tbOne _ _ _ _⟩

/-! ### Blocks and verdicts -/
theorem zBk_ok : zBk.ok := ⟨zCp_ok, zCp_ok, ⟨by show (0 : Int) ≤ 0; omega, by show (0 : Int) ≤ _; omega⟩, zeroR_is, zeroR_is, zeroR_is, by show W256 0; unfold W256; omega, by show W256 0; unfold W256; omega, zCp_ok, zCp_ok⟩
theorem zVd_ok : zVd.ok := ⟨⟨by show (0 : Int) ≤ 0; omega, by show (0 : Int) ≤ _; omega⟩, ⟨by show _ ≤ (0 : Int); omega, by show (0 : Int) ≤ _; omega⟩, zeroR_is⟩
theorem vdD_ok {s : RS} (h : byteL s.r) : (vdD s).ok := by
  have b1 : byteL (nU mxU s).r := nU_byte h
  have h2 := vU_rng (m := 4) b1 (by omega)
  exact ⟨vU_rng h (by unfold mxU; omega), ⟨by show _ ≤ vU 4 (nU mxU s); omega, by show vU 4 (nU mxU s) ≤ _; omega⟩, vW_is (nU_byte b1)⟩

theorem blk_res {s0 : RS} (hb : byteL s0.r) : ∃ x : BkD, x.ok ∧ finX (bk11 s0).e true (flatP (bkV s0).parts) (flatP zBk.parts) = flatP x.parts := by
  rcases finX_two (e := (bk11 s0).e) (b := true) (X := flatP (bkV s0).parts) (Z := flatP zBk.parts) with h | ⟨_, _, h⟩
  · exact ⟨zBk, zBk_ok, h⟩
  · exact ⟨bkV s0, bkV_ok hb, h⟩
theorem vd_res {s0 : RS} (hb : byteL s0.r) (b : Bool) : ∃ x : VdD, x.ok ∧ finX (vdS s0).e b (flatP (vdD s0).parts) (flatP zVd.parts) = flatP x.parts := by
  rcases finX_two (e := (vdS s0).e) (b := b) (X := flatP (vdD s0).parts) (Z := flatP zVd.parts) with h | ⟨_, _, h⟩
  · exact ⟨zVd, zVd_ok, h⟩
  · exact ⟨vdD s0, vdD_ok hb, h⟩
end

end Go.Proofs.Ytmnojgdfbhdkhaa
