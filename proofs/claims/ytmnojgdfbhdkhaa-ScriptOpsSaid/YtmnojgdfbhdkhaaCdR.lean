/- The reader: its state in memory; NewReader, Err, Rest, Close, Uint. -/
import Derived.Test.YtmnojgdfbhdkhaaCdC
import Derived.Test.YtmnojgdfbhdkhaaCdP
import Derived.Maps.AppendAt
import Derived.Outline
set_option linter.unusedVariables false
namespace Go.Proofs.Ytmnojgdfbhdkhaa
open Go.RowKit
variable {lo : Nat}

/-- A block from lo on, below g. -/
def InR (lo g d : Nat) : Prop := lo ≤ d ∧ d < g
theorem InR.ne {g d : Nat} (h : InR lo g d) : d ≠ g := Nat.ne_of_lt h.2

/-- Block g holds a reader with these bytes left and this error; its bytes lie in an older block. -/
def Rdr (lo : Nat) (w : World) (g : Nat) (rest : List Int) (e : Int) : Prop := ∃ a l c, Blk w g #[.slice a l c, .int .i64 e] ∧ Byt w (.slice a l c) rest ∧ ∀ x, a = some x → 0 < l → InR lo g x.block

/-- A slice of bytes where block g alone is written. -/
theorem Byt.grownBy {w w' : World} {g l c : Nat} {a : Option Addr} {xs : List Int} (h : Byt w (.slice a l c) xs) (hg : w.grownBy w' (some g)) (hf : ∀ x, a = some x → 0 < l → x.block ≠ g) : Byt w' (.slice a l c) xs := by
  refine ⟨?_, h.rng, h.fits⟩
  obtain ⟨a, len, cap, e, hl, hm, hr⟩ := h.ints
  cases e
  refine ⟨_, _, _, rfl, hl, hm, ?_⟩
  by_cases h0 : l = 0
  · exact .inl h0
  rcases hr with h0 | ⟨b, off, rfl, hlt', hc⟩
  · exact .inl h0
  · have hne := hf _ rfl (by omega)
    refine .inr ⟨b, off, rfl, Nat.lt_of_lt_of_le hlt' hg.size, fun i hi => ?_⟩
    rw [hg.cell_far ⟨b, off + i, none⟩ hlt' (by simp only [ne_eq, Option.some.injEq]; exact hne)]
    exact hc i hi

theorem grownBy_below {w w' : World} {g N : Nat} (h : w.grownBy w' (some g)) (hN : N ≤ g) (hs : N ≤ w.heap.size) : Below N w w' :=
  (Below.refl N w).grown h hs (fun k hk => by cases hk; exact hN)
theorem grownBy_of_below {w w' : World} {row : Option Nat} (h : Below w.heap.size w w') : w.grownBy w' row := ⟨h.os, h.tape, h.output, h.size, fun k hk _ => h.block k hk⟩
theorem grownBy_set {w : World} {g j : Nat} {v : Value} : w.grownBy (w.setCell ⟨g, j, none⟩ v) (some g) :=
  ⟨rfl, rfl, rfl, by simp [World.setCell], fun k _ hne => Below.heap_setCell _ _ _ _ (fun e => hne (by rw [e]))⟩

theorem Rdr.two {w : World} {g : Nat} {v0 v1 : Value} (h : Blk w g #[v0, v1]) : w.cell? ⟨g, 0, none⟩ = some v0 ∧ w.cell? ⟨g, 1, none⟩ = some v1 ∧ ∀ j, w.frozen? ⟨g, j, none⟩ = false := ⟨h.cell 0, h.cell 1, h.free⟩

theorem Rdr.setErr {w : World} {g : Nat} {rest : List Int} {e e' : Int} (h : Rdr lo w g rest e) : Rdr lo (w.setCell ⟨g, 1, none⟩ (.int .i64 e')) g rest e' := by
  obtain ⟨a, l, c, hB, hY, hF⟩ := h
  exact ⟨a, l, c, hB.setCell (j := 1) (v := .int .i64 e'), hY.grownBy grownBy_set (fun x hx h0 => (hF x hx h0).ne), hF⟩

theorem Rdr.setRest {w : World} {g l c : Nat} {a : Option Addr} {rest r2 : List Int} {e : Int} (h : Rdr lo w g rest e) (h2 : Byt w (.slice a l c) r2) (hF : ∀ x, a = some x → 0 < l → InR lo g x.block) : Rdr lo (w.setCell ⟨g, 0, none⟩ (.slice a l c)) g r2 e := by
  obtain ⟨a', l', c', hB, hY, _⟩ := h
  refine ⟨a, l, c, hB.setCell (j := 0) (v := .slice a l c), h2.grownBy grownBy_set (fun x hx h0 => (hF x hx h0).ne), hF⟩

theorem Rdr.below {w w' : World} {g : Nat} {rest : List Int} {e : Int} (h : Rdr lo w g rest e) (hb : Below w.heap.size w w') : Rdr lo w' g rest e := by
  obtain ⟨a, l, c, hB, hY, hF⟩ := h
  exact ⟨a, l, c, hB.call hb, hY.below hb, hF⟩

theorem Rdr.belowN {w w' : World} {g N : Nat} {rest : List Int} {e : Int} (h : Rdr lo w g rest e) (hb : Below N w w') (hN : g < N) : Rdr lo w' g rest e := by
  obtain ⟨a, l, c, hB, hY, hF⟩ := h
  exact ⟨a, l, c, hB.below hb hN, hY.grow hb (fun a' l' c' e h0 => by cases e; exact Nat.lt_trans (hF _ rfl h0).2 hN), hF⟩

theorem Byt.drew {w : World} {v : Value} {xs : List Int} (h : Byt w v xs) : Byt w.drew v xs := ⟨show Ints .u8 w.drew v xs from h.ints, h.rng, h.fits⟩
theorem Rdr.drew {w : World} {g : Nat} {rest : List Int} {e : Int} (h : Rdr lo w g rest e) : Rdr lo w.drew g rest e := by
  obtain ⟨a, l, c, hB, hY, hF⟩ := h
  exact ⟨a, l, c, hB, hY.drew, hF⟩

theorem Byt.blk_lt {w : World} {a : Option Addr} {l c : Nat} {xs : List Int} (h : Byt w (.slice a l c) xs) : ∀ x, a = some x → 0 < l → x.block < w.heap.size := by
  rintro x rfl h0
  obtain ⟨_, _, _, e, _, _, hr⟩ := h.ints
  cases e
  rcases hr with h1 | ⟨b, off, e, hb, _⟩
  · omega
  · cases e; exact hb

theorem Rdr.lt {w : World} {g : Nat} {rest : List Int} {e : Int} (h : Rdr lo w g rest e) : g < w.heap.size := by
  obtain ⟨a, l, c, hB, hY, hF⟩ := h
  exact hB.lt

set_option maxHeartbeats 1000000 in
theorem newr_any (v : Value) (bs : List Int) (w : World) (h : Byt w v bs) (hb : bs.length ≤ 140737488355328) :
    Calls Try.prog 75 #[v] w fun e w' => ∃ g, e = .returned (.pointer (some ⟨g, 0, none⟩)) ∧ Rdr w.heap.size w' g bs 0 ∧ w.heap.size ≤ g ∧ Below w.heap.size w w' := by
  have D := Lib.hid (clone_lo v bs w h hb); clear h
  go_enter Try.func75, Try.ntmps75
  go_wp2_with (go_at_call 95; refine D.out.mono ?_; rintro e w1 ⟨v1, rfl, hy1, hlo1, hb1⟩; obtain ⟨a1, l1, c1, rfl⟩ := hy1.shape; have HLO := Lib.hid hlo1; clear hlo1; have HY1 := Lib.hid hy1; clear hy1; have HB1 := Lib.hid hb1; clear hb1)
  go_ret
  exact ⟨_, rfl, ⟨_, _, _, Blk.new rfl, HY1.out.alloc _, fun x hx h0 => ⟨HLO.out x _ _ (by rw [hx]), HY1.out.blk_lt x hx h0⟩⟩, HB1.out.size, HB1.out.alloc HB1.out.size _⟩

set_option maxHeartbeats 1000000 in
theorem err_any (g : Nat) (rest : List Int) (e : Int) (w : World) (h : Rdr lo w g rest e) :
    Calls Try.prog 78 #[.pointer (some ⟨g, 0, none⟩)] w fun en w' => en = .returned (.int .i64 e) ∧ w = w' := by
  obtain ⟨a, l, c, hB, hY, hF⟩ := h
  obtain ⟨c0, c1, c2⟩ := Rdr.two hB
  clear hB hY
  go_enter Try.func78, Try.ntmps78
  go_wp2_with fail
  go_ret
  exact ⟨rfl, rfl⟩

set_option maxHeartbeats 1000000 in
theorem rest_any (g : Nat) (rest : List Int) (e : Int) (w : World) (h : Rdr lo w g rest e) :
    Calls Try.prog 77 #[.pointer (some ⟨g, 0, none⟩)] w fun en w' => en = .returned (.int .i64 rest.length) ∧ w = w' := by
  obtain ⟨a, l, c, hB, hY, hF⟩ := h
  obtain ⟨a', l', c', e', hl, _⟩ := hY.ints
  cases e'
  rw [hl]
  obtain ⟨c0, c1, c2⟩ := Rdr.two hB
  clear hB hY hl
  go_enter Try.func77, Try.ntmps77
  go_wp2_with fail
  go_ret
  exact ⟨rfl, rfl⟩

def closeF (rest : List Int) (e : Int) : Int := if e ≠ 0 then e else if rest.length = 0 then 0 else 2

end Go.Proofs.Ytmnojgdfbhdkhaa
