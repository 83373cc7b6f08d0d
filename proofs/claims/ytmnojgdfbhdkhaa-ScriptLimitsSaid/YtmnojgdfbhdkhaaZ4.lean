/- Several texts as one: RdA, RdB, RdF, RdC, RdE, RdO, RdL, RdM, RdN, RdP, RdQ, RdW, RdR, RdT. -/
import Derived.Test.YtmnojgdfbhdkhaaZ1
import Derived.Test.YtmnojgdfbhdkhaaFromB
import Derived.Test.YtmnojgdfbhdkhaaCdH
import Derived.Test.YtmnojgdfbhdkhaaZ2
import Derived.Test.YtmnojgdfbhdkhaaZ3
namespace Go.Proofs.Ytmnojgdfbhdkhaa

/-! RdA -/
section
set_option linter.unusedVariables false
set_option linter.unusedSimpArgs false
open Go.RowKit

/-- Block g holds the reference's reader of the bytes xs (in another block), at position p, with error e. -/
structure Rfp (w : World) (g : Nat) (a : Option Addr) (l c : Nat) (xs : List Int) (p : Nat) (e : Int) : Prop where
  blk : Blk w g #[.slice a l c, .int .i64 p, .int .i64 e]
  byt : Byt w (.slice a l c) xs
  le : p ≤ xs.length
  far : ∀ x, a = some x → 0 < l → x.block ≠ g

section
variable {w w' : World} {g l c p p' : Nat} {a : Option Addr} {xs : List Int} {e e' : Int}

theorem Rfp.len (h : Rfp w g a l c xs p e) : xs.length = l := by
  obtain ⟨a', l', c', e', hl, _⟩ := h.byt.ints
  cases e'; exact hl

theorem Rfp.grown (h : Rfp w g a l c xs p e) (hg : w.grownBy w' (some g)) (hB : Blk w' g #[.slice a l c, .int .i64 p', .int .i64 e']) (hp : p' ≤ xs.length) : Rfp w' g a l c xs p' e' :=
  ⟨hB, h.byt.grownBy hg h.far, hp, h.far⟩

theorem Rfp.drewN (h : Rfp w g a l c xs p e) (n : Nat) : Rfp (w.drewN n) g a l c xs p e :=
  ⟨h.blk, ⟨show Ints .u8 (w.drewN n) _ xs from h.byt.ints, h.byt.rng, h.byt.fits⟩, h.le, h.far⟩

theorem Rfp.setE (h : Rfp w g a l c xs p e) : Rfp (w.setCell ⟨g, 2, none⟩ (.int .i64 e')) g a l c xs p e' :=
  h.grown grownBy_set (h.blk.setCell (j := 2) (v := .int .i64 e')) h.le

theorem Rfp.setAt (h : Rfp w g a l c xs p e) (hp : p' ≤ xs.length) : Rfp (w.setCell ⟨g, 1, none⟩ (.int .i64 p')) g a l c xs p' e :=
  h.grown grownBy_set (h.blk.setCell (j := 1) (v := .int .i64 p')) hp

theorem Rfp.three (h : Rfp w g a l c xs p e) : w.cell? ⟨g, 0, none⟩ = some (.slice a l c) ∧ w.cell? ⟨g, 1, none⟩ = some (.int .i64 p) ∧ w.cell? ⟨g, 2, none⟩ = some (.int .i64 e) ∧ ∀ j, w.frozen? ⟨g, j, none⟩ = false :=
  ⟨h.blk.cell 0, h.blk.cell 1, h.blk.cell 2, h.blk.free⟩

theorem Rfp.below (h : Rfp w g a l c xs p e) (hb : Below w.heap.size w w') : Rfp w' g a l c xs p e :=
  ⟨h.blk.call hb, h.byt.below hb, h.le, h.far⟩
end

theorem grownBy_drewN {w w' : World} {row : Option Nat} (h : w.grownBy w' row) (n : Nat) : w.grownBy (w'.drewN n) row := ⟨h.os, h.tape, h.output, h.size, h.block⟩

theorem grownBy_undrew {w w' : World} {row : Option Nat} {n : Nat} (h : (w.drewN n).grownBy w' row) : w.grownBy w' row := ⟨h.os, h.tape, h.output, h.size, h.block⟩

/-- What a reading of the reference promises. -/
def RfReads (w : World) (g : Nat) (a : Option Addr) (l c : Nat) (xs : List Int) (v : Value) (p : Nat) (e : Int) (en : Ending) (w' : World) : Prop := en = .returned v ∧ Rfp w' g a l c xs p e ∧ w.grownBy w' (some g)

set_option maxHeartbeats 1000000 in
theorem fail_any (g : Nat) (a : Option Addr) (l c : Nat) (xs : List Int) (p : Nat) (e2 : Int) (w : World) (h : Rfp w g a l c xs p 0) :
    Calls Try.prog 86 #[.pointer (some ⟨g, 0, none⟩), .int .i64 e2] w (RfReads w g a l c xs (.tuple #[]) p e2) := by
  have HR := Lib.hid h
  obtain ⟨c0, c1, c2, c3⟩ := h.three
  clear h
  go_enter Try.func86, Try.ntmps86
  go_wp2_with fail
  go_end0
  exact ⟨rfl, HR.out.setE, grownBy_set⟩

theorem and127B {x : Int} (h0 : 0 ≤ x) (h1 : x ≤ 255) : bits .and .u8 x 127 = x % 128 := by
  obtain ⟨n, rfl⟩ := Int.eq_ofNat_of_zero_le h0
  have key : ∀ x : _root_.Fin 256, bits .and .u8 (x.val : Int) 127 = (x.val : Int) % 128 := by decide +kernel
  exact key ⟨n, by omega⟩

theorem drewN_add (w : World) (m n : Nat) : (w.drewN m).drewN n = w.drewN (m + n) := by simp [World.drewN, Nat.add_assoc]

/-- What stands at the loop's head of raw. -/
def RawI (xs : List Int) (n i : Value) : Prop := ∃ (k : Nat) (m : Int), k ≤ 10 ∧ k ≤ xs.length ∧ i = .int .i64 k ∧ n = .int .u64 m ∧ (k < 10 → m = accU xs k) ∧ pu xs (10 - k) k = pu xs 10 0

/-- raw: number, place, error. -/
def RawP (w : World) (g : Nat) (a : Option Addr) (l c : Nat) (xs : List Int) (p : Nat) (r : Int × Int × Int) (en : Ending) (w' : World) : Prop :=
  en = .returned (.tuple #[.int .u64 r.1, .int .i64 ((p : Int) + r.2.1)]) ∧ Rfp w' g a l c xs p r.2.2 ∧ w.grownBy w' (some g)

theorem rawP_mk {w w' : World} {g l c p : Nat} {a : Option Addr} {xs : List Int} {r : Int × Int × Int} {n at' er : Int} (h : (n, at' - (p : Int), er) = r) (hr : Rfp w' g a l c xs p er) (hg : w.grownBy w' (some g)) :
    RawP w g a l c xs p r (.returned (.tuple #[.int .u64 n, .int .i64 at'])) w' := by
  subst h
  refine ⟨?_, hr, hg⟩
  show _ = Ending.returned (.tuple #[.int .u64 n, .int .i64 ((p : Int) + (at' - p))])
  rw [show (p : Int) + (at' - p) = at' by omega]

set_option maxRecDepth 100000 in
set_option maxHeartbeats 4000000 in
theorem raw_any (g : Nat) (a : Option Addr) (l c : Nat) (xs : List Int) (p : Nat) (w : World) (h : Rfp w g a l c xs p 0) :
    Calls Try.prog 85 #[.pointer (some ⟨g, 0, none⟩)] w (RawP w g a l c xs p (pu (xs.drop p) 10 0)) := by
  have hl := h.len
  have hfits := h.byt.fits _ _ _ rfl
  unfold maxLen at hfits
  have hple := h.le
  rw [hl] at hple
  have hrr : ∀ k, k < (xs.drop p).length → 0 ≤ (xs.drop p).getD k 0 ∧ (xs.drop p).getD k 0 ≤ 255 := fun k hk => by
    have e : (xs.drop p).getD k 0 = (xs.drop p)[k] := by simp [List.getD, List.getElem?_eq_getElem hk]
    rw [e]; exact h.byt.rng _ (List.mem_of_mem_drop (List.getElem_mem hk))
  have hdl : (xs.drop p).length = xs.length - p := List.length_drop
  have hget : ∀ k, (xs.drop p).getD k 0 = xs.getD (p + k) 0 := fun k => by simp [List.getD]
  have HRR := Lib.hid hrr; clear hrr
  have HDL := Lib.hid hdl; clear hdl
  have HG := Lib.hid hget; clear hget
  have HL := Lib.hid hl; clear hl
  have HR := Lib.hid h; clear h
  generalize xs.drop p = ys at *
  obtain ⟨res, hres⟩ : ∃ r, pu ys 10 0 = r := ⟨_, rfl⟩
  go_enter Try.func85, Try.ntmps85
  rw [hres]
  go_wp2_with fail
  go_loopw [4, 5] (fun n i wr => RawI ys n i ∧ ∃ m, wr = w.drewN m) (fun _ i _ => 10 - (intOf i).toNat)
  case atStart => exact ⟨⟨0, 0, by omega, by omega, rfl, rfl, fun _ => rfl, rfl⟩, 0, rfl⟩
  case round =>
    obtain ⟨⟨k, m, hk, hkl, rfl, rfl, hacc, hpu⟩, dn, rfl⟩ := hrel
    rw [HDL.out, HL.out] at hkl
    rw [hres] at hpu
    have HRES := Lib.hid hres
    clear hres
    obtain ⟨wr, hwr⟩ : ∃ wr, w.drewN dn = wr := ⟨_, rfl⟩
    have HRw := Lib.hid (HR.out.drewN dn)
    have HGr : Hid (w.grownBy (w.drewN dn) (some g)) := grownBy_drewN (World.grownBy.rfl' w _) dn
    rw [hwr] at HRw HGr
    rw [hwr]
    obtain ⟨c0, c1, c2, c3⟩ := HRw.out.three
    have DF := Lib.hid (fun n e2 => fail_any g a l c xs p e2 _ (HRw.out.drewN n))
    by_cases hlt : k < 10
    · have hk0 : (0 : Int) ≤ (k : Int) := by omega
      have hk2 : (k : Int) < 10 := by omega
      obtain rfl := hacc hlt
      clear hacc
      have hp := pu_step ys hlt
      rw [HDL.out, HL.out] at hp
      have hsum : IntKind.i64.wrap ((p : Int) + (k : Int)) = (p : Int) + (k : Int) := IntWalk.i64_in _ (by omega)
      by_cases hend : p + k = l
      · rw [if_pos (by omega), hpu] at hp
        have HP := Lib.hid hp.symm
        clear hpu hp
        have hge : decide ((l : Int) ≤ (p : Int) + (k : Int)) = true := by simp; omega
        have HEND := Lib.hid hend; clear hend
        go_wp2_with fail
        go_quiet (fail)
        clear hsum hge
        go_wp2_with (go_at_call 86; refine (DF.out _ _).mono ?_; rintro e w1 ⟨rfl, hr1, hg1⟩; obtain ⟨j0, j1, j2, j3⟩ := hr1.three; have HR1 := Lib.hid hr1; clear hr1; have HG1 := Lib.hid hg1; clear hg1)
        go_quiet (fail)
        go_wp2_with fail
        go_ret2
        exact rawP_mk (by rw [← HP.out]; simp) (HR1.out.drewN _) (HGr.out.trans (grownBy_drewN (grownBy_undrew HG1.out) _))
      · have hlt2 : p + k < l := by omega
        rw [if_neg (by omega)] at hp
        obtain ⟨a', l', c', e', hl1, hm1, hr⟩ := HRw.out.byt.ints
        cases e'
        rcases hr with h0 | ⟨b, off, rfl, hb, hc⟩
        · omega
        have hcell := hc (p + k) (by omega)
        have hx := HRR.out k (by rw [HDL.out, HL.out]; omega)
        rw [← HG.out] at hcell
        have HO := Lib.hid (fun h => or_next (xs := ys) (k := k) hx.1 h)
        obtain ⟨x, HX⟩ : ∃ x, Hid (x = ys.getD k 0) := ⟨_, rfl⟩
        rw [← HX.out] at hcell hx HO hp
        clear hc hl1 hm1
        have hge : decide ((l : Int) ≤ (p : Int) + (k : Int)) = false := by simp; omega
        have hnn : 0 ≤ (p : Int) + (k : Int) := by omega
        have htn : ((p : Int) + (k : Int)).toNat = p + k := by omega
        obtain ⟨acc, HA⟩ : ∃ acc, Hid (acc = accU ys k) := ⟨_, rfl⟩
        rw [← HA.out] at HO ⊢
        clear hend
        have hx255 := hx.2
        have hbit : IntKind.u64.wrap (IntKind.u64.wrap (bits .and .u8 x 127) * 2 ^ (7 * k)) = IntKind.u64.wrap (x % 128 * 2 ^ (k * 7)) := by
          rw [and127B hx.1 hx.2, show IntKind.u64.wrap (x % 128) = x % 128 by rw [IntKind.wrap_u64]; omega, Nat.mul_comm]
        have HBIT := Lib.hid hbit; clear hbit
        by_cases h128 : 128 ≤ x
        · rw [if_pos h128, hpu] at hp
          have hx1 : ¬ x < 128 := by omega
          have hx2 : 1 < x := by omega
          by_cases h9 : k = 9
          · subst h9
            have HP : Hid (((0 : Int), (0 : Int), (2 : Int)) = res) := by show _ = _; rw [hp]; rfl
            clear hpu hp
            go_wp2_with fail
            go_quiet (fail)
            clear hge hsum
            go_wp2_with fail
            go_quiet (fail)
            go_wp2_with (go_at_call 86; refine (DF.out _ _).mono ?_; rintro e w1 ⟨rfl, hr1, hg1⟩; obtain ⟨j0, j1, j2, j3⟩ := hr1.three; have HR1 := Lib.hid hr1; clear hr1; have HG1 := Lib.hid hg1; clear hg1)
            go_quiet (fail)
            go_wp2_with fail
            go_ret2
            exact rawP_mk (by rw [← HP.out]; simp) (HR1.out.drewN _) (HGr.out.trans (grownBy_drewN (grownBy_undrew HG1.out) _))
          · have HN : Hid (RawI ys (.int .u64 (bits .or .u64 acc (IntKind.u64.wrap (x % 128 * 2 ^ (k * 7))))) (.int .i64 ((k : Int) + 1))) :=
              ⟨k + 1, _, by omega, by rw [HDL.out, HL.out]; omega, rfl, rfl, fun h => HO.out (.inl (by omega)), by rw [← hp]; exact HRES.out.symm⟩
            have g9 : ((k : Int) == 9) = false := by simp; omega
            clear hpu hp
            go_wp2_with fail
            go_quiet (fail)
            clear hge hsum
            go_wp2_with fail
            go_quiet (fail)
            go_wp2_with fail
            rw [HBIT.out]
            exact ⟨⟨HN.out, _, by rw [← hwr]; exact drewN_add _ _ _⟩, by simp [intOf]; omega⟩
        · rw [if_neg h128, hpu] at hp
          clear hpu
          have hx1 : x < 128 := by omega
          by_cases hb9 : 1 < x ∧ k = 9
          · obtain ⟨hx2, rfl⟩ := hb9
            rw [if_pos (Or.inr ⟨hx2, rfl⟩)] at hp
            have HP := Lib.hid hp.symm; clear hp
            go_wp2_with fail
            go_quiet (fail)
            clear hge hsum
            go_wp2_with fail
            go_quiet (fail)
            go_wp2_with (go_at_call 86; refine (DF.out _ _).mono ?_; rintro e w1 ⟨rfl, hr1, hg1⟩; obtain ⟨j0, j1, j2, j3⟩ := hr1.three; have HR1 := Lib.hid hr1; clear hr1; have HG1 := Lib.hid hg1; clear hg1)
            go_quiet (fail)
            go_wp2_with fail
            go_ret2
            exact rawP_mk (by rw [← HP.out]; simp) (HR1.out.drewN _) (HGr.out.trans (grownBy_drewN (grownBy_undrew HG1.out) _))
          by_cases h0 : x = 0 ∧ 0 < k
          · obtain ⟨rfl, hk3⟩ := h0
            rw [if_pos (Or.inl ⟨rfl, hk3⟩)] at hp
            have HP := Lib.hid hp.symm; clear hp
            have hk4 : (0 : Int) < (k : Int) := by omega
            have hx9 : ¬ ((1 : Int) < 0) := by omega
            clear hb9
            by_cases h9 : k = 9
            · subst h9
              go_wp2_with fail
              go_quiet (fail)
              clear hge hsum
              go_wp2_with fail
              go_quiet (fail)
              go_wp2_with (go_at_call 86; refine (DF.out _ _).mono ?_; rintro e w1 ⟨rfl, hr1, hg1⟩; obtain ⟨j0, j1, j2, j3⟩ := hr1.three; have HR1 := Lib.hid hr1; clear hr1; have HG1 := Lib.hid hg1; clear hg1)
              go_quiet (fail)
              go_wp2_with fail
              go_ret2
              exact rawP_mk (by rw [← HP.out]; simp) (HR1.out.drewN _) (HGr.out.trans (grownBy_drewN (grownBy_undrew HG1.out) _))
            · have g9 : ((k : Int) == 9) = false := by simp; omega
              clear h9
              go_wp2_with fail
              go_quiet (fail)
              clear hge hsum
              go_wp2_with fail
              go_quiet (fail)
              go_wp2_with (go_at_call 86; refine (DF.out _ _).mono ?_; rintro e w1 ⟨rfl, hr1, hg1⟩; obtain ⟨j0, j1, j2, j3⟩ := hr1.three; have HR1 := Lib.hid hr1; clear hr1; have HG1 := Lib.hid hg1; clear hg1)
              go_quiet (fail)
              go_wp2_with fail
              go_ret2
              exact rawP_mk (by rw [← HP.out]; simp) (HR1.out.drewN _) (HGr.out.trans (grownBy_drewN (grownBy_undrew HG1.out) _))
          · rw [if_neg (by omega)] at hp
            have hsm : IntKind.i64.wrap ((p : Int) + (k : Int) + 1) = (p : Int) + (k : Int) + 1 := IntWalk.i64_in _ (by omega)
            have HP : Hid ((bits .or .u64 acc (IntKind.u64.wrap (x % 128 * 2 ^ (k * 7))), (p : Int) + (k : Int) + 1 - (p : Int), (0 : Int)) = res) := by
              show _ = _
              rw [hp, HO.out (by omega), show (p : Int) + (k : Int) + 1 - (p : Int) = (k : Int) + 1 by omega]
            clear hp HO
            by_cases hx0 : x = 0
            · have hk00 : k = 0 := by omega
              have hkn : ¬ (0 : Int) < (k : Int) := by omega
              have g9 : ((k : Int) == 9) = false := by simp; omega
              have HX0 := Lib.hid hx0
              have HK0 := Lib.hid hk00
              have gx : (x == 0) = true := by simpa using hx0
              clear h0 hb9 hx0 hk00
              go_wp2_with fail
              go_quiet (fail)
              clear hge hsum
              go_wp2_with fail
              go_quiet (fail)
              go_wp2_with fail
              go_quiet (fail)
              go_wp2_with fail
              go_ret2
              exact rawP_mk (by rw [HBIT.out]; exact HP.out) ((HRw.out.drewN _).drewN _) (HGr.out.trans (grownBy_drewN (grownBy_drewN (World.grownBy.rfl' _ _) _) _))
            · have gx : (x == 0) = false := by simpa using hx0
              have HX0 := Lib.hid hx0; clear hx0 h0
              by_cases h9 : k = 9
              · have g9 : ((k : Int) == 9) = true := by simp; omega
                have hx9 : ¬ (1 : Int) < x := by omega
                clear hb9 h9
                go_wp2_with fail
                go_quiet (fail)
                clear hge hsum
                go_wp2_with fail
                go_quiet (fail)
                go_wp2_with fail
                go_quiet (fail)
                go_wp2_with fail
                go_ret2
                exact rawP_mk (by rw [HBIT.out]; exact HP.out) ((HRw.out.drewN _).drewN _) (HGr.out.trans (grownBy_drewN (grownBy_drewN (World.grownBy.rfl' _ _) _) _))
              · have g9 : ((k : Int) == 9) = false := by simp; omega
                clear hb9 h9
                go_wp2_with fail
                go_quiet (fail)
                clear hge hsum
                go_wp2_with fail
                go_quiet (fail)
                go_wp2_with fail
                go_quiet (fail)
                go_wp2_with fail
                go_ret2
                exact rawP_mk (by rw [HBIT.out]; exact HP.out) ((HRw.out.drewN _).drewN _) (HGr.out.trans (grownBy_drewN (grownBy_drewN (World.grownBy.rfl' _ _) _) _))
    · obtain rfl : k = 10 := by omega
      have HP : Hid (((0 : Int), (0 : Int), (2 : Int)) = res) := by show _ = _; rw [← hpu]; rfl
      clear hpu hacc
      go_wp2_with (go_at_call 86; refine (DF.out 0 _).mono ?_; rintro e w1 ⟨rfl, hr1, hg1⟩; obtain ⟨j0, j1, j2, j3⟩ := hr1.three; have HR1 := Lib.hid hr1; clear hr1; have HG1 := Lib.hid hg1; clear hg1)
      go_quiet (fail)
      go_wp2_with fail
      go_ret2
      exact rawP_mk (by rw [← HP.out]; simp) (HR1.out.drewN _) (HGr.out.trans (grownBy_drewN (grownBy_undrew HG1.out) _))
end

/-! RdB -/
section
set_option linter.unusedVariables false
set_option linter.unusedSimpArgs false
open Go.RowKit

/-- The reader in the words of the code's: what is left, and the error. -/
structure Rfs (w : World) (g : Nat) (a : Option Addr) (l c : Nat) (xs : List Int) (s : RS) : Prop where
  fp : Rfp w g a l c xs (xs.length - s.r.length) s.e
  rest : s.r = xs.drop (xs.length - s.r.length)

def RfV (w : World) (g : Nat) (a : Option Addr) (l c : Nat) (xs : List Int) (v : Value) (s : RS) (en : Ending) (w' : World) : Prop := en = .returned v ∧ Rfs w' g a l c xs s ∧ w.grownBy w' (some g)

theorem drop_place {xs r : List Int} {k : Nat} (h : r = xs.drop k) : xs.length - r.length = min k xs.length := by subst h; rw [List.length_drop]; omega

theorem Rfs.mk' {w : World} {g l c p : Nat} {a : Option Addr} {xs r : List Int} {e : Int} (h : Rfp w g a l c xs p e) (hr : r = xs.drop p) : Rfs w g a l c xs ⟨r, e⟩ := by
  have e1 : xs.length - r.length = p := by rw [drop_place hr]; have := h.le; omega
  exact ⟨by show Rfp w g a l c xs (xs.length - r.length) e; rw [e1]; exact h, by show r = xs.drop (xs.length - r.length); rw [e1]; exact hr⟩

set_option maxRecDepth 100000 in
set_option maxHeartbeats 4000000 in
theorem rfu_any (g : Nat) (a : Option Addr) (l c : Nat) (xs : List Int) (s : RS) (most : Int) (w : World) (h : Rfs w g a l c xs s) (hm0 : 0 ≤ most) (hm1 : most ≤ 18446744073709551615) :
    Calls Try.prog 59 #[.pointer (some ⟨g, 0, none⟩), .int .u64 most] w (RfV w g a l c xs (.int .u64 (vU most s)) (nU most s)) := by
  obtain ⟨r, e⟩ := s
  obtain ⟨hfp, hrest⟩ := h
  simp only at hfp hrest
  obtain ⟨p, hp⟩ : ∃ p, xs.length - r.length = p := ⟨_, rfl⟩
  rw [hp] at hfp hrest
  clear hp
  show Calls _ _ _ _ (RfV w g a l c xs (.int .u64 (ruV r e most)) ⟨ruR r e most, ruE r e most⟩)
  unfold ruV ruR ruE
  have hRr := Rfs.mk' hfp hrest
  have HRr := Lib.hid hRr; clear hRr
  have hP := pu_rng r (fun k hk => by
    have e : r.getD k 0 = r[k] := by simp [List.getD, List.getElem?_eq_getElem hk]
    have hm : r[k] ∈ xs.drop p := by rw [← hrest]; exact List.getElem_mem hk
    rw [e]; exact hfp.byt.rng _ (List.mem_of_mem_drop hm)) 10 0 rfl
  obtain ⟨c0, c1, c2, c3⟩ := hfp.three
  by_cases he : e = 0
  case neg =>
    rw [if_pos he, if_pos he, if_pos he]
    have hne : (e != 0) = true := by simpa using he
    clear hP
    go_enter Try.func59, Try.ntmps59
    go_wp2_with fail
    go_ret
    exact ⟨rfl, HRr.out, World.grownBy.rfl' _ _⟩
  subst he
  simp only [ne_eq, not_true_eq_false, if_false]
  have D := raw_any g a l c xs p w hfp
  rw [← hrest] at D
  have hl := congrArg List.length hrest
  rw [List.length_drop] at hl
  have hple := hfp.le
  generalize pu r 10 0 = q at *
  obtain ⟨n, k, er⟩ := q
  simp only at hP D ⊢
  have HD := Lib.hid D; clear D
  have HREST := Lib.hid hrest; clear hrest
  have HFP := Lib.hid hfp; clear hfp
  obtain ⟨n0, n1, k0, k1, her⟩ := hP
  obtain ⟨k, rfl⟩ := Int.eq_ofNat_of_zero_le k0
  rw [Int.toNat_natCast]
  by_cases h1 : er = 0
  case neg =>
    rw [if_pos h1, if_pos h1, if_pos h1]
    have hne : (er != 0) = true := by simpa using h1
    clear her h1
    go_enter Try.func59, Try.ntmps59
    go_wp2_with (go_at_call 85; refine HD.out.mono ?_; rintro en w1 ⟨rfl, hr1, hg1⟩; simp only at hr1; obtain ⟨j0, j1, j2, j3⟩ := hr1.three; have HR1 := Lib.hid hr1; clear hr1; have HG1 := Lib.hid hg1; clear hg1)
    go_ret
    exact ⟨rfl, Rfs.mk' HR1.out HREST.out, HG1.out⟩
  subst h1
  simp only [not_true_eq_false, if_false]
  clear her
  by_cases h2 : most < n
  · rw [if_pos h2, if_pos h2, if_pos h2]
    go_enter Try.func59, Try.ntmps59
    go_wp2_with (first
      | (go_at_call 85; refine HD.out.mono ?_; rintro en w1 ⟨rfl, hr1, hg1⟩; simp only at hr1; obtain ⟨j0, j1, j2, j3⟩ := hr1.three; have HR1 := Lib.hid hr1; clear hr1; have HG1 := Lib.hid hg1; clear hg1)
      | (go_at_call 86; refine (fail_any g a l c xs p 3 _ HR1.out).mono ?_; rintro en w2 ⟨rfl, hr2, hg2⟩; have HR2 := Lib.hid hr2; clear hr2; have HG2 := Lib.hid hg2; clear hg2))
    go_ret
    exact ⟨rfl, Rfs.mk' HR2.out HREST.out, HG1.out.trans HG2.out⟩
  · rw [if_neg h2, if_neg h2, if_neg h2]
    go_enter Try.func59, Try.ntmps59
    go_wp2_with (go_at_call 85; refine HD.out.mono ?_; rintro en w1 ⟨rfl, hr1, hg1⟩; simp only at hr1; obtain ⟨j0, j1, j2, j3⟩ := hr1.three; have HR1 := Lib.hid hr1; clear hr1; have HG1 := Lib.hid hg1; clear hg1)
    go_ret
    refine ⟨rfl, Rfs.mk' (p := p + k) ?_ (by rw [HREST.out, List.drop_drop]), HG1.out.trans grownBy_set⟩
    have := HR1.out.setAt (p' := p + k) (by omega)
    rwa [Int.natCast_add] at this

theorem upd_set1 {w : World} {g j : Nat} {v : Value} (m : Nat) : Upd g w ((w.drewN m).setCell ⟨g, j, none⟩ v) :=
  ⟨rfl, rfl, rfl, by simp [World.setCell], fun b hb => Below.heap_setCell (w.drewN m) _ _ _ hb⟩

/-- take's value: some slice of these bytes. -/
def RfT (w : World) (g : Nat) (a : Option Addr) (l c : Nat) (xs : List Int) (ys : List Int) (s : RS) (en : Ending) (w' : World) : Prop :=
  ∃ a' l' c', en = .returned (.slice a' l' c') ∧ Byt w' (.slice a' l' c') ys ∧ (∀ x, a' = some x → 0 < l' → ∃ y, a = some y ∧ 0 < l ∧ y.block = x.block) ∧ Rfs w' g a l c xs s ∧ w.grownBy w' (some g)

theorem rft_end {w u : World} {g l c n : Nat} {a a' : Option Addr} {c' : Nat} {xs ys r' : List Int} {v : Value} (hU : Upd g w u) (hB : Blk u g #[.slice a l c, v, .int .i64 0])
    (hK : ∀ u, Upd g w u → Blk u g #[.slice a l c, v, .int .i64 0] → Rfs u g a l c xs ⟨r', 0⟩ ∧ w.grownBy u (some g)) (hy : Byt w (.slice a' n c') ys) (hf : ∀ x, a' = some x → 0 < n → ∃ y, a = some y ∧ 0 < l ∧ y.block = x.block) (hfar : ∀ x, a = some x → 0 < l → x.block ≠ g) :
    RfT w g a l c xs ys ⟨r', 0⟩ (.returned (.slice a' n c')) u := by
  obtain ⟨h1, h2⟩ := hK u hU hB
  exact ⟨a', n, c', rfl, hy.grownBy h2 (fun x hx h0 => by obtain ⟨y, hy1, hy2, hy3⟩ := hf x hx h0; rw [← hy3]; exact hfar y hy1 hy2), hf, h1, h2⟩

set_option maxRecDepth 100000 in
set_option maxHeartbeats 4000000 in
theorem rft_any (g : Nat) (a : Option Addr) (l c : Nat) (xs : List Int) (s : RS) (n : Nat) (w : World) (h : Rfs w g a l c xs s) (hn : n ≤ 1000000) :
    Calls Try.prog 112 #[.pointer (some ⟨g, 0, none⟩), .int .i64 n] w (RfT w g a l c xs (tkV s.r s.e n) ⟨tkR s.r s.e n, tkE s.r s.e n⟩) := by
  obtain ⟨r, e⟩ := s
  obtain ⟨hfp, hrest⟩ := h
  simp only at hfp hrest ⊢
  obtain ⟨p, hp⟩ : ∃ p, xs.length - r.length = p := ⟨_, rfl⟩
  rw [hp] at hfp hrest
  clear hp
  unfold tkV tkR tkE
  have HRr := Lib.hid (Rfs.mk' hfp hrest)
  obtain ⟨c0, c1, c2, c3⟩ := hfp.three
  by_cases he : e = 0
  case neg =>
    rw [if_pos he, if_pos he, if_pos he]
    have hne : (e != 0) = true := by simpa using he
    go_enter Try.func112, Try.ntmps112
    go_wp2_with fail
    go_ret
    exact ⟨none, 0, 0, rfl, byt_nil _, (fun x hx => by cases hx), HRr.out, World.grownBy.rfl' _ _⟩
  subst he
  simp only [ne_eq, not_true_eq_false, if_false]
  have hl := congrArg List.length hrest
  rw [List.length_drop] at hl
  have hple := hfp.le
  have hxl := hfp.len
  have hfits := hfp.byt.fits _ _ _ rfl
  unfold maxLen at hfits
  rw [hxl] at hl hple
  have HREST := Lib.hid hrest; clear hrest
  have HFP := Lib.hid hfp; clear hfp
  have HXL := Lib.hid hxl; clear hxl
  have HLR := Lib.hid hl
  have hsub : IntKind.i64.wrap ((l : Int) - (p : Int)) = (l : Int) - (p : Int) := IntWalk.i64_in _ (by omega)
  by_cases h2 : (r.length : Int) < (n : Int)
  · rw [if_pos h2, if_pos h2, if_pos h2]
    have hgt : decide ((l : Int) - (p : Int) < (n : Int)) = true := by simp; omega
    clear h2 hl
    go_enter Try.func112, Try.ntmps112
    go_wp2_with fail
    go_quiet (fail)
    clear hsub hgt
    go_wp2_with (go_at_call 86; refine (fail_any g a l c xs p 5 _ (HFP.out.drewN _)).mono ?_; rintro en w2 ⟨rfl, hr2, hg2⟩; have HR2 := Lib.hid hr2; clear hr2; have HG2 := Lib.hid hg2; clear hg2)
    go_ret
    exact ⟨none, 0, 0, rfl, byt_nil _, (fun x hx => by cases hx), Rfs.mk' HR2.out HREST.out, grownBy_undrew HG2.out⟩
  · rw [if_neg h2, if_neg h2, if_neg h2, Int.toNat_natCast]
    have hgt : decide ((l : Int) - (p : Int) < (n : Int)) = false := by simp; omega
    have hpn : p + n ≤ l := by omega
    have hadd : IntKind.i64.wrap ((p : Int) + (n : Int)) = (p : Int) + (n : Int) := IntWalk.i64_in _ (by omega)
    have h00 : (0 : Int) ≤ (p : Int) + (n : Int) := by omega
    have htn : ((p : Int) + (n : Int)).toNat = p + n := by omega
    clear h2 hl
    have HD1 : Hid (c = p → Byt w (.slice a n 0) (r.take n)) := fun h => by
      have := HFP.out.byt.drop (k := p) (by omega)
      rw [if_pos h, ← HREST.out] at this
      have := this.take (k := n) (by omega)
      rwa [show c - p = 0 by omega] at this
    have HD2 : Hid (¬ c = p → Byt w (.slice (a.map (·.add p)) n (c - p)) (r.take n)) := fun h => by
      have := HFP.out.byt.drop (k := p) (by omega)
      rw [if_neg h, ← HREST.out] at this
      exact this.take (k := n) (by omega)
    have HF1 : Hid (∀ x, a.map (·.add p) = some x → 0 < n → ∃ y, a = some y ∧ 0 < l ∧ y.block = x.block) := fun x hx h0 => by
      cases ha : a with
      | none => rw [ha] at hx; cases hx
      | some y =>
        rw [ha] at hx
        have e : y.add p = x := by simpa using hx
        subst e
        have eb : (y.add p).block = y.block := by unfold Addr.add; split <;> rfl
        exact ⟨y, rfl, by omega, eb.symm⟩
    have HFAR := Lib.hid HFP.out.far
    have HK : Hid (∀ u, Upd g w u → Blk u g #[.slice a l c, .int .i64 ((p : Int) + (n : Int)), .int .i64 0] → Rfs u g a l c xs ⟨r.drop n, 0⟩ ∧ w.grownBy u (some g)) := fun u hU hB => by
      have hg : w.grownBy u (some g) := ⟨hU.os, hU.tape, hU.output, by rw [hU.size]; exact Nat.le_refl _, fun k _ hne => hU.block k (fun e => hne (by rw [e]))⟩
      refine ⟨Rfs.mk' (p := p + n) (HFP.out.grown hg (by rw [Int.natCast_add]; exact hB) (by rw [HXL.out]; omega)) (by rw [HREST.out, List.drop_drop]), hg⟩
    have HBL := Lib.hid HFP.out.blk
    go_enter Try.func112, Try.ntmps112
    go_wp2_with fail
    go_quiet (fail)
    clear hsub hgt
    go_wp2_with fail
    go_quiet (fail)
    go_wp2_with fail
    · go_ret
      obtain rfl : c = p := by omega
      exact rft_end (upd_set1 _) (Blk.setCell (j := 1) HBL.out.drewN) HK.out (HD1.out rfl) (fun x hx h0 => by omega) HFAR.out
    · go_ret
      exact rft_end (upd_set1 _) (Blk.setCell (j := 1) HBL.out.drewN) HK.out (HD2.out (by omega)) HF1.out HFAR.out
end

/-! RdF -/
section
set_option linter.unusedVariables false
set_option linter.unusedSimpArgs false
open Go.RowKit

set_option maxHeartbeats 2000000 in
theorem rfromB_any (n : Int) (hn : W256 n) (w : World) :
    Calls Try.prog 116 #[.agg ((bytesN n).map (Value.int .u8)).toArray] w fun e w' => e = .returned (.agg #[.int .u64 (l0 (n)), .int .u64 (l1 (n)), .int .u64 (l2 (n)), .int .u64 (l3 (n))]) ∧ Below w.heap.size w w' := by
  obtain ⟨X, HX⟩ : ∃ X, Hid (X = ((bytesN n).map (Value.int .u8)).toArray) := ⟨_, rfl⟩
  rw [← HX.out]
  go_enter Try.func116, Try.ntmps116
  go_wp2_with fail
  go_loopw [4] (fun i wr => FromI w n i wr) (fun i _ => 32 - (intOf i).toNat)
  case atStart =>
    refine ⟨0, 0, by omega, rfl, by simp [Int.emod_one], ?_, ?_, ?_, ?_⟩
    · exact (((Below.refl _ _).alloc (Nat.le_refl _) _).alloc (by simp) _).alloc (by simp; omega) _
    · rw [← HX.out]; exact ((Blk.new rfl).alloc _).alloc _
    · exact (Blk.new (by simp)).alloc _
    · rw [limbs_zero.1, limbs_zero.2.1, limbs_zero.2.2.1, limbs_zero.2.2.2]; exact Blk.new (by simp)
  case round =>
    obtain ⟨k, s, hk, rfl, hs, hb, bX, bR, bS⟩ := hrel
    have HS := Lib.hid hs; clear hs
    obtain ⟨s0, s1, s2, s3, s4⟩ := bS.four
    by_cases hlt : k < 32
    · obtain ⟨t, ht⟩ : ∃ t, k % 8 = t := ⟨_, rfl⟩
      have hj4 : k / 8 = 0 ∨ k / 8 = 1 ∨ k / 8 = 2 ∨ k / 8 = 3 := by omega
      have hm : (k : Int).tmod 8 = t := by rw [Int.tmod_eq_emod_of_nonneg (by omega)]; omega
      have hm' : (k : Int) % 8 = t := by omega
      have htl : t < 8 := by omega
      have hk0 : (0 : Int) ≤ (k : Int) := by omega
      have hk2 : (k : Int) < 32 := by omega
      have hw31 : IntKind.i64.wrap (31 - (k : Int)) = 31 - (k : Int) := by
        simp only [IntKind.wrap, IntKind.signed, IntKind.bits]; simp; omega
      obtain ⟨v, HV⟩ : ∃ v, Hid (v = byteN n k) := ⟨_, rfl⟩
      have cx := bytes_cell bX (k := 31 - k) (by rw [(bytesN_is n).1]; omega)
      rw [bytesN_at n hlt, ← HV.out] at cx
      have hv := byteN_rng n k
      rw [← HV.out] at hv
      obtain ⟨hv0, hv1⟩ := hv
      have HNX := Lib.hid (show s + v * (2 : Int) ^ (8 * k) = n % (2 : Int) ^ (8 * (k + 1)) by rw [mod_byte, HS.out, HV.out])
      have HS0 := Lib.hid (show 0 ≤ s by rw [HS.out]; exact Int.emod_nonneg _ (by have := pow_pos2 (8 * k); omega))
      have HS1 := Lib.hid (show s < (2 : Int) ^ (8 * k) by rw [HS.out]; exact Int.emod_lt_of_pos _ (pow_pos2 _))
      have HB := Lib.hid hb; clear hb
      have hcomm : t * 8 = 8 * t := Nat.mul_comm _ _
      rcases hj4 with hj | hj | hj | hj
      · have hd : (k : Int).tdiv 8 = 0 := by rw [Int.tdiv_eq_ediv_of_nonneg (by omega)]; omega
        have hd' : (k : Int) / 8 = 0 := by omega
        have HK := Lib.hid (show k = 0 + t by omega)
        clear ht hj
        go_wp2_with fail
        go_region
        go_wp2_with fail
        refine ⟨⟨k + 1, s + v * (2 : Int) ^ (8 * k), by omega, rfl, HNX.out, ?_, ?_, ?_, ?_⟩, by simp [intOf]; omega⟩
        · exact (HB.out.setCell (by simp; omega) _).drew
        · exact blk_drew' (bX.setCell_other (by omega))
        · exact blk_drew' (bR.setCell_other (by omega))
        · exact blk_drew' (put_byte_0 htl HK.out HS0.out HS1.out hv0 hv1 bS)
      · have hd : (k : Int).tdiv 8 = 1 := by rw [Int.tdiv_eq_ediv_of_nonneg (by omega)]; omega
        have hd' : (k : Int) / 8 = 1 := by omega
        have HK := Lib.hid (show k = 8 + t by omega)
        clear ht hj
        go_wp2_with fail
        go_region
        go_wp2_with fail
        refine ⟨⟨k + 1, s + v * (2 : Int) ^ (8 * k), by omega, rfl, HNX.out, ?_, ?_, ?_, ?_⟩, by simp [intOf]; omega⟩
        · exact (HB.out.setCell (by simp; omega) _).drew
        · exact blk_drew' (bX.setCell_other (by omega))
        · exact blk_drew' (bR.setCell_other (by omega))
        · exact blk_drew' (put_byte_1 htl HK.out HS0.out HS1.out hv0 hv1 bS)
      · have hd : (k : Int).tdiv 8 = 2 := by rw [Int.tdiv_eq_ediv_of_nonneg (by omega)]; omega
        have hd' : (k : Int) / 8 = 2 := by omega
        have HK := Lib.hid (show k = 16 + t by omega)
        clear ht hj
        go_wp2_with fail
        go_region
        go_wp2_with fail
        refine ⟨⟨k + 1, s + v * (2 : Int) ^ (8 * k), by omega, rfl, HNX.out, ?_, ?_, ?_, ?_⟩, by simp [intOf]; omega⟩
        · exact (HB.out.setCell (by simp; omega) _).drew
        · exact blk_drew' (bX.setCell_other (by omega))
        · exact blk_drew' (bR.setCell_other (by omega))
        · exact blk_drew' (put_byte_2 htl HK.out HS0.out HS1.out hv0 hv1 bS)
      · have hd : (k : Int).tdiv 8 = 3 := by rw [Int.tdiv_eq_ediv_of_nonneg (by omega)]; omega
        have hd' : (k : Int) / 8 = 3 := by omega
        have HK := Lib.hid (show k = 24 + t by omega)
        clear ht hj
        go_wp2_with fail
        go_region
        go_wp2_with fail
        refine ⟨⟨k + 1, s + v * (2 : Int) ^ (8 * k), by omega, rfl, HNX.out, ?_, ?_, ?_, ?_⟩, by simp [intOf]; omega⟩
        · exact (HB.out.setCell (by simp; omega) _).drew
        · exact blk_drew' (bX.setCell_other (by omega))
        · exact blk_drew' (bR.setCell_other (by omega))
        · exact blk_drew' (put_byte_3 htl HK.out HS0.out HS1.out hv0 hv1 bS)
    · obtain rfl : k = 32 := by omega
      have hs' : s = n := by
        rw [HS.out, show (2 : Int) ^ (8 * 32) = 115792089237316195423570985008687907853269984665640564039457584007913129639936 from by decide]
        exact Int.emod_eq_of_lt hn.1 hn.2
      rw [hs'] at s0 s1 s2 s3
      obtain ⟨z0, z1, z2, z3, z4⟩ := bR.four
      have HBB := Lib.hid hb
      clear hb hs'
      go_wp2_with fail
      obtain ⟨tR, hR⟩ := bR.store4 (v0 := .int .u64 (l0 n)) (v1 := .int .u64 (l1 n)) (v2 := .int .u64 (l2 n)) (v3 := .int .u64 (l3 n))
      refine bodyPost_ret (results_cell_row rfl _ _ (w.heap.size + 1) tR _ (0, 0) _ rfl hR Try.underlying30 rfl (by kernel_rfl)) rfl ⟨rfl, ?_⟩
      exact below_store4 HBB.out (by omega)
end

/-! RdC -/
section
set_option linter.unusedVariables false
set_option linter.unusedSimpArgs false
open Go.RowKit

theorem Rfs.three {w : World} {g l c : Nat} {a : Option Addr} {xs : List Int} {s : RS} (h : Rfs w g a l c xs s) : ∃ p : Nat, w.cell? ⟨g, 0, none⟩ = some (.slice a l c) ∧ w.cell? ⟨g, 1, none⟩ = some (.int .i64 p) ∧ w.cell? ⟨g, 2, none⟩ = some (.int .i64 s.e) ∧ (∀ j, w.frozen? ⟨g, j, none⟩ = false) ∧ p = xs.length - s.r.length :=
  ⟨_, h.fp.three.1, h.fp.three.2.1, h.fp.three.2.2.1, h.fp.three.2.2.2, rfl⟩

theorem Rfs.byteL {w : World} {g l c : Nat} {a : Option Addr} {xs : List Int} {s : RS} (h : Rfs w g a l c xs s) : byteL s.r := fun x hx => h.fp.byt.rng x (List.mem_of_mem_drop (h.rest ▸ hx))

theorem Rfs.setErr {w : World} {g l c : Nat} {a : Option Addr} {xs r : List Int} {e e' : Int} (h : Rfs w g a l c xs ⟨r, e⟩) : Rfs (w.setCell ⟨g, 2, none⟩ (.int .i64 e')) g a l c xs ⟨r, e'⟩ := ⟨h.fp.setE, h.rest⟩

theorem Rfs.below {w w' : World} {g l c : Nat} {a : Option Addr} {xs : List Int} {s : RS} (h : Rfs w g a l c xs s) (hb : Below w.heap.size w w') : Rfs w' g a l c xs s := ⟨h.fp.below hb, h.rest⟩
theorem Rfs.drewN {w : World} {g l c : Nat} {a : Option Addr} {xs : List Int} {s : RS} (h : Rfs w g a l c xs s) (n : Nat) : Rfs (w.drewN n) g a l c xs s := ⟨h.fp.drewN n, h.rest⟩
theorem Rfs.lt {w : World} {g l c : Nat} {a : Option Addr} {xs : List Int} {s : RS} (h : Rfs w g a l c xs s) : g < w.heap.size := h.fp.blk.lt

/-- The reader is put back to an earlier state's place. -/
theorem Rfs.back {w w' : World} {g l c : Nat} {a : Option Addr} {xs r r' : List Int} {e e' : Int} (h : Rfs w' g a l c xs ⟨r', e'⟩) (h0 : Rfs w g a l c xs ⟨r, e⟩) {p : Nat} (hp : p = xs.length - r.length) : Rfs (w'.setCell ⟨g, 1, none⟩ (.int .i64 p)) g a l c xs ⟨r, e'⟩ := by
  subst hp
  exact ⟨h.fp.setAt h0.fp.le, h0.rest⟩

theorem tkB {r : List Int} {e : Int} : tkV r e 1 = (if e = 0 ∧ 0 < r.length then [r.getD 0 0] else []) ∧ tkR r e 1 = (if e = 0 ∧ 0 < r.length then r.drop 1 else r) ∧ tkE r e 1 = (if e ≠ 0 then e else if r.length = 0 then 5 else 0) := by
  unfold tkV tkR tkE
  by_cases he : e = 0
  · subst he
    cases r with
    | nil => simp
    | cons x t =>
      have h : ¬ ((((x :: t).length : Nat)) : Int) < 1 := by rw [List.length_cons]; omega
      simp only [ne_eq, not_true_eq_false, if_false, if_neg h]
      simp
  · simp [he]

set_option maxRecDepth 100000 in
set_option maxHeartbeats 4000000 in
theorem rfb_any (g : Nat) (a : Option Addr) (l c : Nat) (xs : List Int) (s : RS) (w : World) (h : Rfs w g a l c xs s) :
    Calls Try.prog 111 #[.pointer (some ⟨g, 0, none⟩)] w (RfV w g a l c xs (.bool (vB s)) (nB s)) := by
  obtain ⟨r, e⟩ := s
  obtain ⟨p, c0, c1, c2, c3, hp⟩ := h.three
  simp only at c2 hp
  have T := rft_any g a l c xs ⟨r, e⟩ 1 w h (by omega)
  have hby : byteL r := h.byteL
  simp only [Int.natCast_one] at T
  rw [tkB.1, tkB.2.1, tkB.2.2] at T
  show Calls _ _ _ _ (RfV w g a l c xs (.bool (bV r e)) ⟨bR r e, bE r e⟩)
  unfold bV bR bE
  have HW := Lib.hid h; clear h
  have HP := Lib.hid hp; clear hp
  by_cases he : e = 0
  case neg =>
    rw [if_neg (fun h => he h.1), if_pos he, decide_eq_false (fun h => he h.1)]
    rw [if_neg (fun h => he h.1), if_neg (fun h => he h.1), if_pos he] at T
    have HT := Lib.hid T; clear T
    have hne : (e != 0) = true := by simpa using he
    go_enter Try.func111, Try.ntmps111
    go_wp2_with (go_at_call 112; refine HT.out.mono ?_; rintro en w1 ⟨a1, l1, k1, rfl, hy1, hf1, hr1, hg1⟩; obtain ⟨p1, d0, d1, d2, d3, _⟩ := hr1.three; simp only at d2; have HR1 := Lib.hid hr1; clear hr1 hy1 hf1; have HG1 := Lib.hid hg1; clear hg1)
    go_ret
    exact ⟨rfl, HR1.out, HG1.out⟩
  subst he
  simp only [ne_eq, not_true_eq_false, if_false, true_and] at T ⊢
  by_cases h0 : r.length = 0
  case pos =>
    obtain rfl : r = [] := List.eq_nil_of_length_eq_zero h0
    simp only [List.length_nil, Nat.lt_irrefl, if_false, if_true, false_and, decide_false] at T ⊢
    have HT := Lib.hid T; clear T h0
    go_enter Try.func111, Try.ntmps111
    go_wp2_with (go_at_call 112; refine HT.out.mono ?_; rintro en w1 ⟨a1, l1, k1, rfl, hy1, hf1, hr1, hg1⟩; obtain ⟨p1, d0, d1, d2, d3, _⟩ := hr1.three; simp only at d2; have HR1 := Lib.hid hr1; clear hr1 hy1 hf1; have HG1 := Lib.hid hg1; clear hg1)
    go_ret
    exact ⟨rfl, HR1.out, HG1.out⟩
  case neg =>
    have h1 : 0 < r.length := by omega
    rw [if_pos h1, if_pos h1, if_neg h0] at T
    rw [if_neg h0]
    simp only [h1, true_and]
    have hx : 0 ≤ r.getD 0 0 ∧ r.getD 0 0 ≤ 255 := by
      have e1 : r.getD 0 0 = r[0] := by simp [List.getD, List.getElem?_eq_getElem h1]
      rw [e1]; exact hby _ (List.getElem_mem h1)
    generalize r.getD 0 0 = x at *
    have HT := Lib.hid T; clear T h0 h1
    by_cases h2 : 1 < x
    · have h3 : decide (x = 1) = false := by simp; omega
      rw [if_neg (by omega), if_pos h2, h3]
      go_enter Try.func111, Try.ntmps111
      go_wp2_with (first
        | (go_at_call 112; refine HT.out.mono ?_; rintro en w1 ⟨a1, l1, k1, rfl, hy1, hf1, hr1, hg1⟩; obtain ⟨_, _, _, e', hl1, _, hc1⟩ := hy1.ints; cases e'; obtain rfl : l1 = 1 := hl1.symm; obtain ⟨p1, d0, d1, d2, d3, _⟩ := hr1.three; simp only at d2
           rcases hc1 with hc1 | ⟨b1, o1, rfl, hb1, hc1⟩
           · cases hc1
           have hcx := hc1 0 (by omega)
           rw [Nat.add_zero, List.getD_cons_zero] at hcx
           have hbg : b1 ≠ g := by
             obtain ⟨y, hy1', hy2, hy3⟩ := hf1 _ rfl (by omega)
             have := HW.out.fp.far y hy1' hy2
             rw [hy3] at this; exact this
           have HR1 := Lib.hid hr1; clear hr1 hy1 hf1 hc1 hl1; have HG1 := Lib.hid hg1; clear hg1)
        | (go_at_call 86; refine (fail_any g a l c xs p 2 _ (HP.out ▸ (HR1.out.back HW.out HP.out).fp)).mono ?_; rintro en w2 ⟨rfl, hr2, hg2⟩; have HR2 := Lib.hid hr2; clear hr2; have HG2 := Lib.hid hg2; clear hg2))
      go_ret
      exact ⟨rfl, Rfs.mk' HR2.out (HP.out ▸ HW.out.rest), (HG1.out.trans grownBy_set).trans HG2.out⟩
    · rw [if_pos (by omega), if_neg h2]
      have h3 : (x == 1) = decide (x = 1) := rfl
      have hx1 : x ≤ 1 := by omega
      have HX : Hid (decide (x = 1) = decide (x = 1)) := rfl
      obtain ⟨bx, hbx⟩ : ∃ b, decide (x = 1) = b := ⟨_, rfl⟩
      rw [hbx] at h3 ⊢
      clear hbx HX
      go_enter Try.func111, Try.ntmps111
      go_wp2_with (go_at_call 112; refine HT.out.mono ?_; rintro en w1 ⟨a1, l1, k1, rfl, hy1, hf1, hr1, hg1⟩; obtain ⟨_, _, _, e', hl1, _, hc1⟩ := hy1.ints; cases e'; obtain rfl : l1 = 1 := hl1.symm; obtain ⟨p1, d0, d1, d2, d3, _⟩ := hr1.three; simp only at d2
                   rcases hc1 with hc1 | ⟨b1, o1, rfl, hb1, hc1⟩
                   · cases hc1
                   have hcx := hc1 0 (by omega)
                   rw [Nat.add_zero, List.getD_cons_zero] at hcx
                   have HR1 := Lib.hid hr1; clear hr1 hy1 hf1 hc1 hl1; have HG1 := Lib.hid hg1; clear hg1)
      go_ret
      exact ⟨rfl, HR1.out, HG1.out⟩

/-- The first k bytes, and zeros. -/
def mixK (ys : List Int) (k : Nat) : List Int := ys.take k ++ zeroR.drop k

theorem mixK_zero (ys : List Int) : mixK ys 0 = zeroR := by simp [mixK]
theorem mixK_len {ys : List Int} {k : Nat} (hk : k ≤ ys.length) (h : ys.length ≤ 32) : (mixK ys k).length = 32 := by simp [mixK, zeroR]; omega
theorem mixK_next {ys : List Int} {k : Nat} (hk : k < ys.length) (h : ys.length ≤ 32) : (bytesV (mixK ys k)).setIfInBounds k (.int .u8 (ys.getD k 0)) = bytesV (mixK ys (k + 1)) := by
  have hz : k < zeroR.length := by simp [zeroR]; omega
  have e1 : mixK ys (k + 1) = (mixK ys k).set k (ys.getD k 0) := by
    unfold mixK
    rw [List.set_append_right _ _ (by rw [List.length_take]; omega), List.length_take, show k - min k ys.length = 0 by omega, List.drop_eq_getElem_cons hz, List.set_cons_zero, List.take_succ_eq_append_getElem hk]
    simp only [List.append_assoc, List.singleton_append, List.getD, List.getElem?_eq_getElem hk, Option.getD_some]
  rw [e1]
  simp [bytesV, List.map_set]

/-- What Root's loop holds. -/
def RootI (w1 : World) (h1 : Nat) (ys : List Int) (i : Value) (wr : World) : Prop := ∃ k : Nat, k ≤ ys.length ∧ i = .int .i64 k ∧ Upd h1 w1 wr ∧ Blk wr h1 (bytesV (mixK ys k))

theorem Upd.rfl' (h : Nat) (w : World) : Upd h w w := ⟨rfl, rfl, rfl, rfl, fun _ _ => rfl⟩
theorem Upd.trans {h : Nat} {w w1 w2 : World} (h1 : Upd h w w1) (h2 : Upd h w1 w2) : Upd h w w2 :=
  ⟨h2.os.trans h1.os, h2.tape.trans h1.tape, h2.output.trans h1.output, h2.size.trans h1.size, fun b hb => (h2.block b hb).trans (h1.block b hb)⟩
theorem Upd.setCell (w : World) (h j : Nat) (v : Value) : Upd h w (w.setCell ⟨h, j, none⟩ v) := ⟨rfl, rfl, rfl, by simp [World.setCell], fun b hb => Below.heap_setCell w _ _ _ hb⟩

theorem Byt.updOther {w w' : World} {b : Nat} {a : Option Addr} {l c : Nat} {xs : List Int} (h : Byt w (.slice a l c) xs) (hU : Upd b w w') (hne : ∀ x, a = some x → 0 < l → x.block ≠ b) : Byt w' (.slice a l c) xs := by
  refine ⟨?_, h.rng, h.fits⟩
  obtain ⟨a', len, cap, e, hl, hm, hr⟩ := h.ints
  cases e
  refine ⟨_, _, _, rfl, hl, hm, ?_⟩
  by_cases h0 : l = 0
  · exact .inl h0
  rcases hr with h1 | ⟨d, off, rfl, hlt, hc⟩
  · exact absurd h1 h0
  · have hd := hne _ rfl (by omega)
    refine .inr ⟨d, off, rfl, by rw [hU.size]; exact hlt, fun i hi => ?_⟩
    rw [show w'.cell? ⟨d, off + i, none⟩ = w.cell? ⟨d, off + i, none⟩ by simp only [World.cell?, hU.block d hd]]
    exact hc i hi

theorem Rfs.upd {w w' : World} {g b l c : Nat} {a : Option Addr} {xs : List Int} {s : RS} (h : Rfs w g a l c xs s) (hU : Upd b w w') (hg : g ≠ b) (hne : ∀ x, a = some x → 0 < l → x.block ≠ b) : Rfs w' g a l c xs s :=
  ⟨⟨hU.blk h.fp.blk hg, h.fp.byt.updOther hU hne, h.fp.le, h.fp.far⟩, h.rest⟩

theorem Rfs.blk_lt {w : World} {g l c : Nat} {a : Option Addr} {xs : List Int} {s : RS} (h : Rfs w g a l c xs s) : ∀ x, a = some x → 0 < l → x.block < w.heap.size := h.fp.byt.blk_lt

theorem upd_grown {w w1 w2 : World} {g b : Nat} (h1 : w.grownBy w1 (some g)) (hU : Upd b w1 w2) (hb : w.heap.size ≤ b) : w.grownBy w2 (some g) :=
  ⟨hU.os.trans h1.os, hU.tape.trans h1.tape, hU.output.trans h1.output, by rw [hU.size]; exact h1.size, fun k hk hne => (hU.block k (by omega)).trans (h1.block k hk hne)⟩

set_option maxRecDepth 100000 in
set_option maxHeartbeats 4000000 in
theorem rfr_any (g : Nat) (a : Option Addr) (l c : Nat) (xs : List Int) (s : RS) (w : World) (h : Rfs w g a l c xs s) :
    Calls Try.prog 88 #[.pointer (some ⟨g, 0, none⟩)] w (RfV w g a l c xs (.agg (bytesV (vW s))) (nW s)) := by
  obtain ⟨r, e⟩ := s
  have hglt := h.lt
  have hblt := h.blk_lt
  obtain ⟨Z, hZ⟩ : ∃ Z, Z = bytesV zeroR := ⟨_, rfl⟩
  have hsz : Z.size = 32 := by rw [hZ]; rfl
  obtain ⟨hz32, hst⟩ := zero_array (P := Try.prog) (t := 24) (n := 32) Z (by rw [hZ]; kernel_rfl) hsz (by rw [hZ]; kernel_rfl)
  have HZ := Lib.hid hZ; clear hZ
  have hba := ((Below.refl w.heap.size w).alloc (Nat.le_refl _) (.cells Z 24)).alloc (by simp) (.cells Z 24)
  have T := rft_any g a l c xs ⟨r, e⟩ 32 _ (h.below hba) (by omega)
  simp only [] at T
  have HWI := Lib.hid (wV_is (e := e) h.byteL)
  clear h
  show Calls _ _ _ _ (RfV w g a l c xs (.agg (bytesV (wV r e))) ⟨tkR r e 32, tkE r e 32⟩)
  have hTK := tk32 r e
  have hTL : (tkV r e 32).length ≤ 32 := by
    rcases hTK with ⟨h1, _⟩ | ⟨h1, h2⟩
    · rw [h1]; simp
    · rw [h1, h2]; omega
  have hEnd : mixK (tkV r e 32) (tkV r e 32).length = wV r e := by
    rcases hTK with ⟨h1, h2⟩ | ⟨h1, h2⟩
    · rw [h1, h2]; simp [mixK]
    · rw [h1, h2, mixK, List.take_of_length_le (by omega)]; simp [zeroR]
  have HEnd := Lib.hid hEnd; clear hEnd hTK
  have T' : Hid (Calls Try.prog 112 #[.pointer (some ⟨g, 0, none⟩), .int .i64 32] ((w.alloc (.cells Z 24)).alloc (.cells Z 24)) _) := T
  clear T
  have B2 : Hid (Blk ((w.alloc (.cells Z 24)).alloc (.cells Z 24)) w.heap.size Z) := (Blk.new rfl).alloc _
  have B3 : Hid (Blk ((w.alloc (.cells Z 24)).alloc (.cells Z 24)) (w.heap.size + 1) Z) := Blk.new (by simp)
  have HBA := Lib.hid hba; clear hba
  have HSZ : Hid (((w.alloc (.cells Z 24)).alloc (.cells Z 24)).heap.size = w.heap.size + 2) := by show _ = _; simp
  generalize tkV r e 32 = ys at *
  generalize tkR r e 32 = r2 at *
  generalize tkE r e 32 = e2 at *
  go_enter Try.func88, Try.ntmps88
  go_wp2_with (go_at_call 112; refine T'.out.mono ?_; rintro en w1 ⟨a1, l1, k1, rfl, hy1, hf1, hr1, hg1⟩; have C3 := Lib.hid (B3.out.grown hg1 (by simp; omega)); have C2 := Lib.hid (B2.out.grown hg1 (by simp; omega)); have hw1 := HSZ.out ▸ hg1.size; have HR1 := Lib.hid hr1; clear hr1; have HG1 := Lib.hid hg1; clear hg1)
  have hl1 : ys.length = l1 := by obtain ⟨_, _, _, e', hl1, _⟩ := hy1.ints; cases e'; exact hl1
  have HY1 := Lib.hid hy1; clear hy1
  have HF1 := Lib.hid hf1; clear hf1
  have HL1 := Lib.hid hl1; clear hl1
  clear hz32 hst
  go_loopw [5] (fun i wr => RootI w1 (w.heap.size + 1) ys i wr) (fun i _ => 32 - (intOf i).toNat)
  case atStart => exact ⟨0, by omega, rfl, Upd.rfl' _ _, by rw [mixK_zero, ← HZ.out]; exact C3.out⟩
  case round =>
    obtain ⟨k, hk, rfl, hU, hB⟩ := hrel
    rw [HL1.out] at hk
    have hl32 : l1 ≤ 32 := by rw [← HL1.out]; exact hTL
    have hYr := HY1.out.updOther hU (fun x hx h0 => by obtain ⟨y, hy1, hy2, hy3⟩ := HF1.out x hx h0; have := hblt y hy1 hy2; omega)
    by_cases hlt : k < l1
    · have hlt' : k < ys.length := by rw [HL1.out]; exact hlt
      obtain ⟨_, _, _, e', _, _, hc⟩ := hYr.ints
      cases e'
      rcases hc with hc | ⟨b, o, rfl, hb, hc⟩
      · omega
      have hcx := hc k hlt
      have hx := hYr.at hlt'
      have hst1 : wr.cell? ⟨w.heap.size + 1, k, none⟩ = some (.int .u8 ((mixK ys k).getD k 0)) := by rw [hB.cell]; exact bytesV_at (by rw [mixK_len (by omega) hTL]; omega)
      have hfr := hB.free k
      have HN := Lib.hid (mixK_next hlt' hTL)
      generalize ys.getD k 0 = x at *
      generalize (mixK ys k).getD k 0 = y at *
      have HU := Lib.hid hU; clear hU hYr hc
      have HBr := Lib.hid hB; clear hB
      have hk0 : (0 : Int) ≤ (k : Int) := by omega
      have hk32 : (k : Int) < 32 := by omega
      go_wp2_with fail
      go_roundw
      case rel => exact ⟨k + 1, by rw [HL1.out]; omega, by go_num, HU.out.trans (Upd.setCell _ _ _ _), by rw [← HN.out]; exact HBr.out.setCell⟩
      case measure => simp [intOf]; omega
    · obtain rfl : k = l1 := by omega
      have D2 := Lib.hid (hU.blk C2.out (by omega))
      have HRr := Lib.hid (HR1.out.upd hU (by omega) (fun x hx h0 => by have := hblt x hx h0; omega))
      have HGr := Lib.hid (upd_grown (w := w) (grownBy_cut (World.grownBy.rfl' w (some g)) (HBA.out) |>.trans HG1.out) hU (by omega))
      have hX0 : (bytesV (wV r e)).size = 32 := bytesV_size HWI.out.1
      have hX1 := bytesV_one (wV r e)
      rw [← HL1.out, HEnd.out] at hB
      generalize bytesV (wV r e) = X at *
      have HB := Lib.hid hB; clear hB hU hYr
      have HX1 := Lib.hid hX1; clear hX1
      have HIX : Hid ((Try.prog.info? 24).map (·.size) = some X.size) := by show _ = _; rw [hX0]; kernel_rfl
      go_wp2_with (first
        | ((with_reducible refine at_load (.tmp 3) ?_); refine wpList_load_blk rfl 24 (.tmp 3) rfl (w.heap.size + 1) rfl X _ HB.out Try.underlying24 rfl HIX.out ?_)
        | ((with_reducible refine at_store (.tmp 2) ?_); refine wpList_store_blk rfl 24 (.tmp 2) _ rfl w.heap.size X rfl rfl Z D2.out (by rw [hsz, hX0]) HIX.out HX1.out ?_; intro w6 U6 B6))
      refine bodyPost_ret (res_cellR rfl rfl B6 Try.underlying24 rfl HIX.out) rfl ⟨rfl, HRr.out.upd U6 (by omega) (fun x hx h0 => by have := hblt x hx h0; omega), upd_grown HGr.out U6 (Nat.le_refl _)⟩
end

/-! RdE -/
section
set_option linter.unusedVariables false
set_option linter.unusedSimpArgs false
open Go.RowKit

/-- One part of a struct is laid over a zero part. -/
theorem fill_part {place : Nat → Option (Nat × Nat)} {zs : List (List Value)} {i o : Nat} {v : Value} {rest : List (Nat × Value)} (k : Nat) (p q : List Value) (hk : zs[k]? = some p) (hv : v.cells = q.toArray) (hl : q.length = p.length) (ho : offP zs k = o)
    (hp : place i = some (o, q.length)) : Instr.fill place (flatP zs) ((i, v) :: rest) = Instr.fill place (flatP (zs.set k q)) rest := by
  unfold flatP
  have hs : v.cells.size = q.length := by rw [hv]; simp
  rw [flatP_split hk, flatP_set hk, ← List.append_assoc]
  have e : (((zs.take k).flatten ++ p) ++ (zs.drop (k + 1)).flatten).toArray = ((zs.take k).flatten ++ (p ++ (zs.drop (k + 1)).flatten)).toArray := by rw [List.append_assoc]
  rw [e, fill_step (v := v) (by rw [hp, ← ho, hs]; rfl) (by rw [hs, List.length_append]; omega), hs, hv]
  congr 2
  rw [hl, List.drop_left]
  simp

theorem hz_zero {P : Program} {t : TypeId} {Z : Array Value} (hz : (P.info? t).map (fun i => i.zero) = some (some (.agg Z))) (w : World) : (zeroValue t).run P w = .ok (.agg Z) w := by
  cases hq : P.info? t with
  | none => simp [hq] at hz
  | some i =>
    have : i.zero = some (.agg Z) := by simpa [hq] using hz
    simp [zeroValue, typeInfo, hq, this]

set_option maxRecDepth 100000 in
set_option maxHeartbeats 4000000 in
theorem rfw_any (g : Nat) (a : Option Addr) (l c : Nat) (xs : List Int) (s : RS) (w : World) (h : Rfs w g a l c xs s) :
    Calls Try.prog 110 #[.pointer (some ⟨g, 0, none⟩)] w (RfV w g a l c xs (.agg (wideL (numOf (vW s))).toArray) (nW s)) := by
  have hglt := h.lt
  have hblt := h.blk_lt
  have hba := (Below.refl w.heap.size w).alloc (Nat.le_refl _) (.cells (wideL 0).toArray 30)
  have D1 := Lib.hid (rfr_any g a l c xs s _ (h.below hba))
  obtain ⟨hn, hnb⟩ := numOf_ok (vW_is h.byteL)
  clear h
  have D2 := Lib.hid (rfromB_any (numOf (vW s)) hn)
  have HB2 : Hid ((.agg (bytesV (vW s)) : Value) = .agg ((bytesN (numOf (vW s))).map (Value.int .u8)).toArray) := by show _ = _; rw [hnb]; rfl
  generalize numOf (vW s) = n at *
  clear hnb
  have B0 : Hid (Blk (w.alloc (.cells (wideL 0).toArray 30)) w.heap.size (wideL 0).toArray) := Blk.new rfl
  have HBA := Lib.hid hba; clear hba
  have HSZ : Hid ((w.alloc (.cells (wideL 0).toArray 30)).heap.size = w.heap.size + 1) := by show _ = _; simp
  have HI : Hid ((Try.prog.info? 30).map (·.size) = some (wideL n).toArray.size) := by show _ = _; kernel_rfl
  go_enter Try.func110, Try.ntmps110
  go_wp2_with (first
    | (go_at_call 88; refine D1.out.mono ?_; rintro en w1 ⟨rfl, hr1, hg1⟩; have C1 := Lib.hid (B0.out.grown hg1 (by simp; omega)); have HR1 := Lib.hid hr1; clear hr1; have HG1 := Lib.hid hg1; clear hg1; rw [HB2.out])
    | (go_at_call 116; refine (D2.out _).mono ?_; rintro en w2 ⟨rfl, hb2⟩; have C2 := Lib.hid (C1.out.call hb2); have HR2 := Lib.hid (HR1.out.below hb2); have HG2 := Lib.hid (grownBy_cut ((grownBy_cut (World.grownBy.rfl' w (some g)) HBA.out).trans HG1.out) (hb2.mono (by have := HG1.out.size; rw [HSZ.out] at this; omega))); clear hb2)
    | ((with_reducible refine at_store (.tmp 2) ?_); refine wpList_store_blk rfl 30 (.tmp 2) _ rfl w.heap.size (wideL n).toArray rfl rfl _ C2.out rfl HI.out (by intro v hv; exact wideL_one n v (by simpa using hv)) ?_; intro w6 U6 B6))
  refine bodyPost_ret (res_cellR rfl rfl B6 Try.underlying30 rfl HI.out) rfl ⟨rfl, HR2.out.upd U6 (by omega) (fun x hx h0 => by have := hblt x hx h0; omega), upd_grown HG2.out U6 (Nat.le_refl _)⟩

theorem zCp_Z : zCp.cells.toArray = cpV 0 zeroR := rfl

set_option maxRecDepth 100000 in
set_option maxHeartbeats 4000000 in
theorem rfc_any (g : Nat) (a : Option Addr) (l c : Nat) (xs : List Int) (s : RS) (w : World) (h : Rfs w g a l c xs s) :
    Calls Try.prog 89 #[.pointer (some ⟨g, 0, none⟩)] w (RfV w g a l c xs (.agg (vCD s).cells.toArray) (nC s)) := by
  have hglt := h.lt
  have hblt := h.blk_lt
  have hby := h.byteL
  obtain ⟨Z, hZ⟩ : ∃ Z, Z = cpV 0 zeroR := ⟨_, rfl⟩
  have hsz : Z.size = 33 := by rw [hZ]; exact cpV_size zeroR_is
  obtain ⟨hz33, hst⟩ := zero_array (P := Try.prog) (t := 26) (n := 33) Z (by rw [hZ]; kernel_rfl) hsz (by rw [hZ]; kernel_rfl)
  have HZ := Lib.hid hZ; clear hZ
  have HZ1 := Lib.hid (show ∀ v ∈ Z, v.oneCell' = true by rw [HZ.out]; exact cpV_one _ _)
  have HIZ : Hid ((Try.prog.info? 26).map (·.size) = some Z.size) := by show _ = _; rw [hsz]; kernel_rfl
  have hba := (Below.refl w.heap.size w).alloc (Nat.le_refl _) (.cells Z 26)
  have h0 := h.below hba
  obtain ⟨p, c0, c1, c2, c3, hp⟩ := h0.three
  have HP := Lib.hid hp; clear hp
  have D1 := Lib.hid (rfu_any g a l c xs s 18446744073709551615 _ h0 (by omega) (by omega))
  have HH := Lib.hid h0; clear h h0
  have D2 := Lib.hid (fun u (h : Rfs u g a l c xs (nU mxU s)) => rfr_any g a l c xs _ u h)
  have B0 : Hid (Blk (w.alloc (.cells Z 26)) w.heap.size Z) := Blk.new rfl
  have HBA := Lib.hid hba; clear hba
  have HSZ : Hid ((w.alloc (.cells Z 26)).heap.size = w.heap.size + 1) := by show _ = _; simp
  have hW : IsBytes 32 (vW (nU mxU s)) := vW_is (nU_byte hby)
  have BC := Lib.hid (build_cp (vU mxU s) (vW (nU mxU s)) hW)
  have hY0 : (cpV (vU mxU s) (vW (nU mxU s))).size = 33 := cpV_size hW
  have hY1 := cpV_one (vU mxU s) (vW (nU mxU s))
  have hE : cpE s.r s.e = (nW (nU mxU s)).e := rfl
  have hcase : (cpE s.r s.e = 0 → (vCD s).cells.toArray = cpV (vU mxU s) (vW (nU mxU s)) ∧ nC s = nW (nU mxU s)) ∧ (cpE s.r s.e ≠ 0 → (vCD s).cells.toArray = cpV 0 zeroR ∧ nC s = ⟨s.r, cpE s.r s.e⟩) := by
    refine ⟨fun h => ⟨?_, ?_⟩, fun h => ⟨?_, ?_⟩⟩
    · unfold vCD; rw [if_pos h]; rfl
    · unfold nC cpR; rw [if_pos h]; rfl
    · unfold vCD; rw [if_neg h]; rfl
    · unfold nC cpR; rw [if_neg h]
  have HC := Lib.hid hcase; clear hcase
  have D2' : Hid (∀ u, Rfs u g a l c xs (nU mxU s) → Calls Try.prog 88 #[.pointer (some ⟨g, 0, none⟩)] u (RfV u g a l c xs (.agg (bytesV (vW (nU mxU s)))) (nW (nU mxU s)))) := D2
  clear D2
  obtain ⟨V, HV⟩ : ∃ V, Hid ((vCD s).cells.toArray = V) := ⟨_, rfl⟩
  obtain ⟨N, HN⟩ : ∃ N, Hid (nC s = N) := ⟨_, rfl⟩
  rw [HV.out, HN.out] at HC
  rw [HV.out, HN.out]
  generalize vU mxU s = v1 at *
  generalize vW (nU mxU s) = r1 at *
  generalize nU mxU s = s1 at *
  generalize nW s1 = s2 at *
  obtain ⟨e2, he2⟩ : ∃ e, cpE s.r s.e = e := ⟨_, rfl⟩
  rw [he2] at HC hE
  generalize cpV v1 r1 = Y at *
  have HY1 := Lib.hid hY1; clear hY1
  have HIY : Hid ((Try.prog.info? 26).map (·.size) = some Y.size) := by show _ = _; rw [hY0]; kernel_rfl
  clear hW he2
  by_cases he : e2 = 0
  case pos =>
    obtain ⟨hv, hn⟩ := HC.out.1 he
    have HE := Lib.hid (hE.symm.trans he)
    rw [hv, hn]
    clear hv hn HV HN
    clear hE he HC
    go_enter Try.func89, Try.ntmps89
    go_wp2_with (first
      | (go_at_call 59; refine D1.out.mono ?_; rintro en w1 ⟨rfl, hr1, hg1⟩; have C1 := Lib.hid (B0.out.grown hg1 (by simp; omega)); have HR1 := Lib.hid hr1; clear hr1; have HG1 := Lib.hid hg1; clear hg1)
      | (go_at_call 88; refine (D2'.out _ HR1.out).mono ?_; rintro en w2 ⟨rfl, hr2, hg2⟩
         have hsz2 : w.heap.size + 1 ≤ w2.heap.size := by have h1 := HG1.out.size; rw [HSZ.out] at h1; have h2 := hg2.size; omega
         have C2 := Lib.hid (C1.out.grown hg2 (by simp; omega)); have HR2 := Lib.hid hr2; clear hr2; have HG2 := Lib.hid (((grownBy_cut (World.grownBy.rfl' w (some g)) HBA.out).trans HG1.out).trans hg2); clear hg2)
      | ((with_reducible refine at_build (some 13) ?_); (refine wpList_build rfl 26 _ rfl #[(0, .int .u64 v1), (1, .agg (bytesV r1))] (by simp [Act.eval, Act.put]) (.agg Y) (BC.out _) ?_))
      | ((with_reducible refine at_store (.tmp 4) ?_); refine wpList_store_blk rfl 26 (.tmp 4) _ rfl w2.heap.size Y rfl rfl Z (Blk.new rfl) (by rw [hsz, hY0]) HIY.out HY1.out ?_; intro w5 U5 B5
         have hb5 : Below w2.heap.size w2 w5 := U5.below ((Below.refl _ w2).alloc (Nat.le_refl _) _) (Nat.le_refl _)
         have hr5 := HR2.out.below hb5
         obtain ⟨p5, k0, k1, k2, k3, _⟩ := hr5.three
         rw [HE.out] at k2
         have HR5 := Lib.hid hr5; clear hr5
         have C5 := Lib.hid (C2.out.call hb5)
         have HG5 := Lib.hid (HG2.out.trans (grownBy_of_below hb5)); clear hb5 U5
         have HB5 := Lib.hid B5; clear B5)
      | ((with_reducible refine at_load (.tmp 4) ?_); refine wpList_load_blk rfl 26 (.tmp 4) rfl w2.heap.size rfl Y _ HB5.out Try.underlying26 rfl HIY.out ?_)
      | ((with_reducible refine at_store (.tmp 2) ?_); refine wpList_store_blk rfl 26 (.tmp 2) _ rfl w.heap.size Y rfl rfl Z C5.out (by rw [hsz, hY0]) HIY.out HY1.out ?_; intro w6 U6 B6))
    refine bodyPost_ret (res_cellR rfl rfl B6 Try.underlying26 rfl HIY.out) rfl ⟨rfl, HR5.out.upd U6 (by omega) (fun x hx h0 => by have := hblt x hx h0; omega), upd_grown HG5.out U6 (Nat.le_refl _)⟩
  case neg =>
    obtain ⟨hv, hn⟩ := HC.out.2 he
    have HE := Lib.hid hE.symm
    have hne : (e2 != 0) = true := by simpa using he
    rw [hv, hn]
    clear hv hn HV HN
    clear hE he HC
    go_enter Try.func89, Try.ntmps89
    go_wp2_with (first
      | (go_at_call 59; refine D1.out.mono ?_; rintro en w1 ⟨rfl, hr1, hg1⟩; have C1 := Lib.hid (B0.out.grown hg1 (by simp; omega)); have HR1 := Lib.hid hr1; clear hr1; have HG1 := Lib.hid hg1; clear hg1)
      | (go_at_call 88; refine (D2'.out _ HR1.out).mono ?_; rintro en w2 ⟨rfl, hr2, hg2⟩
         have hsz2 : w.heap.size + 1 ≤ w2.heap.size := by have h1 := HG1.out.size; rw [HSZ.out] at h1; have h2 := hg2.size; omega
         have C2 := Lib.hid (C1.out.grown hg2 (by simp; omega)); have HR2 := Lib.hid hr2; clear hr2; have HG2 := Lib.hid (((grownBy_cut (World.grownBy.rfl' w (some g)) HBA.out).trans HG1.out).trans hg2); clear hg2)
      | ((with_reducible refine at_build (some 13) ?_); (refine wpList_build rfl 26 _ rfl #[(0, .int .u64 v1), (1, .agg (bytesV r1))] (by simp [Act.eval, Act.put]) (.agg Y) (BC.out _) ?_))
      | ((with_reducible refine at_store (.tmp 4) ?_); refine wpList_store_blk rfl 26 (.tmp 4) _ rfl w2.heap.size Y rfl rfl Z (Blk.new rfl) (by rw [hsz, hY0]) HIY.out HY1.out ?_; intro w5 U5 B5
         have hb5 : Below w2.heap.size w2 w5 := U5.below ((Below.refl _ w2).alloc (Nat.le_refl _) _) (Nat.le_refl _)
         have hr5 := HR2.out.below hb5
         obtain ⟨p5, k0, k1, k2, k3, _⟩ := hr5.three
         rw [HE.out] at k2
         have HR5 := Lib.hid hr5; clear hr5
         have C5 := Lib.hid (C2.out.call hb5)
         have HG5 := Lib.hid (HG2.out.trans (grownBy_of_below hb5)); clear hb5 U5
         have HB5 := Lib.hid B5; clear B5)
      | ((with_reducible refine at_store (.tmp 2) ?_); refine wpList_store_blk rfl 26 (.tmp 2) _ rfl w.heap.size Z rfl rfl Z (C5.out.setCell_other (by omega)) rfl HIZ.out HZ1.out ?_; intro w6 U6 B6))
    have hrb := (show Rfs w5 g a l c xs ⟨s2.r, s2.e⟩ from HR5.out).back (show Rfs _ g a l c xs ⟨s.r, s.e⟩ from HH.out) HP.out
    rw [HE.out] at hrb
    refine bodyPost_ret (res_cellR rfl rfl B6 Try.underlying26 rfl HIZ.out) rfl ⟨by rw [HZ.out], hrb.upd U6 (by omega) (fun x hx h0 => by have := hblt x hx h0; omega), upd_grown (HG5.out.trans grownBy_set) U6 (Nat.le_refl _)⟩
end

/-! RdO -/
section
set_option linter.unusedVariables false
set_option linter.unusedSimpArgs false
open Go.RowKit

/-- A slice of numbers in a row of the call's own, from block B on. -/
def OwnK (k : IntKind) (e : TypeId) (w : World) (B : Nat) (v : Value) (xs : List Int) : Prop := w.ownsRow B e 1 v xs.length (xs.map (Value.int k))

theorem OwnK.nil (k : IntKind) (e : TypeId) (w : World) (B : Nat) : OwnK k e w B (.slice none 0 0) [] := World.ownsRow_nil w B e 1
theorem OwnK.lt {k : IntKind} {e : TypeId} {w : World} {B : Nat} {v : Value} {xs : List Int} (h : OwnK k e w B v xs) : ∀ n, v.ownBlock = some n → B ≤ n ∧ n < w.heap.size := World.ownsRow.lt h
theorem OwnK.ints {k : IntKind} {e : TypeId} {w : World} {B : Nat} {v : Value} {xs : List Int} (h : OwnK k e w B v xs) (hm : xs.length ≤ maxLen) : Ints k w v xs := Ints.own h hm
theorem OwnK.lo {k : IntKind} {e : TypeId} {w : World} {B : Nat} {v : Value} {xs : List Int} (h : OwnK k e w B v xs) : ∀ x l c, v = .slice (some x) l c → B ≤ x.block ∧ x.block < w.heap.size := by
  rintro x l c rfl
  rcases h.2 with ⟨e, _⟩ | ⟨g, cap, cur, e, h1, h2, _⟩
  · cases e
  · cases e; exact h.lt g rfl
theorem OwnK.shape {k : IntKind} {e : TypeId} {w : World} {B : Nat} {v : Value} {xs : List Int} (h : OwnK k e w B v xs) : ∃ a l c, v = .slice a l c := by
  rcases h.2 with ⟨rfl, _⟩ | ⟨g, cap, cur, rfl, _⟩
  · exact ⟨_, _, _, rfl⟩
  · exact ⟨_, _, _, rfl⟩

theorem OwnK.grown {k : IntKind} {e : TypeId} {w w' : World} {B : Nat} {v : Value} {xs : List Int} {row : Option Nat} (h : OwnK k e w B v xs) (hg : w.grownBy w' row) (hne : ∀ n, v.ownBlock = some n → some n ≠ row) : OwnK k e w' B v xs := by
  refine ⟨h.1, ?_⟩
  rcases h.2 with h' | ⟨g, cap, cur, rfl, h2, h3, h4⟩
  · exact .inl h'
  · exact .inr ⟨g, cap, cur, rfl, h2, by rw [hg.block g (h.lt g rfl).2 (hne g rfl)]; exact h3, h4⟩

theorem run_app1 {k : IntKind} {t e : TypeId} {bytes : Nat} (ty : TypeId) (hinfo : (Try.prog.info? e).map (fun i => (i.zero, i.size, i.bytes)) = some (some (.int k 0), 1, bytes)) (hby : bytes ≤ 8) (ht : Try.prog.underlying t = some (.slice e))
    (w : World) (B : Nat) (v : Value) (xs : List Int) (hown : OwnK k e w B v xs) (g c : Nat) (x : Int) (hg : w.cell? ⟨g, 0, none⟩ = some (.int k x)) (h47 : xs.length ≤ 1000000000000) (hB : B ≤ w.heap.size) :
    ∃ v' w', (Builtin.append_ #[t, t] ty #[v, .slice (some ⟨g, 0, none⟩) 1 c]).run Try.prog w = .ok v' w' ∧ OwnK k e w' B v' (xs ++ [x]) ∧ w.grownBy w' v.ownBlock ∧ (v'.ownBlock = v.ownBlock ∨ v'.ownBlock = some w.heap.size) := by
  obtain ⟨i0, hi, hz0, hz1, hz2⟩ := info_parts hinfo
  obtain ⟨v', w', h1, h2, h3, _, h4⟩ := run_append_own_at (P := Try.prog) w B t ty e i0 (.int k 0) 1 bytes ht hi hz0 hz1 hz2 rfl (by decide) v xs.length _ hown ⟨g, 0, none⟩ 1 c [.int k x] (by simp)
    (fun j u hj => by
      cases j with
      | zero => rw [Go.WideShapes.add_plain]; simp at hj; subst hj; exact hg
      | succ j => simp at hj)
    (by intro u hu; rw [List.mem_singleton.1 hu]; rfl) (by unfold maxLen; omega) (by have : (xs.length + 1) * bytes ≤ (xs.length + 1) * 8 := Nat.mul_le_mul_left _ hby; omega) hB
  refine ⟨v', w', h1, ?_, h3, h4⟩
  have e1 : xs.map (Value.int k) ++ [.int k x] = (xs ++ [x]).map (Value.int k) := by simp
  rw [e1] at h2
  unfold OwnK
  rw [List.length_append]
  exact h2

/-- An append of one number, in a walk. -/
theorem wpList_app1 {k : IntKind} {t e : TypeId} {bytes : Nat} (hinfo : (Try.prog.info? e).map (fun i => (i.zero, i.size, i.bytes)) = some (some (.int k 0), 1, bytes)) (hby : bytes ≤ 8) (ht : Try.prog.underlying t = some (.slice e))
    {ops : Array Oper} {rest : List Oper} {o : Oper} {a : Act} {w : World} {Q : Exit → Act → World → Prop} (s x : Operand)
    (ho : o.op = .call { callee := .builtin .append, args := #[s, x], argTypes := #[t, t] }) (hw : Region.wanted o (yielded ops a.tmps) = true)
    (B : Nat) (v : Value) (xs : List Int) (hs : a.eval s = v) (hown : OwnK k e w B v xs) (g c : Nat) (y : Int) (hx : a.eval x = .slice (some ⟨g, 0, none⟩) 1 c) (hg : w.cell? ⟨g, 0, none⟩ = some (.int k y)) (h47 : xs.length ≤ 1000000000000) (hB : B ≤ w.heap.size)
    (h : ∀ v' w', OwnK k e w' B v' (xs ++ [y]) → w.grownBy w' v.ownBlock → (v'.ownBlock = v.ownBlock ∨ v'.ownBlock = some w.heap.size) → wpList Try.prog ops Q rest (a.put o.dst v') w') : wpList Try.prog ops Q (o :: rest) a w :=
  BigFrame.wpList_want hw fun _ hK => by
    obtain ⟨v', w', h1, h2, h3, h4⟩ := run_app1 o.type hinfo hby ht w B v xs hown g c y hg h47 hB
    unfold Oper.wp execOp
    simp only [ho, resolve, invoke, builtin, Sem.run_bind, Sem.run_pure, Result.andThen_ok, List.map_toArray, List.map_cons, List.map_nil, hs, hx, h1]
    exact hK _ _ (h v' w' h2 h3 h4)

theorem info_int : (Try.prog.info? 3).map (fun i => (i.zero, i.size, i.bytes)) = some (some (.int .i64 0), 1, 8) := by kernel_rfl
theorem info_u64c : (Try.prog.info? 22).map (fun i => (i.zero, i.size, i.bytes)) = some (some (.int .u64 0), 1, 8) := by kernel_rfl

/-- The reader, where another row than its own has grown. -/
theorem Rfs.grownOther {w w' : World} {g l c : Nat} {a : Option Addr} {xs : List Int} {s : RS} {row : Option Nat} (h : Rfs w g a l c xs s) (hg : w.grownBy w' row) (h1 : row ≠ some g) (h2 : ∀ x, a = some x → 0 < l → row ≠ some x.block) : Rfs w' g a l c xs s := by
  refine ⟨⟨h.fp.blk.grown hg (fun e => h1 e.symm), ⟨?_, h.fp.byt.rng, h.fp.byt.fits⟩, h.fp.le, h.fp.far⟩, h.rest⟩
  obtain ⟨a', len, cap, e, hl, hm, hr⟩ := h.fp.byt.ints
  cases e
  refine ⟨_, _, _, rfl, hl, hm, ?_⟩
  by_cases h0 : l = 0
  · exact .inl h0
  rcases hr with h0' | ⟨b, off, rfl, hlt', hc⟩
  · exact absurd h0' h0
  · have hne := h2 _ rfl (by omega)
    refine .inr ⟨b, off, rfl, Nat.lt_of_lt_of_le hlt' hg.size, fun i hi => ?_⟩
    rw [hg.cell_far ⟨b, off + i, none⟩ hlt' (fun e => hne e.symm)]
    exact hc i hi

theorem grownBy_new {w w1 w2 : World} {g : Nat} {row : Option Nat} (h1 : w.grownBy w1 (some g)) (h2 : w1.grownBy w2 row) (hr : ∀ n, row = some n → w.heap.size ≤ n) : w.grownBy w2 (some g) :=
  ⟨h2.os.trans h1.os, h2.tape.trans h1.tape, h2.output.trans h1.output, Nat.le_trans h1.size h2.size, fun k hk hne => (h2.block k (Nat.lt_of_lt_of_le hk h1.size) (fun e => by have := hr k e.symm; omega)).trans (h1.block k hk hne)⟩
end

/-! RdL -/
section
set_option linter.unusedVariables false
set_option linter.unusedSimpArgs false
open Go.RowKit

/-- The first k elements. -/
def elsK (v : Nat → Int) (k : Nat) : List Int := (List.range k).map (elK v)
theorem elsK_len (v : Nat → Int) (k : Nat) : (elsK v k).length = k := by simp [elsK]
theorem elsK_next (v : Nat → Int) (k : Nat) : elsK v k ++ [elK v k] = elsK v (k + 1) := by simp [elsK, List.range_succ]

/-- What readList's loop holds: k elements. -/
def RfLI (w : World) (g : Nat) (a : Option Addr) (l c : Nat) (xs : List Int) (s1 : RS) (n : Nat) (v at' i : Value) (wr : World) : Prop :=
  ∃ k : Nat, k ≤ n ∧ i = .int .i64 k ∧ at' = .int .i64 (lstE (fun i => vU 1024 (stK 1024 s1 i)) k - 1) ∧ OwnK .i64 3 wr w.heap.size v (elsK (fun i => vU 1024 (stK 1024 s1 i)) k) ∧ Rfs wr g a l c xs (stK 1024 s1 k) ∧ w.grownBy wr (some g)

/-- What readList promises. -/
def RfL (k : IntKind) (w : World) (g : Nat) (a : Option Addr) (l c : Nat) (xs : List Int) (ls : List Int) (s : RS) (en : Ending) (w' : World) : Prop :=
  ∃ v ys, en = .returned v ∧ Ints k w' v ys ∧ ys.length ≤ 1024 ∧ (s.e = 0 → ys = ls) ∧ (∀ x l c, v = .slice (some x) l c → w.heap.size ≤ x.block) ∧ Rfs w' g a l c xs s ∧ w.grownBy w' (some g)

set_option maxRecDepth 100000 in
set_option maxHeartbeats 4000000 in
theorem rfl_any (g : Nat) (a : Option Addr) (l c : Nat) (xs : List Int) (s : RS) (w : World) (h : Rfs w g a l c xs s) :
    Calls Try.prog 90 #[.pointer (some ⟨g, 0, none⟩)] w (RfL .i64 w g a l c xs (lsV s) (lsN s)) := by
  have hglt := h.lt
  have hblt := h.blk_lt
  have hby := h.byteL
  have D := rfu_any g a l c xs s 1024 w h (by omega) (by omega)
  have hn := vU_rng (m := 1024) hby (by omega)
  obtain ⟨n, hnn⟩ : ∃ n : Nat, Hid ((vU 1024 s).toNat = n) := ⟨_, rfl⟩
  have hn1 : n ≤ 1024 := by rw [← hnn.out]; omega
  have e1 : vU 1024 s = (n : Int) := by rw [← hnn.out, Int.toNat_of_nonneg hn.1]
  rw [e1] at D
  have HD := Lib.hid D; clear D e1 hn
  have HV : Hid (lsV s = elsK (fun i => vU 1024 (stK 1024 (nU 1024 s) i)) n) := by show _ = _; unfold lsV elsK; rw [hnn.out]
  have HN : Hid (lsN s = stK 1024 (nU 1024 s) n) := by show _ = _; unfold lsN; rw [hnn.out]
  have HBY := Lib.hid (nU_byte (m := 1024) hby); clear hby h
  obtain ⟨s1, hs1⟩ : ∃ s1, nU 1024 s = s1 := ⟨_, rfl⟩
  rw [hs1] at HV HN HBY HD
  rw [HV.out, HN.out]
  clear hs1 hnn HV HN
  go_enter Try.func90, Try.ntmps90
  go_wp2_with (go_at_call 59; refine HD.out.mono ?_; rintro en w1 ⟨rfl, hr1, hg1⟩; have HR1 := Lib.hid hr1; clear hr1; have HG1 := Lib.hid hg1; clear hg1)
  go_loopw [4, 5, 6] (fun v at' i wr => RfLI w g a l c xs s1 n v at' i wr) (fun _ _ i _ => n - (intOf i).toNat)
  case atStart => exact ⟨0, Nat.zero_le _, rfl, rfl, OwnK.nil _ _ _ _, HR1.out, HG1.out⟩
  case round =>
    obtain ⟨k, hk, rfl, rfl, how, hr, hgr⟩ := hrel
    obtain ⟨p, c0, c1, c2, c3, _⟩ := hr.three
    have hel := elK_rng (v := fun i => vU 1024 (stK 1024 s1 i)) (m := 1024) (fun i => vU_rng (stK_byte HBY.out i) (by omega)) (by omega)
    have hy0 : 0 ≤ lstE (fun i => vU 1024 (stK 1024 s1 i)) k ∧ lstE (fun i => vU 1024 (stK 1024 s1 i)) k ≤ 1100000 := by
      unfold lstE; split
      · omega
      · have := hel (k - 1); have h3 : (1024 + 1) * (((k - 1 : Nat) : Int) + 1) ≤ 1100000 := by omega
        omega
    by_cases hgo : k < n ∧ (stK 1024 s1 k).e = 0
    · obtain ⟨hlt, he⟩ := hgo
      have hx := vU_rng (m := 1024) (stK_byte (m := 1024) HBY.out k) (by omega)
      have E1 := Lib.hid (elK_lst (fun i => vU 1024 (stK 1024 s1 i)) k)
      have E2 := Lib.hid (lstE_next (fun i => vU 1024 (stK 1024 s1 i)) k)
      have E3 := Lib.hid (elsK_next (fun i => vU 1024 (stK 1024 s1 i)) k)
      have hln := elsK_len (fun i => vU 1024 (stK 1024 s1 i)) k
      have D := rfu_any g a l c xs (stK 1024 s1 k) 1024 wr hr (by omega) (by omega)
      change Calls _ _ _ _ (RfV wr g a l c xs (.int .u64 (vU 1024 (stK 1024 s1 k))) (stK 1024 s1 (k + 1))) at D
      have HD1 := Lib.hid D; clear D
      have heq : ((stK 1024 s1 k).e == 0) = true := by rw [he]; rfl
      clear he hel
      obtain ⟨x, HX⟩ : ∃ x, Hid (vU 1024 (stK 1024 s1 k) = x) := ⟨_, rfl⟩
      obtain ⟨y, HY⟩ : ∃ y, Hid (lstE (fun i => vU 1024 (stK 1024 s1 i)) k = y) := ⟨_, rfl⟩
      obtain ⟨L, HL⟩ : ∃ L, Hid (elsK (fun i => vU 1024 (stK 1024 s1 i)) k = L) := ⟨_, rfl⟩
      have E1' : Hid (elK (fun i => vU 1024 (stK 1024 s1 i)) k = y + x) := by show _ = _; rw [E1.out, HY.out, HX.out]
      rw [HX.out] at hx HD1
      rw [HY.out] at hy0
      rw [HL.out] at how hln
      rw [HY.out]
      have HOW := Lib.hid how; clear how
      have HGR := Lib.hid hgr; clear hgr hr
      have HLN := Lib.hid hln; clear hln
      go_wp2_with (first
        | (go_at_call 59; refine HD1.out.mono ?_; rintro en w4 ⟨rfl, hr4, hg4⟩; have HR4 := Lib.hid hr4; clear hr4; have HOW4 := Lib.hid (HOW.out.grown hg4 (fun n hn => by have := (HOW.out.lt n hn).1; simp; omega)); have HG4 := Lib.hid (HGR.out.trans hg4); clear hg4)
        | ((with_reducible refine at_app _ _ ?_); refine wpList_app1 info_int (by omega) Try.underlying33 _ _ rfl rfl w.heap.size _ L rfl (HOW4.out.grown (grownBy_of_below (row := none) ((Below.refl _ w4).alloc (Nat.le_refl _) _)) (fun n hn => by simp)) w4.heap.size 1 (y + x) rfl ((Blk.new rfl).cell 0) (by rw [HLN.out]; omega) (by have := HG4.out.size; simp; omega) ?_
           intro v5 w5 ho5 hg5 hn5
           have hs4 := HG4.out.size
           have HR5 := Lib.hid ((HR4.out.below ((Below.refl _ w4).alloc (Nat.le_refl _) _)).grownOther hg5 (fun e => by have := (HOW4.out.lt _ e).1; omega) (fun z hz h0 e => by have := (HOW4.out.lt _ e).1; have := hblt z hz h0; omega))
           have HG5 := Lib.hid (grownBy_new (grownBy_cut HG4.out (((Below.refl _ w4).alloc (Nat.le_refl _) (.cells #[Value.int IntKind.i64 (y + x)] 3)).mono hs4)) hg5 (fun n hn => (HOW4.out.lt n hn).1))
           have HO5 := Lib.hid ho5; clear ho5 hg5 hn5 hs4))
      go_roundw
      case rel =>
        have ho := HO5.out
        rw [← E1'.out, ← HL.out, E3.out] at ho
        exact ⟨k + 1, hlt, by go_num, by rw [E2.out, E1'.out]; go_num, ho, HR5.out, HG5.out⟩
      case measure => simp [intOf]; omega
    · have hlen := elsK_len (fun i => vU 1024 (stK 1024 s1 i)) k
      have HEND : Hid (RfL .i64 w g a l c xs (elsK (fun i => vU 1024 (stK 1024 s1 i)) n) (stK 1024 s1 n) (.returned u4) wr) := by
        have hv := how.ints (by rw [hlen]; unfold maxLen; omega)
        have hlo := fun x l c e => (how.lo x l c e).1
        by_cases hkn : k = n
        · subst hkn
          exact ⟨u4, _, rfl, hv, by rw [hlen]; omega, fun _ => rfl, hlo, hr, hgr⟩
        · have he : (stK 1024 s1 k).e ≠ 0 := fun e => hgo ⟨by omega, e⟩
          have e1 : stK 1024 s1 n = stK 1024 s1 k := stK_err_at he hk
          rw [e1]
          exact ⟨u4, _, rfl, hv, by rw [hlen]; omega, fun e => absurd e he, hlo, hr, hgr⟩
      clear how hgr hr hel hy0 hlen
      by_cases hlt : k < n
      · have he : (stK 1024 s1 k).e ≠ 0 := fun e => hgo ⟨hlt, e⟩
        have heq : ((stK 1024 s1 k).e == 0) = false := by simpa using he
        clear he hgo
        go_wp2_with fail
        go_ret
        exact HEND.out
      · obtain rfl : k = n := by omega
        clear hgo
        go_wp2_with fail
        go_ret
        exact HEND.out
end

/-! RdM -/
section
set_option linter.unusedVariables false
set_option linter.unusedSimpArgs false
open Go.RowKit

/-- The reader and the result's variable rr; since w0 only g and new blocks have changed. -/
structure DQ (g : Nat) (a : Option Addr) (l c : Nat) (xs : List Int) (rr : Nat) (Z : Array Value) (w0 w : World) (s : RS) : Prop where
  rd : Rfs w g a l c xs s
  rv : Blk w rr Z
  gro : w0.grownBy w (some g)
  rrg : rr ≠ g
  rr0 : w0.heap.size ≤ rr
  rra : ∀ x, a = some x → 0 < l → x.block ≠ rr

/-- .. and the record's variable hx. -/
structure DR (g : Nat) (a : Option Addr) (l c : Nat) (xs : List Int) (rr : Nat) (Z : Array Value) (hx : Nat) (ls : List Nat) (w0 w : World) (ps : List (List Value)) (s : RS) : Prop where
  q : DQ g a l c xs rr Z w0 w s
  xv : Blk w hx (flatP ps)
  len : ps.map List.length = ls
  hx0 : w0.heap.size ≤ hx
  hxg : hx ≠ g
  hxr : hx ≠ rr
  hxa : ∀ x, a = some x → 0 < l → x.block ≠ hx

section
variable {g l c rr hx : Nat} {a : Option Addr} {xs : List Int} {Z : Array Value} {ls : List Nat} {w0 w w' : World} {ps : List (List Value)} {s : RS}

theorem DQ.read (h : DQ g a l c xs rr Z w0 w s) {s' : RS} (hr : Rfs w' g a l c xs s') (hg : w.grownBy w' (some g)) : DQ g a l c xs rr Z w0 w' s' :=
  ⟨hr, h.rv.grown hg (by simpa using h.rrg), h.gro.trans hg, h.rrg, h.rr0, h.rra⟩
theorem DQ.below (h : DQ g a l c xs rr Z w0 w s) (hb : Below w.heap.size w w') : DQ g a l c xs rr Z w0 w' s :=
  ⟨h.rd.below hb, h.rv.call hb, h.gro.trans (grownBy_of_below hb), h.rrg, h.rr0, h.rra⟩
theorem DQ.upd (h : DQ g a l c xs rr Z w0 w s) {b : Nat} (hU : Upd b w w') (h0 : w0.heap.size ≤ b) (hg : b ≠ g) (hr : b ≠ rr) (ha : ∀ x, a = some x → 0 < l → x.block ≠ b) : DQ g a l c xs rr Z w0 w' s :=
  ⟨h.rd.upd hU hg.symm ha, hU.blk h.rv hr.symm, upd_grown h.gro hU h0, h.rrg, h.rr0, h.rra⟩
/-- The result is stored. -/
theorem DQ.done (h : DQ g a l c xs rr Z w0 w s) (hU : Upd rr w w') : Rfs w' g a l c xs s ∧ w0.grownBy w' (some g) :=
  ⟨h.rd.upd hU h.rrg.symm h.rra, upd_grown h.gro hU h.rr0⟩

theorem DR.read (h : DR g a l c xs rr Z hx ls w0 w ps s) {s' : RS} (hr : Rfs w' g a l c xs s') (hg : w.grownBy w' (some g)) : DR g a l c xs rr Z hx ls w0 w' ps s' :=
  ⟨h.q.read hr hg, h.xv.grown hg (by simpa using h.hxg), h.len, h.hx0, h.hxg, h.hxr, h.hxa⟩
theorem DR.below (h : DR g a l c xs rr Z hx ls w0 w ps s) (hb : Below w.heap.size w w') : DR g a l c xs rr Z hx ls w0 w' ps s :=
  ⟨h.q.below hb, h.xv.call hb, h.len, h.hx0, h.hxg, h.hxr, h.hxa⟩
theorem DR.put (h : DR g a l c xs rr Z hx ls w0 w ps s) {ps' : List (List Value)} (hU : Upd hx w w') (hB : Blk w' hx (flatP ps')) (hl : ps'.map List.length = ls) : DR g a l c xs rr Z hx ls w0 w' ps' s :=
  ⟨h.q.upd hU h.hx0 h.hxg h.hxr h.hxa, hB, hl, h.hx0, h.hxg, h.hxr, h.hxa⟩
/-- The variable is made. -/
theorem DQ.start (h : DQ g a l c xs rr Z w0 w s) {ps : List (List Value)} {cs : Array Value} {T : TypeId} (hU : Upd w.heap.size (w.alloc (.cells cs T)) w') (hB : Blk w' w.heap.size (flatP ps)) (hl : ps.map List.length = ls) : DR g a l c xs rr Z w.heap.size ls w0 w' ps s := by
  have hb : Below w.heap.size w w' := hU.below ((Below.refl _ w).alloc (Nat.le_refl _) _) (Nat.le_refl _)
  exact ⟨h.below hb, hB, hl, h.gro.size, Nat.ne_of_gt h.rd.lt, Nat.ne_of_gt h.rv.lt, fun x hx h0 => Nat.ne_of_lt (h.rd.blk_lt x hx h0)⟩

theorem DR.partLen (h : DR g a l c xs rr Z hx ls w0 w ps s) {k n : Nat} (hk : ls[k]? = some n) : ∃ p, ps[k]? = some p ∧ p.length = n := by
  have := h.len
  subst this
  rw [List.getElem?_map] at hk
  cases hp : ps[k]? with
  | none => rw [hp] at hk; cases hk
  | some p => rw [hp] at hk; exact ⟨p, rfl, by simpa using hk⟩

/-- A part that is an array or a struct is stored. -/
theorem wpList_store_dr {P : Program} {ops : Array Oper} {rest : List Oper} {op : Oper} {ac : Act} {Q : Exit → Act → World → Prop} (hgd : op.guard = none) (ty : TypeId) (x y : Operand) (ho : op.op = .store ty x y)
    (h : DR g a l c xs rr Z hx ls w0 w ps s) (k o : Nat) (q : List Value) (hk : ls[k]? = some q.length) (hof : (ls.take k).sum = o) (hx' : ac.eval x = .pointer (some ⟨hx, o, none⟩)) (hy : ac.eval y = .agg q.toArray)
    (hi : (P.info? ty).map (·.size) = some q.length) (h1 : ∀ v ∈ q, v.oneCell' = true)
    (hK : ∀ w', Upd hx w w' → DR g a l c xs rr Z hx ls w0 w' (ps.set k q) s → wpList P ops Q rest (ac.put op.dst undef) w') : wpList P ops Q (op :: rest) ac w := by
  obtain ⟨p, hp, hpl⟩ := h.partLen hk
  refine wpList_store_part hgd ty x y ho hx ps k p q h.xv hp (by rw [offP_lens h.len, hof]; exact hx') hy hpl.symm hi h1 fun w' hU hB => hK w' hU (h.put hU hB (set_lens h.len hk))

/-- A part of one cell is stored. -/
theorem wpList_store_dr1 {P : Program} {ops : Array Oper} {rest : List Oper} {op : Oper} {ac : Act} {Q : Exit → Act → World → Prop} (hgd : op.guard = none) (ty : TypeId) (x y : Operand) (ho : op.op = .store ty x y)
    (h : DR g a l c xs rr Z hx ls w0 w ps s) (k o : Nat) (u : Value) (hk : ls[k]? = some 1) (hof : (ls.take k).sum = o) (hx' : ac.eval x = .pointer (some ⟨hx, o, none⟩)) (hy : ac.eval y = u)
    (hi : (P.info? ty).map (·.size) = some 1) (hu : u.cells = #[u]) (h1 : u.oneCell' = true)
    (hK : ∀ w', Upd hx w w' → DR g a l c xs rr Z hx ls w0 w' (ps.set k [u]) s → wpList P ops Q rest (ac.put op.dst undef) w') : wpList P ops Q (op :: rest) ac w := by
  obtain ⟨p, hp, hpl⟩ := h.partLen hk
  obtain ⟨v, rfl⟩ := List.length_eq_one_iff.1 hpl
  refine wpList_store_part1 hgd ty x y ho hx ps k v u h.xv hp (by rw [offP_lens h.len, hof]; exact hx') hy hi hu h1 fun w' hU hB => hK w' hU (h.put hU hB (set_lens h.len hk))

theorem DR.cell1 (h : DR g a l c xs rr Z hx ls w0 w ps s) (k o : Nat) {v : Value} (hk : ps[k]? = some [v]) (hof : (ls.take k).sum = o) : w.cell? ⟨hx, o, none⟩ = some v := by
  have := h.xv.part1 hk
  rwa [offP_lens h.len, hof] at this
end

/-! ### Values that are built -/
theorem build_cl (v1 v2 : Int) (r : List Int) (hr : IsBytes 32 r) (u : World) : (Instr.build 37 #[(0, .int .u64 v1), (1, .int .u64 v2), (2, .agg (bytesV r))]).run Try.prog u = .ok (.agg (flatP [[.int .u64 v1], [.int .u64 v2], bytesL r, [.slice none 0 0]])) u := by
  have hl := bytesL_len hr
  refine build_struct (zero := flatP zCl.parts) (fun w => by kernel_rfl) Try.underlying37 (places := #[(0, 1), (1, 1), (2, 32), (34, 1)]) (fun w => by kernel_rfl) ?_ u
  show Instr.fill _ (flatP zCl.parts) [(0, .int .u64 v1), (1, .int .u64 v2), (2, .agg (bytesV r))] = _
  rw [fill_part 0 [.int .u64 0] [.int .u64 v1] rfl rfl rfl rfl rfl, fill_part 1 [.int .u64 0] [.int .u64 v2] rfl rfl rfl rfl rfl, fill_part 2 (bytesL zeroR) (bytesL r) rfl rfl (by rw [hl]; rfl) rfl (by rw [hl]; rfl)]
  rfl

theorem build_at (v1 : Int) (r : List Int) (cp : CpD) (hr : IsBytes 32 r) (hc : cp.ok) (u : World) : (Instr.build 35 #[(0, .int .u64 v1), (1, .agg (bytesV r)), (2, .agg cp.cells.toArray)]).run Try.prog u = .ok (.agg (flatP [[.int .u64 v1], bytesL r, cp.cells, [.slice none 0 0]])) u := by
  have hl := bytesL_len hr
  have hl2 := CpD.len hc
  refine build_struct (zero := flatP zAt.parts) (fun w => by kernel_rfl) Try.underlying35 (places := #[(0, 1), (1, 32), (33, 33), (66, 1)]) (fun w => by kernel_rfl) ?_ u
  show Instr.fill _ (flatP zAt.parts) [(0, .int .u64 v1), (1, .agg (bytesV r)), (2, .agg cp.cells.toArray)] = _
  rw [fill_part 0 [.int .u64 0] [.int .u64 v1] rfl rfl rfl rfl rfl, fill_part 1 (bytesL zeroR) (bytesL r) rfl rfl (by rw [hl]; rfl) rfl (by rw [hl]; rfl), fill_part (i := 2) (o := 33) 2 zCp.cells cp.cells rfl rfl (by rw [hl2]; rfl) (by simp [offP, hl, zAt, AtD.parts]) (by rw [hl2]; rfl)]
  rfl

theorem build_sl (x y : ClD) (hx : x.ok) (hy : y.ok) (u : World) : (Instr.build 39 #[(0, .agg x.cells.toArray), (1, .agg y.cells.toArray)]).run Try.prog u = .ok (.agg (flatP [x.cells, y.cells])) u := by
  have hl := ClD.len hx
  have hl2 := ClD.len hy
  refine build_struct (zero := flatP [zCl.cells, zCl.cells]) (fun w => by kernel_rfl) Try.underlying39 (places := #[(0, 35), (35, 35)]) (fun w => by kernel_rfl) ?_ u
  show Instr.fill _ (flatP [zCl.cells, zCl.cells]) [(0, .agg x.cells.toArray), (1, .agg y.cells.toArray)] = _
  rw [fill_part 0 zCl.cells x.cells rfl rfl (by rw [hl]; rfl) rfl (by rw [hl]; rfl), fill_part (i := 1) (o := 35) 1 zCl.cells y.cells rfl rfl (by rw [hl2]; rfl) (by simp [offP, hl]) (by rw [hl2]; rfl)]
  rfl

theorem build_tb (cp : CpD) (hc : cp.ok) (u : World) : (Instr.build 42 #[(0, .agg cp.cells.toArray)]).run Try.prog u = .ok (.agg (flatP [cp.cells, [.slice none 0 0]])) u := by
  have hl2 := CpD.len hc
  refine build_struct (zero := flatP zTb.parts) (fun w => by kernel_rfl) Try.underlying42 (places := #[(0, 33), (33, 1)]) (fun w => by kernel_rfl) ?_ u
  show Instr.fill _ (flatP zTb.parts) [(0, .agg cp.cells.toArray)] = _
  rw [fill_part 0 zCp.cells cp.cells rfl rfl (by rw [hl2]; rfl) rfl (by rw [hl2]; rfl)]
  rfl

theorem build_vd (v1 k : Int) (r : List Int) (hr : IsBytes 32 r) (u : World) : (Instr.build 46 #[(0, .agg #[.int .u64 v1]), (1, .int .i64 k), (2, .agg (bytesV r))]).run Try.prog u = .ok (.agg (flatP (VdD.parts ⟨v1, k, r⟩))) u := by
  have hl := bytesL_len hr
  refine build_struct (zero := flatP zVd.parts) (fun w => by kernel_rfl) Try.underlying46 (places := #[(0, 1), (1, 1), (2, 32)]) (fun w => by kernel_rfl) ?_ u
  show Instr.fill _ (flatP zVd.parts) [(0, .agg #[.int .u64 v1]), (1, .int .i64 k), (2, .agg (bytesV r))] = _
  rw [fill_part 0 [.int .u64 0] [.int .u64 v1] rfl rfl rfl rfl rfl, fill_part 1 [.int .i64 0] [.int .i64 k] rfl rfl rfl rfl rfl, fill_part 2 (bytesL zeroR) (bytesL r) rfl rfl (by rw [hl]; rfl) rfl (by rw [hl]; rfl)]
  rfl

theorem build_bk (v1 : Int) (r1 r2 r3 : List Int) (n1 n2 : Int) (c1 c2 : CpD) (h1 : IsBytes 32 r1) (h2 : IsBytes 32 r2) (h3 : IsBytes 32 r3) (h4 : c1.ok) (h5 : c2.ok) (u : World) :
    (Instr.build 32 #[(1, .int .u64 v1), (2, .agg (bytesV r1)), (3, .agg (bytesV r2)), (4, .agg (bytesV r3)), (5, .agg (wideL n1).toArray), (6, .agg (wideL n2).toArray), (7, .agg c1.cells.toArray), (8, .agg c2.cells.toArray)]).run Try.prog u
      = .ok (.agg (flatP [zCp.cells, zCp.cells, [.int .u64 v1], bytesL r1, bytesL r2, bytesL r3, wideL n1, wideL n2, c1.cells, c2.cells, [.bool false]])) u := by
  have l1 := bytesL_len h1
  have l2 := bytesL_len h2
  have l3 := bytesL_len h3
  have l4 := CpD.len h4
  have l5 := CpD.len h5
  have lz : (bytesL zeroR).length = 32 := rfl
  have lc : zCp.cells.length = 33 := rfl
  refine build_struct (zero := flatP zBk.parts) (fun w => by kernel_rfl) Try.underlying32 (places := #[(0, 66), (66, 1), (67, 32), (99, 32), (131, 32), (163, 4), (167, 4), (171, 33), (204, 33), (237, 1)]) (fun w => by kernel_rfl) ?_ u
  show Instr.fill _ (flatP zBk.parts) [(1, .int .u64 v1), (2, .agg (bytesV r1)), (3, .agg (bytesV r2)), (4, .agg (bytesV r3)), (5, .agg (wideL n1).toArray), (6, .agg (wideL n2).toArray), (7, .agg c1.cells.toArray), (8, .agg c2.cells.toArray)] = _
  have E : zBk.parts = [zCp.cells, zCp.cells, [.int .u64 0], bytesL zeroR, bytesL zeroR, bytesL zeroR, wideL 0, wideL 0, zCp.cells, zCp.cells, [.bool false]] := rfl
  rw [E, fill_part (o := 66) 2 [.int .u64 0] [.int .u64 v1] rfl rfl rfl (by simp [offP, lc]) rfl]
  simp only [List.set_cons_succ, List.set_cons_zero]
  rw [fill_part (o := 67) 3 (bytesL zeroR) (bytesL r1) rfl rfl (by rw [l1]; rfl) (by simp [offP, lc]) (by rw [l1]; rfl)]
  simp only [List.set_cons_succ, List.set_cons_zero]
  rw [fill_part (o := 99) 4 (bytesL zeroR) (bytesL r2) rfl rfl (by rw [l2]; rfl) (by simp [offP, lc, l1]) (by rw [l2]; rfl)]
  simp only [List.set_cons_succ, List.set_cons_zero]
  rw [fill_part (o := 131) 5 (bytesL zeroR) (bytesL r3) rfl rfl (by rw [l3]; rfl) (by simp [offP, lc, l1, l2]) (by rw [l3]; rfl)]
  simp only [List.set_cons_succ, List.set_cons_zero]
  rw [fill_part (o := 163) 6 (wideL 0) (wideL n1) rfl rfl rfl (by simp [offP, lc, l1, l2, l3]) rfl]
  simp only [List.set_cons_succ, List.set_cons_zero]
  rw [fill_part (o := 167) 7 (wideL 0) (wideL n2) rfl rfl rfl (by simp [offP, lc, l1, l2, l3, wideL]) rfl]
  simp only [List.set_cons_succ, List.set_cons_zero]
  rw [fill_part (o := 171) 8 zCp.cells c1.cells rfl rfl (by rw [l4]; rfl) (by simp [offP, lc, l1, l2, l3, wideL]) (by rw [l4]; rfl)]
  simp only [List.set_cons_succ, List.set_cons_zero]
  rw [fill_part (o := 204) 9 zCp.cells c2.cells rfl rfl (by rw [l5]; rfl) (by simp [offP, lc, l1, l2, l3, l4, wideL]) (by rw [l5]; rfl)]
  rfl
end

/-! RdN -/
section
set_option linter.unusedVariables false
set_option linter.unusedSimpArgs false
open Go.RowKit

/-- A claim that the reference reads. -/
def RfC (w : World) (g : Nat) (a : Option Addr) (l c : Nat) (xs : List Int) (d : Value → ClD) (ls : List Int) (s : RS) (en : Ending) (w' : World) : Prop :=
  ∃ lv ys, en = .returned (.agg (d lv).cells.toArray) ∧ Ints .i64 w' lv ys ∧ ys.length ≤ 1024 ∧ (s.e = 0 → ys = ls) ∧ (∀ x l c, lv = .slice (some x) l c → w.heap.size ≤ x.block) ∧ Rfs w' g a l c xs s ∧ w.grownBy w' (some g)

set_option maxRecDepth 100000 in
set_option maxHeartbeats 8000000 in
theorem rfclm_any (g : Nat) (a : Option Addr) (l c : Nat) (xs : List Int) (s : RS) (w : World) (h : Rfs w g a l c xs s) :
    Calls Try.prog 91 #[.pointer (some ⟨g, 0, none⟩)] w (RfC w g a l c xs (clD s) (clL s) (clS s)) := by
  have hglt := h.lt
  have hblt := h.blk_lt
  have hby0 := h.byteL
  obtain ⟨s1, hs1⟩ : ∃ s1, nU mxU s = s1 := ⟨_, rfl⟩
  obtain ⟨s2, hs2⟩ : ∃ s2, nU mxU s1 = s2 := ⟨_, rfl⟩
  obtain ⟨s3, hs3⟩ : ∃ s3, nW s2 = s3 := ⟨_, rfl⟩
  obtain ⟨s4, hs4⟩ : ∃ s4, lsN s3 = s4 := ⟨_, rfl⟩
  have hby1 : byteL s1.r := hs1 ▸ nU_byte hby0
  have hby2 : byteL s2.r := hs2 ▸ nU_byte hby1
  have e2 : cl2 s = s2 := by unfold cl2; rw [hs1, hs2]
  have eL : clL s = lsV s3 := by unfold clL; rw [e2, hs3]
  have eS : clS s = s4 := by unfold clS; rw [e2, hs3, hs4]
  have HED : Hid (∀ lv, (clD s lv).cells = [[Value.int .u64 (vU mxU s)], [Value.int .u64 (vU mxU s1)], bytesL (vW s2), [lv]].flatten) := fun lv => by unfold clD; rw [hs1, e2]; rfl
  rw [eL, eS]
  have D1 : Hid (∀ u, Rfs u g a l c xs s → Calls Try.prog 59 #[.pointer (some ⟨g, 0, none⟩), .int .u64 18446744073709551615] u (RfV u g a l c xs (.int .u64 (vU mxU s)) s1)) := fun u hr => by
    have := rfu_any g a l c xs s 18446744073709551615 u hr (by omega) (by omega)
    rw [← hs1]; exact this
  have D2 : Hid (∀ u, Rfs u g a l c xs s1 → Calls Try.prog 59 #[.pointer (some ⟨g, 0, none⟩), .int .u64 18446744073709551615] u (RfV u g a l c xs (.int .u64 (vU mxU s1)) s2)) := fun u hr => by
    have := rfu_any g a l c xs s1 18446744073709551615 u hr (by omega) (by omega)
    rw [← hs2]; exact this
  have D3 : Hid (∀ u, Rfs u g a l c xs s2 → Calls Try.prog 88 #[.pointer (some ⟨g, 0, none⟩)] u (RfV u g a l c xs (.agg (bytesV (vW s2))) s3)) := fun u hr => by
    have := rfr_any g a l c xs s2 u hr
    rw [← hs3]; exact this
  have D4 : Hid (∀ u, Rfs u g a l c xs s3 → Calls Try.prog 90 #[.pointer (some ⟨g, 0, none⟩)] u (RfL .i64 u g a l c xs (lsV s3) s4)) := fun u hr => by
    have := rfl_any g a l c xs s3 u hr
    rw [← hs4]; exact this
  have hW := vW_is hby2
  have h32 := Lib.hid (bytesL_len hW)
  have BC := Lib.hid (build_cl (vU mxU s) (vU mxU s1) (vW s2) hW)
  clear hs1 hs2 hs3 hs4 hby0 hby1 hby2 e2 eL eS hW
  generalize vU mxU s = v1 at *
  generalize vU mxU s1 = v2 at *
  generalize vW s2 = r1 at *
  generalize lsV s3 = ls at *
  have hZ0 : (flatP zCl.parts).size = 35 := rfl
  obtain ⟨Z, hZ⟩ : ∃ Z, Z = flatP zCl.parts := ⟨_, rfl⟩
  rw [← hZ] at hZ0
  obtain ⟨hzz, hst⟩ := zero_array (P := Try.prog) (t := 37) (n := 35) Z (by rw [hZ]; kernel_rfl) hZ0 (by rw [hZ]; kernel_rfl)
  clear hZ
  obtain ⟨Y0, HY0⟩ : ∃ Y, Hid (flatP [[Value.int .u64 v1], [Value.int .u64 v2], bytesL r1, [Value.slice none 0 0]] = Y) := ⟨_, rfl⟩
  rw [HY0.out] at BC
  have hY035 := Lib.hid (clSize HY0.out h32.out)
  have hY01 := Lib.hid (clOne HY0.out)
  have hba := (Below.refl w.heap.size w).alloc (Nat.le_refl _) (.cells Z 37)
  have S0 : Hid (DQ g a l c xs w.heap.size Z w (w.alloc (.cells Z 37)) s) :=
    ⟨h.below hba, Blk.new rfl, grownBy_of_below hba, by omega, Nat.le_refl _, fun x hx h0 => by have := hblt x hx h0; omega⟩
  clear hba h
  go_enter Try.func91, Try.ntmps91
  go_wp2_with (first
    | ((with_reducible refine at_load (.tmp 3) ?_); refine wpList_load_blk rfl 37 (.tmp 3) rfl w3.heap.size rfl Y _ KF.out Try.underlying37 rfl (by rw [hY35.out]; kernel_rfl) ?_)
    | ((with_reducible refine at_store (.tmp 2) ?_); refine wpList_store_blk rfl 37 (.tmp 2) (.tmp 14) rfl w.heap.size Y rfl rfl Z S6.out.q.rv (by rw [hZ0, hY35.out]) (by rw [hY35.out]; kernel_rfl) HY1.out ?_; intro w7 U7 B7)
    | ((with_reducible refine at_store (.tmp 13) ?_); refine wpList_store_dr1 rfl 33 (.tmp 13) (.tmp 12) rfl S5.out 3 34 (.slice lva lvl lvc) rfl rfl rfl rfl (by kernel_rfl) rfl rfl ?_; intro w6 U6' S'; have S6 := Lib.hid S'; clear S'; have HU6 := Lib.hid U6'; clear U6'; obtain ⟨Y, HYY⟩ : ∃ Y, Hid (flatP [[Value.int .u64 v1], [Value.int .u64 v2], bytesL r1, [Value.slice lva lvl lvc]] = Y) := ⟨_, rfl⟩; have KF := Lib.hid ((show Blk w6 w3.heap.size (flatP [[Value.int .u64 v1], [Value.int .u64 v2], bytesL r1, [Value.slice lva lvl lvc]]) from S6.out.xv).to HYY.out); have hY35 := Lib.hid (clSize HYY.out h32.out); have HY1 := Lib.hid (clOne HYY.out))
    | (go_at_call 90; refine (D4.out _ S4.out.q.rd).mono ?_; rintro e w5 ⟨lv, ys, rfl, hi, hle, hls, hlo, hr, hg⟩; obtain ⟨lva, lvl, lvc, rfl⟩ := ints_shape hi; have S5 := Lib.hid (S4.out.read (s' := s4) hr hg); have HI := Lib.hid hi; have HLS := Lib.hid hls; have HLE := Lib.hid hle; have HLO := Lib.hid (hlo : ∀ x a b, Value.slice lva lvl lvc = .slice (some x) a b → w4.heap.size ≤ x.block); clear hr hg hi hlo hls hle)
    | (go_at_call 88; refine (D3.out _ S2.out.rd).mono ?_; rintro e w3 ⟨rfl, hr, hg⟩; have S3 := Lib.hid (S2.out.read (s' := s3) hr hg); clear hr hg)
    | ((with_reducible refine at_build (some 10) ?_); refine wpList_build rfl 37 _ rfl #[(0, .int .u64 v1), (1, .int .u64 v2), (2, .agg (bytesV r1))] (by simp [Act.eval, Act.put]) (.agg Y0) (BC.out _) ?_)
    | ((with_reducible refine at_store (.tmp 3) ?_); refine wpList_store_blk rfl 37 (.tmp 3) _ rfl w3.heap.size Y0 rfl rfl Z (Blk.new rfl) (by rw [hZ0, hY035.out]) (by rw [hY035.out]; kernel_rfl) hY01.out ?_; intro w4 U4 B4; have S4 := Lib.hid (S3.out.start (ls := [1, 1, 32, 1]) U4 (B4.to HY0.out.symm) (by simp [h32.out])); clear U4 B4)
    | (go_at_call 59; refine (D2.out _ S1.out.rd).mono ?_; rintro e w2 ⟨rfl, hr, hg⟩; have S2 := Lib.hid (S1.out.read (s' := s2) hr hg); clear hr hg)
    | (go_at_call 59; refine (D1.out _ S0.out.rd).mono ?_; rintro e w1 ⟨rfl, hr, hg⟩; have S1 := Lib.hid (S0.out.read (s' := s1) hr hg); clear hr hg))
  have hx4 := S4.out.xv.lt
  have hx3 := S3.out.gro.size
  have hI7 := (HI.out.upd HU6.out (fun z x y e => by have := HLO.out z x y e; omega)).upd U7 (fun z x y e => by have := HLO.out z x y e; omega)
  obtain ⟨hr7, hg7⟩ := S6.out.q.done U7
  refine bodyPost_ret (res_cellR rfl rfl B7 Try.underlying37 rfl (by rw [hY35.out]; kernel_rfl)) rfl ⟨.slice lva lvl lvc, ys, ?_, hI7, HLE.out, HLS.out, fun z x y e => ?_, hr7, hg7⟩
  · rw [HED.out, ← HYY.out]; rfl
  · have := HLO.out z x y e; omega
end

/-! RdP -/
section
set_option linter.unusedVariables false
set_option linter.unusedSimpArgs false
open Go.RowKit

set_option maxRecDepth 100000 in
set_option maxHeartbeats 16000000 in
theorem rfblk_any (g : Nat) (a : Option Addr) (l c : Nat) (xs : List Int) (s : RS) (w : World) (h : Rfs w g a l c xs s) :
    Calls Try.prog 87 #[.pointer (some ⟨g, 0, none⟩)] w (RfV w g a l c xs (.agg (flatP (bkV s).parts)) (bk11 s)) := by
  have hglt := h.lt
  have hblt := h.blk_lt
  have hby0 := h.byteL
  obtain ⟨s0, hs0⟩ : ∃ s0, s = s0 := ⟨_, rfl⟩
  rw [hs0] at h hby0 ⊢
  clear hs0
  obtain ⟨s1, hs1⟩ : ∃ s', nU mxU s0 = s' := ⟨_, rfl⟩
  obtain ⟨s2, hs2⟩ : ∃ s', nW s1 = s' := ⟨_, rfl⟩
  obtain ⟨s3, hs3⟩ : ∃ s', nW s2 = s' := ⟨_, rfl⟩
  obtain ⟨s4, hs4⟩ : ∃ s', nW s3 = s' := ⟨_, rfl⟩
  obtain ⟨s5, hs5⟩ : ∃ s', nW s4 = s' := ⟨_, rfl⟩
  obtain ⟨s6, hs6⟩ : ∃ s', nW s5 = s' := ⟨_, rfl⟩
  obtain ⟨s7, hs7⟩ : ∃ s', nC s6 = s' := ⟨_, rfl⟩
  obtain ⟨s8, hs8⟩ : ∃ s', nC s7 = s' := ⟨_, rfl⟩
  obtain ⟨s9, hs9⟩ : ∃ s', nC s8 = s' := ⟨_, rfl⟩
  obtain ⟨s10, hs10⟩ : ∃ s', nC s9 = s' := ⟨_, rfl⟩
  obtain ⟨s11, hs11⟩ : ∃ s', nB s10 = s' := ⟨_, rfl⟩
  have hby1 : byteL s1.r := hs1 ▸ nU_byte hby0
  have hby2 : byteL s2.r := hs2 ▸ nW_byte hby1
  have hby3 : byteL s3.r := hs3 ▸ nW_byte hby2
  have hby4 : byteL s4.r := hs4 ▸ nW_byte hby3
  have hby5 : byteL s5.r := hs5 ▸ nW_byte hby4
  have hby6 : byteL s6.r := hs6 ▸ nW_byte hby5
  have hby7 : byteL s7.r := hs7 ▸ nC_byte hby6
  have hby8 : byteL s8.r := hs8 ▸ nC_byte hby7
  have hby9 : byteL s9.r := hs9 ▸ nC_byte hby8
  have hby10 : byteL s10.r := hs10 ▸ nC_byte hby9
  have q1 : bk1 s0 = s1 := by rw [bk1]; exact hs1
  have q2 : bk2 s0 = s2 := by rw [bk2, q1]; exact hs2
  have q3 : bk3 s0 = s3 := by rw [bk3, q2]; exact hs3
  have q4 : bk4 s0 = s4 := by rw [bk4, q3]; exact hs4
  have q5 : bk5 s0 = s5 := by rw [bk5, q4]; exact hs5
  have q6 : bk6 s0 = s6 := by rw [bk6, q5]; exact hs6
  have q7 : bk7 s0 = s7 := by rw [bk7, q6]; exact hs7
  have q8 : bk8 s0 = s8 := by rw [bk8, q7]; exact hs8
  have q9 : bk9 s0 = s9 := by rw [bk9, q8]; exact hs9
  have q10 : bk10 s0 = s10 := by rw [bk10, q9]; exact hs10
  have q11 : bk11 s0 = s11 := by rw [bk11, q10]; exact hs11
  have HP : Hid (flatP (bkV s0).parts = flatP [(vCD s8).cells, (vCD s9).cells, [.int .u64 (vU mxU s0)], bytesL (vW s1), bytesL (vW s2), bytesL (vW s3), wideL (numOf (vW s4)), wideL (numOf (vW s5)), (vCD s6).cells, (vCD s7).cells, [.bool (vB s10)]]) := by
    show _ = _
    unfold bkV
    rw [q1, q2, q3, q4, q5, q6, q7, q8, q9, q10]; rfl
  rw [HP.out, q11]
  have D1 : Hid (∀ u, Rfs u g a l c xs s0 → Calls Try.prog 59 #[.pointer (some ⟨g, 0, none⟩), .int .u64 18446744073709551615] u (RfV u g a l c xs (.int .u64 (vU mxU s0)) s1)) := fun u hr => by
    have := rfu_any g a l c xs s0 18446744073709551615 u hr (by omega) (by omega)
    rw [← hs1]; exact this
  have D2 : Hid (∀ u, Rfs u g a l c xs s1 → Calls Try.prog 88 #[.pointer (some ⟨g, 0, none⟩)] u (RfV u g a l c xs (.agg (bytesV (vW s1))) s2)) := fun u hr => by
    have := rfr_any g a l c xs s1 u hr
    rw [← hs2]; exact this
  have D3 : Hid (∀ u, Rfs u g a l c xs s2 → Calls Try.prog 88 #[.pointer (some ⟨g, 0, none⟩)] u (RfV u g a l c xs (.agg (bytesV (vW s2))) s3)) := fun u hr => by
    have := rfr_any g a l c xs s2 u hr
    rw [← hs3]; exact this
  have D4 : Hid (∀ u, Rfs u g a l c xs s3 → Calls Try.prog 88 #[.pointer (some ⟨g, 0, none⟩)] u (RfV u g a l c xs (.agg (bytesV (vW s3))) s4)) := fun u hr => by
    have := rfr_any g a l c xs s3 u hr
    rw [← hs4]; exact this
  have D5 : Hid (∀ u, Rfs u g a l c xs s4 → Calls Try.prog 110 #[.pointer (some ⟨g, 0, none⟩)] u (RfV u g a l c xs (.agg (wideL (numOf (vW s4))).toArray) s5)) := fun u hr => by
    have := rfw_any g a l c xs s4 u hr
    rw [← hs5]; exact this
  have D6 : Hid (∀ u, Rfs u g a l c xs s5 → Calls Try.prog 110 #[.pointer (some ⟨g, 0, none⟩)] u (RfV u g a l c xs (.agg (wideL (numOf (vW s5))).toArray) s6)) := fun u hr => by
    have := rfw_any g a l c xs s5 u hr
    rw [← hs6]; exact this
  have D7 : Hid (∀ u, Rfs u g a l c xs s6 → Calls Try.prog 89 #[.pointer (some ⟨g, 0, none⟩)] u (RfV u g a l c xs (.agg (vCD s6).cells.toArray) s7)) := fun u hr => by
    have := rfc_any g a l c xs s6 u hr
    rw [← hs7]; exact this
  have D8 : Hid (∀ u, Rfs u g a l c xs s7 → Calls Try.prog 89 #[.pointer (some ⟨g, 0, none⟩)] u (RfV u g a l c xs (.agg (vCD s7).cells.toArray) s8)) := fun u hr => by
    have := rfc_any g a l c xs s7 u hr
    rw [← hs8]; exact this
  have D9 : Hid (∀ u, Rfs u g a l c xs s8 → Calls Try.prog 89 #[.pointer (some ⟨g, 0, none⟩)] u (RfV u g a l c xs (.agg (vCD s8).cells.toArray) s9)) := fun u hr => by
    have := rfc_any g a l c xs s8 u hr
    rw [← hs9]; exact this
  have D10 : Hid (∀ u, Rfs u g a l c xs s9 → Calls Try.prog 89 #[.pointer (some ⟨g, 0, none⟩)] u (RfV u g a l c xs (.agg (vCD s9).cells.toArray) s10)) := fun u hr => by
    have := rfc_any g a l c xs s9 u hr
    rw [← hs10]; exact this
  have D11 : Hid (∀ u, Rfs u g a l c xs s10 → Calls Try.prog 111 #[.pointer (some ⟨g, 0, none⟩)] u (RfV u g a l c xs (.bool (vB s10)) s11)) := fun u hr => by
    have := rfb_any g a l c xs s10 u hr
    rw [← hs11]; exact this
  have hW1 := vW_is hby1
  have hW2 := vW_is hby2
  have hW3 := vW_is hby3
  have hC1 := vCD_ok hby6
  have hC2 := vCD_ok hby7
  have hC3 := vCD_ok hby8
  have hC4 := vCD_ok hby9
  have BC := Lib.hid (build_bk (vU mxU s0) (vW s1) (vW s2) (vW s3) (numOf (vW s4)) (numOf (vW s5)) (vCD s6) (vCD s7) hW1 hW2 hW3 hC1 hC2)
  have z2 := Lib.hid (bytesL_len hW1)
  have z3 := Lib.hid (bytesL_len hW2)
  have z4 := Lib.hid (bytesL_len hW3)
  have z7 := Lib.hid (CpD.len hC1)
  have z8 := Lib.hid (CpD.len hC2)
  have z9 := Lib.hid (CpD.len hC3)
  have z10 := Lib.hid (CpD.len hC4)
  clear HP hW1 hW2 hW3 hC1 hC2 hC3 hC4 hs1 q1 hs2 q2 hs3 q3 hs4 q4 hs5 q5 hs6 q6 hs7 q7 hs8 q8 hs9 q9 hs10 q10 hs11 q11 hby0 hby1 hby2 hby3 hby4 hby5 hby6 hby7 hby8 hby9 hby10
  generalize vU mxU s0 = v1 at *
  generalize vW s1 = r1 at *
  generalize vW s2 = r2 at *
  generalize vW s3 = r3 at *
  generalize numOf (vW s4) = n1 at *
  generalize numOf (vW s5) = n2 at *
  generalize vCD s6 = c1 at *
  generalize vCD s7 = c2 at *
  generalize vCD s8 = c3 at *
  generalize vCD s9 = c4 at *
  generalize vB s10 = b1 at *
  have hZ0 : (flatP zBk.parts).size = 238 := rfl
  obtain ⟨Z, hZ⟩ : ∃ Z, Z = flatP zBk.parts := ⟨_, rfl⟩
  rw [← hZ] at hZ0
  obtain ⟨hzz, hst⟩ := zero_array (P := Try.prog) (t := 32) (n := 238) Z (by rw [hZ]; kernel_rfl) hZ0 (by rw [hZ]; kernel_rfl)
  clear hZ
  have hlen0 : ([zCp.cells, zCp.cells, [.int .u64 v1], bytesL r1, bytesL r2, bytesL r3, wideL n1, wideL n2, c1.cells, c2.cells, [.bool false]] : List (List Value)).map List.length = [33, 33, 1, 32, 32, 32, 4, 4, 33, 33, 1] := by
    simp [z2.out, z3.out, z4.out, z7.out, z8.out, wideL]; rfl
  obtain ⟨Y0, HY0⟩ : ∃ Y, Hid (flatP [zCp.cells, zCp.cells, [.int .u64 v1], bytesL r1, bytesL r2, bytesL r3, wideL n1, wideL n2, c1.cells, c2.cells, [.bool false]] = Y) := ⟨_, rfl⟩
  have hY0s : Y0.size = 238 := by rw [← HY0.out, flatP_size, List.length_flatten, hlen0]; rfl
  have hone : ∀ (x y : CpD) (t : Bool), ∀ v ∈ flatP [x.cells, y.cells, [.int .u64 v1], bytesL r1, bytesL r2, bytesL r3, wideL n1, wideL n2, c1.cells, c2.cells, [.bool t]], v.oneCell' = true := fun x y t => BkD.one ⟨x, y, v1, r1, r2, r3, n1, n2, c1, c2, t⟩
  have HY01 : Hid (∀ v ∈ Y0, v.oneCell' = true) := by show ∀ v ∈ Y0, _; rw [← HY0.out]; exact hone _ _ _
  have HONE := Lib.hid hone; clear hone
  have HL0 := Lib.hid hlen0; clear hlen0
  have HI0 : Hid ((Try.prog.info? 32).map (·.size) = some Y0.size) := by show _ = _; rw [hY0s]; kernel_rfl
  rw [HY0.out] at BC
  have HI9 : Hid ((Try.prog.info? 26).map (·.size) = some c3.cells.length) := by show _ = _; rw [z9.out]; kernel_rfl
  have HI10 : Hid ((Try.prog.info? 26).map (·.size) = some c4.cells.length) := by show _ = _; rw [z10.out]; kernel_rfl
  obtain ⟨Y, HYY⟩ : ∃ Y, Hid (flatP [c3.cells, c4.cells, [.int .u64 v1], bytesL r1, bytesL r2, bytesL r3, wideL n1, wideL n2, c1.cells, c2.cells, [.bool b1]] = Y) := ⟨_, rfl⟩
  have hYs : Y.size = 238 := by rw [← HYY.out, flatP_size, List.length_flatten]; simp [z2.out, z3.out, z4.out, z7.out, z8.out, z9.out, z10.out, wideL]
  have HY1 : Hid (∀ v ∈ Y, v.oneCell' = true) := by show ∀ v ∈ Y, _; rw [← HYY.out]; exact HONE.out _ _ _
  have HIY : Hid ((Try.prog.info? 32).map (·.size) = some Y.size) := by show _ = _; rw [hYs]; kernel_rfl
  rw [HYY.out]
  have hba := (Below.refl w.heap.size w).alloc (Nat.le_refl _) (.cells Z 32)
  have S0 : Hid (DQ g a l c xs w.heap.size Z w (w.alloc (.cells Z 32)) s0) :=
    ⟨h.below hba, Blk.new rfl, grownBy_of_below hba, by omega, Nat.le_refl _, fun x hx h0 => by have := hblt x hx h0; omega⟩
  clear hba h
  go_enter Try.func87, Try.ntmps87
  go_wp2_with (first
    | ((with_reducible refine at_load (.tmp 3) ?_); refine wpList_load_blk rfl 32 (.tmp 3) rfl w8.heap.size rfl Y _ KF.out Try.underlying32 rfl HIY.out ?_)
    | ((with_reducible refine at_store (.tmp 2) ?_); refine wpList_store_blk rfl 32 (.tmp 2) (.tmp 32) rfl w.heap.size Y rfl rfl Z T11.out.q.rv (by rw [hZ0, hYs]) HIY.out HY1.out ?_; intro w20 U20 B20)
    | ((with_reducible refine at_store (.tmp 31) ?_); refine wpList_store_dr1 rfl 4 (.tmp 31) (.tmp 30) rfl S11.out 10 237 (.bool b1) rfl rfl rfl rfl (by kernel_rfl) rfl rfl ?_; intro x11 Ux S'; have T11 := Lib.hid S'; clear S' Ux; have KF := Lib.hid ((show Blk x11 w8.heap.size (flatP [c3.cells, c4.cells, [.int .u64 v1], bytesL r1, bytesL r2, bytesL r3, wideL n1, wideL n2, c1.cells, c2.cells, [.bool b1]]) from T11.out.xv).to HYY.out))
    | (go_at_call 111; refine (D11.out _ T10.out.q.rd).mono ?_; rintro e w11 ⟨rfl, hr, hg⟩; have S11 := Lib.hid (T10.out.read (s' := s11) hr hg); clear hr hg)
    | ((with_reducible refine at_store (.tmp 28) ?_); refine wpList_store_dr rfl 26 (.tmp 28) (.tmp 26) rfl S10.out 1 33 c4.cells (by rw [z10.out]; rfl) rfl rfl rfl HI10.out (CpD.one _) ?_; intro x10 Ux S'; have T10 := Lib.hid S'; clear S' Ux)
    | (go_at_call 89; refine (D10.out _ T9.out.q.rd).mono ?_; rintro e w10 ⟨rfl, hr, hg⟩; have S10 := Lib.hid (T9.out.read (s' := s10) hr hg); clear hr hg)
    | ((with_reducible refine at_store (.tmp 24) ?_); refine wpList_store_dr rfl 26 (.tmp 24) (.tmp 22) rfl S9.out 0 0 c3.cells (by rw [z9.out]; rfl) rfl rfl rfl HI9.out (CpD.one _) ?_; intro x9 Ux S'; have T9 := Lib.hid S'; clear S' Ux)
    | (go_at_call 89; refine (D9.out _ T8.out.q.rd).mono ?_; rintro e w9 ⟨rfl, hr, hg⟩; have S9 := Lib.hid (T8.out.read (s' := s9) hr hg); clear hr hg)
    | ((with_reducible refine at_store (.tmp 3) ?_); refine wpList_store_blk rfl 32 (.tmp 3) _ rfl w8.heap.size Y0 rfl rfl Z (Blk.new rfl) (by rw [hZ0, hY0s]) HI0.out HY01.out ?_; intro x8 U8 B8; have T8 := Lib.hid (S8.out.start (ls := [33, 33, 1, 32, 32, 32, 4, 4, 33, 33, 1]) U8 (B8.to HY0.out.symm) HL0.out); clear U8 B8)
    | ((with_reducible refine at_build (some 20) ?_); refine wpList_build rfl 32 _ rfl #[(1, .int .u64 v1), (2, .agg (bytesV r1)), (3, .agg (bytesV r2)), (4, .agg (bytesV r3)), (5, .agg (wideL n1).toArray), (6, .agg (wideL n2).toArray), (7, .agg c1.cells.toArray), (8, .agg c2.cells.toArray)] (by simp [Act.eval, Act.put]) (.agg Y0) (BC.out _) ?_)
    | (go_at_call 89; refine (D8.out _ S7.out.rd).mono ?_; rintro e w8 ⟨rfl, hr, hg⟩; have S8 := Lib.hid (S7.out.read (s' := s8) hr hg); clear hr hg)
    | (go_at_call 89; refine (D7.out _ S6.out.rd).mono ?_; rintro e w7 ⟨rfl, hr, hg⟩; have S7 := Lib.hid (S6.out.read (s' := s7) hr hg); clear hr hg)
    | (go_at_call 110; refine (D6.out _ S5.out.rd).mono ?_; rintro e w6 ⟨rfl, hr, hg⟩; have S6 := Lib.hid (S5.out.read (s' := s6) hr hg); clear hr hg)
    | (go_at_call 110; refine (D5.out _ S4.out.rd).mono ?_; rintro e w5 ⟨rfl, hr, hg⟩; have S5 := Lib.hid (S4.out.read (s' := s5) hr hg); clear hr hg)
    | (go_at_call 88; refine (D4.out _ S3.out.rd).mono ?_; rintro e w4 ⟨rfl, hr, hg⟩; have S4 := Lib.hid (S3.out.read (s' := s4) hr hg); clear hr hg)
    | (go_at_call 88; refine (D3.out _ S2.out.rd).mono ?_; rintro e w3 ⟨rfl, hr, hg⟩; have S3 := Lib.hid (S2.out.read (s' := s3) hr hg); clear hr hg)
    | (go_at_call 88; refine (D2.out _ S1.out.rd).mono ?_; rintro e w2 ⟨rfl, hr, hg⟩; have S2 := Lib.hid (S1.out.read (s' := s2) hr hg); clear hr hg)
    | (go_at_call 59; refine (D1.out _ S0.out.rd).mono ?_; rintro e w1 ⟨rfl, hr, hg⟩; have S1 := Lib.hid (S0.out.read (s' := s1) hr hg); clear hr hg))
  obtain ⟨hr7, hg7⟩ := T11.out.q.done U20
  exact bodyPost_ret (res_cellR rfl rfl B20 Try.underlying32 rfl HIY.out) rfl ⟨rfl, hr7, hg7⟩
end

/-! RdQ -/
section
set_option linter.unusedVariables false
set_option linter.unusedSimpArgs false
open Go.RowKit

/-- An append of one number, carried out. -/
theorem wp_app1 {k : IntKind} {t e : TypeId} {bytes : Nat} (hinfo : (Try.prog.info? e).map (fun i => (i.zero, i.size, i.bytes)) = some (some (.int k 0), 1, bytes)) (hby : bytes ≤ 8) (ht : Try.prog.underlying t = some (.slice e))
    {o : Oper} {a : Act} {w : World} {K : Act → World → Prop} {Q : Exit → Act → World → Prop} (s x : Operand)
    (ho : o.op = .call { callee := .builtin .append, args := #[s, x], argTypes := #[t, t] })
    (B : Nat) (v : Value) (xs : List Int) (hs : a.eval s = v) (hown : OwnK k e w B v xs) (g c : Nat) (y : Int) (hx : a.eval x = .slice (some ⟨g, 0, none⟩) 1 c) (hg : w.cell? ⟨g, 0, none⟩ = some (.int k y)) (h47 : xs.length ≤ 1000000000000) (hB : B ≤ w.heap.size)
    (h : ∀ v' w', OwnK k e w' B v' (xs ++ [y]) → w.grownBy w' v.ownBlock → (v'.ownBlock = v.ownBlock ∨ v'.ownBlock = some w.heap.size) → K (a.put o.dst v') w') : o.wp Try.prog a w K Q := by
  obtain ⟨v', w', h1, h2, h3, h4⟩ := run_app1 o.type hinfo hby ht w B v xs hown g c y hg h47 hB
  unfold Oper.wp execOp
  simp only [ho, resolve, invoke, builtin, Sem.run_bind, Sem.run_pure, Result.andThen_ok, List.map_toArray, List.map_cons, List.map_nil, hs, hx, h1]
  exact h v' w' h2 h3 h4

/-- A part of one cell is stored, carried out. -/
theorem wp_store_dr1 {g l c rr hx : Nat} {a : Option Addr} {xs : List Int} {Z : Array Value} {ls : List Nat} {w0 w : World} {ps : List (List Value)} {s : RS} {P : Program} {op : Oper} {ac : Act} {K : Act → World → Prop} {Q : Exit → Act → World → Prop} (ty : TypeId) (x y : Operand) (ho : op.op = .store ty x y)
    (h : DR g a l c xs rr Z hx ls w0 w ps s) (k o : Nat) (u : Value) (hk : ls[k]? = some 1) (hof : (ls.take k).sum = o) (hx' : ac.eval x = .pointer (some ⟨hx, o, none⟩)) (hy : ac.eval y = u)
    (hi : (P.info? ty).map (·.size) = some 1) (hu : u.cells = #[u]) (h1 : u.oneCell' = true)
    (hK : ∀ w', Upd hx w w' → DR g a l c xs rr Z hx ls w0 w' (ps.set k [u]) s → K (ac.put op.dst undef) w') : op.wp P ac w K Q := by
  obtain ⟨p, hp, hpl⟩ := h.partLen hk
  obtain ⟨v, rfl⟩ := List.length_eq_one_iff.1 hpl
  have hth := h.xv.partThere hp
  obtain ⟨g1, g2⟩ := h.xv.setPart (q := [u]) hp rfl
  have hoff : offP ps k = o := by rw [offP_lens h.len, hof]
  rw [hoff] at hth g1 g2
  have hr := run_storeCells_cells (P := P) hx o [u] 0 w (fun j hj => by simpa using (hth j (by simpa using hj)).1) (fun j hj => by simpa using (hth j (by simpa using hj)).2) (fun z hz => by rw [List.mem_singleton.1 hz]; exact h1)
  unfold Oper.wp execOp
  cases hq : P.info? ty with
  | none => simp [hq] at hi
  | some i =>
    have hs : i.size = 1 := by simpa [hq] using hi
    simp only [Nat.add_zero] at hr
    have hsv : (storeVar ty ⟨hx, o, none⟩ u).run P w = .ok () (w.setCells hx o [u]) := by
      simp [storeVar, sizeOf, typeInfo, hq, hu, hs, hr]
    simp only [ho, hx', hy, Instr.storeAt, Instr.sureAddr, Sem.run_bind, Sem.run_pure, Result.andThen_ok, hsv]
    exact hK _ g1 (h.put g1 g2 (set_lens h.len hk))

def rt2 (s : RS) : RS := nW (nU mxU s)
def rtC (s : RS) : CpD := ⟨vU mxU s, vW (nU mxU s)⟩
/-- The first k numbers. -/
def nmK (v : Nat → Int) (k : Nat) : List Int := (List.range k).map v
theorem nmK_len (v : Nat → Int) (k : Nat) : (nmK v k).length = k := by simp [nmK]
theorem nmK_next (v : Nat → Int) (k : Nat) : nmK v k ++ [v k] = nmK v (k + 1) := by simp [nmK, List.range_succ]

theorem DR.grownOther {g l c rr hx : Nat} {a : Option Addr} {xs : List Int} {Z : Array Value} {ls : List Nat} {w0 w w' : World} {ps : List (List Value)} {s : RS} {row : Option Nat} (h : DR g a l c xs rr Z hx ls w0 w ps s) (hg : w.grownBy w' row) (hr : ∀ m, row = some m → hx < m ∧ rr < m ∧ g < m ∧ w0.heap.size ≤ m ∧ ∀ x, a = some x → 0 < l → x.block < m) :
    DR g a l c xs rr Z hx ls w0 w' ps s := by
  have hne : ∀ b, (∀ m, row = some m → b < m) → some b ≠ row := fun b hb e => by have := hb b e.symm; omega
  refine ⟨⟨h.q.rd.grownOther hg (fun e => by have := (hr g e).2.2.1; omega) (fun x hx h0 e => by have := (hr _ e).2.2.2.2 x hx h0; omega), h.q.rv.grown hg (hne _ fun m hm => (hr m hm).2.1), grownBy_new h.q.gro hg (fun m hm => (hr m hm).2.2.2.1), h.q.rrg, h.q.rr0, h.q.rra⟩,
    h.xv.grown hg (hne _ fun m hm => (hr m hm).1), h.len, h.hx0, h.hxg, h.hxr, h.hxa⟩

theorem OwnK.upd {k : IntKind} {e : TypeId} {w w' : World} {B b : Nat} {v : Value} {xs : List Int} (h : OwnK k e w B v xs) (hU : Upd b w w') (hne : ∀ n, v.ownBlock = some n → n ≠ b) : OwnK k e w' B v xs := by
  refine ⟨h.1, ?_⟩
  rcases h.2 with h' | ⟨g, cap, cur, rfl, h2, h3, h4⟩
  · exact .inl h'
  · exact .inr ⟨g, cap, cur, rfl, h2, by rw [hU.block g (hne g rfl)]; exact h3, h4⟩

/-- What ReadTable's loop holds. -/
def RtI (g : Nat) (a : Option Addr) (l c : Nat) (xs : List Int) (rr : Nat) (Z : Array Value) (hx B : Nat) (w : World) (cp : CpD) (s1 : RS) (n : Nat) (i : Value) (wr : World) : Prop :=
  ∃ (k : Nat) (v : Value), k ≤ n ∧ i = .int .i64 k ∧ DR g a l c xs rr Z hx [33, 1] w wr [cp.cells, [v]] (stK mxU s1 k) ∧ OwnK .u64 22 wr B v (nmK (fun i => vU mxU (stK mxU s1 i)) k) ∧ B ≤ wr.heap.size

/-- What ReadTable promises. -/
def RfTb (w : World) (g : Nat) (a : Option Addr) (l c : Nat) (xs : List Int) (cp : CpD) (ls : List Int) (s : RS) (en : Ending) (w' : World) : Prop :=
  ∃ v ys, en = .returned (.agg (flatP [cp.cells, [v]])) ∧ Ints .u64 w' v ys ∧ ys.length ≤ 1024 ∧ (∃ x l c, v = .slice x l c) ∧ (s.e = 0 → ys = ls) ∧ (∀ x l c, v = .slice (some x) l c → w.heap.size ≤ x.block) ∧ Rfs w' g a l c xs s ∧ w.grownBy w' (some g)

theorem tbOne (cp : CpD) (a : Option Addr) (l c : Nat) : ∀ v ∈ flatP [cp.cells, [.slice a l c]], v.oneCell' = true :=
  flatP_one fun p hp v hv => by
    simp only [List.mem_cons, List.not_mem_nil, or_false] at hp
    rcases hp with rfl | rfl
    · exact CpD.one _ v hv
    · rw [List.mem_singleton.1 hv]; rfl

set_option maxRecDepth 100000 in
set_option maxHeartbeats 8000000 in
theorem rftab_any (g : Nat) (a : Option Addr) (l c : Nat) (xs : List Int) (s : RS) (w : World) (h : Rfs w g a l c xs s) :
    Calls Try.prog 92 #[.pointer (some ⟨g, 0, none⟩)] w (RfTb w g a l c xs (rtC s) (tbV (rt2 s)) (tbN (rt2 s))) := by
  have hglt := h.lt
  have hblt := h.blk_lt
  have hby0 := h.byteL
  have D1 := Lib.hid (fun u (h : Rfs u g a l c xs s) => rfu_any g a l c xs s 18446744073709551615 u h (by omega) (by omega))
  have hby1 : byteL (nU mxU s).r := nU_byte hby0
  have D2 := Lib.hid (fun u (h : Rfs u g a l c xs (nU mxU s)) => rfr_any g a l c xs (nU mxU s) u h)
  have hby2 : byteL (nW (nU mxU s)).r := nW_byte hby1
  have hn := vU_rng (m := 1024) hby2 (by omega)
  have D3 := Lib.hid (fun u (h : Rfs u g a l c xs (nW (nU mxU s))) => rfu_any g a l c xs (nW (nU mxU s)) 1024 u h (by omega) (by omega))
  have HBY := Lib.hid (nU_byte (m := 1024) hby2)
  have hcp : (rtC s).ok := by
    have h1 := vU_rng (m := mxU) hby0 (by unfold mxU; omega)
    exact ⟨h1.1, h1.2, vW_is hby1⟩
  have HL := Lib.hid (CpD.len hcp)
  have BC := Lib.hid (build_cp (vU mxU s) (vW (nU mxU s)) (vW_is hby1))
  have BT := Lib.hid (build_tb (rtC s) hcp)
  have HCV : Hid (cpV (vU mxU s) (vW (nU mxU s)) = (rtC s).cells.toArray) := rfl
  rw [HCV.out] at BC
  have HV : Hid (tbV (rt2 s) = nmK (fun i => vU mxU (stK mxU (nU 1024 (nW (nU mxU s))) i)) (vU 1024 (nW (nU mxU s))).toNat) := rfl
  have HN : Hid (tbN (rt2 s) = stK mxU (nU 1024 (nW (nU mxU s))) (vU 1024 (nW (nU mxU s))).toNat) := rfl
  rw [HV.out, HN.out]
  clear HV HN HCV hby0 hby1 hby2 hcp
  generalize rtC s = cp at *
  change Hid (∀ u, Rfs u g a l c xs s → Calls _ _ _ u (RfV u g a l c xs (.int .u64 (vU mxU s)) (nU mxU s))) at D1
  change Hid (∀ u, Rfs u g a l c xs (nU mxU s) → Calls _ _ _ u (RfV u g a l c xs (.agg (bytesV (vW (nU mxU s)))) (nW (nU mxU s)))) at D2
  change Hid (∀ u, Rfs u g a l c xs (nW (nU mxU s)) → Calls _ _ _ u (RfV u g a l c xs (.int .u64 (vU 1024 (nW (nU mxU s)))) (nU 1024 (nW (nU mxU s))))) at D3
  generalize vU mxU s = v1 at *
  generalize vW (nU mxU s) = r1 at *
  obtain ⟨n, hnn⟩ : ∃ n : Nat, Hid ((vU 1024 (nW (nU mxU s))).toNat = n) := ⟨_, rfl⟩
  have hn1 : n ≤ 1024 := by rw [← hnn.out]; omega
  have e1 : vU 1024 (nW (nU mxU s)) = (n : Int) := by rw [← hnn.out, Int.toNat_of_nonneg hn.1]
  rw [e1] at D3
  rw [hnn.out]
  clear e1 hn hnn
  generalize nU 1024 (nW (nU mxU s)) = s3 at *
  generalize nW (nU mxU s) = s2 at *
  generalize nU mxU s = s1 at *
  have hZ0 : (flatP zTb.parts).size = 34 := rfl
  obtain ⟨Z, hZ⟩ : ∃ Z, Z = flatP zTb.parts := ⟨_, rfl⟩
  rw [← hZ] at hZ0
  obtain ⟨hzz, hst⟩ := zero_array (P := Try.prog) (t := 42) (n := 34) Z (by rw [hZ]; kernel_rfl) hZ0 (by rw [hZ]; kernel_rfl)
  clear hZ
  obtain ⟨Y0, HY0⟩ : ∃ Y, Hid (flatP [cp.cells, [.slice none 0 0]] = Y) := ⟨_, rfl⟩
  have hY0s : Y0.size = 34 := by rw [← HY0.out, flatP_size]; simp [HL.out]
  have HY01 : Hid (∀ v ∈ Y0, v.oneCell' = true) := by show ∀ v ∈ Y0, _; rw [← HY0.out]; exact tbOne _ _ _ _
  have HI0 : Hid ((Try.prog.info? 42).map (·.size) = some Y0.size) := by show _ = _; rw [hY0s]; kernel_rfl
  rw [HY0.out] at BT
  have hba := (Below.refl w.heap.size w).alloc (Nat.le_refl _) (.cells Z 42)
  have S0 : Hid (DQ g a l c xs w.heap.size Z w (w.alloc (.cells Z 42)) s) :=
    ⟨h.below hba, Blk.new rfl, grownBy_of_below hba, by omega, Nat.le_refl _, fun x hx h0 => by have := hblt x hx h0; omega⟩
  clear hba h
  go_enter Try.func92, Try.ntmps92
  go_wp2_with (first
    | (go_at_call 59; refine (D3.out _ S3.out.q.rd).mono ?_; rintro e w3 ⟨rfl, hr, hg⟩; have S4 := Lib.hid (S3.out.read (s' := s3) hr hg); clear hr hg)
    | ((with_reducible refine at_store (.tmp 3) ?_); refine wpList_store_blk rfl 42 (.tmp 3) _ rfl w2.heap.size Y0 rfl rfl Z (Blk.new rfl) (by rw [hZ0, hY0s]) HI0.out HY01.out ?_; intro x3 U3 B3; have S3 := Lib.hid (S2.out.start (ls := [33, 1]) U3 (B3.to HY0.out.symm) (by simp [HL.out])); clear U3 B3)
    | ((with_reducible refine at_build (some 10) ?_); refine wpList_build rfl 26 _ rfl #[(0, .int .u64 v1), (1, .agg (bytesV r1))] (by simp [Act.eval, Act.put]) (.agg cp.cells.toArray) (BC.out _) ?_)
    | ((with_reducible refine at_build (some 11) ?_); refine wpList_build rfl 42 _ rfl #[(0, .agg cp.cells.toArray)] (by simp [Act.eval, Act.put]) (.agg Y0) (BT.out _) ?_)
    | (go_at_call 88; refine (D2.out _ S1.out.rd).mono ?_; rintro e w2 ⟨rfl, hr, hg⟩; have S2 := Lib.hid (S1.out.read (s' := s2) hr hg); clear hr hg)
    | (go_at_call 59; refine (D1.out _ S0.out.rd).mono ?_; rintro e w1 ⟨rfl, hr, hg⟩; have S1 := Lib.hid (S0.out.read (s' := s1) hr hg); clear hr hg))
  have hx4 : w2.heap.size < w3.heap.size := S4.out.xv.lt
  have hg0 := S2.out.gro.size
  go_loopw [5] (fun i wr => RtI g a l c xs w.heap.size Z w2.heap.size w3.heap.size w cp s3 n i wr) (fun i _ => n - (intOf i).toNat)
  case atStart => exact ⟨0, .slice none 0 0, Nat.zero_le _, rfl, S4.out, OwnK.nil _ _ _ _, Nat.le_refl _⟩
  case round =>
    obtain ⟨k, v, hk, rfl, hd, how, hB⟩ := hrel
    obtain ⟨p, c0, c1, c2, c3, _⟩ := hd.q.rd.three
    by_cases hgo : k < n ∧ (stK mxU s3 k).e = 0
    · obtain ⟨hlt, he⟩ := hgo
      have heq : ((stK mxU s3 k).e == 0) = true := by rw [he]; rfl
      clear he
      obtain ⟨va, vl, vc, rfl⟩ := how.shape
      have hsl := hd.cell1 1 33 rfl rfl
      have hx := vU_rng (m := mxU) (stK_byte (m := mxU) HBY.out k) (by unfold mxU; omega)
      have E3 := Lib.hid (nmK_next (fun i => vU mxU (stK mxU s3 i)) k)
      have hln := nmK_len (fun i => vU mxU (stK mxU s3 i)) k
      have D4 := Lib.hid (fun u (h : Rfs u g a l c xs (stK mxU s3 k)) => rfu_any g a l c xs (stK mxU s3 k) 18446744073709551615 u h (by omega) (by omega))
      change Hid (∀ u, Rfs u g a l c xs (stK mxU s3 k) → Calls _ _ _ u (RfV u g a l c xs (.int .u64 (vU mxU (stK mxU s3 k))) (stK mxU s3 (k + 1)))) at D4
      obtain ⟨xn, HX⟩ : ∃ x, Hid (vU mxU (stK mxU s3 k) = x) := ⟨_, rfl⟩
      obtain ⟨L, HLL⟩ : ∃ L, Hid (nmK (fun i => vU mxU (stK mxU s3 i)) k = L) := ⟨_, rfl⟩
      have E3' : Hid (L ++ [xn] = nmK (fun i => vU mxU (stK mxU s3 i)) (k + 1)) := by show _ = _; rw [← HLL.out, ← HX.out]; exact E3.out
      rw [HX.out] at D4 hx
      rw [HLL.out] at how hln
      have HLN := Lib.hid hln; clear hln E3
      have HD := Lib.hid hd; clear hd
      have HOW := Lib.hid how; clear how
      go_wp2_with fail
      obtain ⟨x, hxx⟩ : ∃ x, wr.drew = x := ⟨_, rfl⟩
      have hd' : Hid (DR g a l c xs w.heap.size Z w2.heap.size [33, 1] w x [cp.cells, [.slice va vl vc]] (stK mxU s3 k)) := by rw [← hxx]; exact HD.out.below (Below.drewN (n := 1) (Below.refl _ _))
      have how' : Hid (OwnK .u64 22 x w3.heap.size (.slice va vl vc) L) := by rw [← hxx]; exact HOW.out.grown (grownBy_drewN (World.grownBy.rfl' _ none) 1) (fun _ _ => by simp)
      have hcx : x.cell? ⟨w2.heap.size, 33, none⟩ = some (.slice va vl vc) := hd'.out.cell1 1 33 rfl rfl
      have hBx : w3.heap.size ≤ x.heap.size := by rw [← hxx]; exact hB
      refine wp_region_k (S := fun u => u.cell? ⟨w2.heap.size, 33, none⟩ = some (.slice va vl vc)) (k := 7) (by kernel_rfl) ?_
      rw [hxx]
      clear hxx HD HOW hsl c0 c1 c2 c3
      (try simp only [Act.put, List.setIfInBounds_toArray, List.set_cons_zero, List.set_cons_succ])
      refine wpAnyK_take (i := 0) (oi := ⟨some 27, _, _, _, _, _⟩) (v := .pointer (some ⟨w2.heap.size, 33, none⟩)) [0] rfl (by kernel_rfl) (by kernel_rfl) (by kernel_rfl) (by kernel_rfl) (fun _ _ _ h => h) (Or.inl ⟨by rfl, fun wz hz => ?_⟩) hcx ?_
      · clear hz; go_simp; first | done | with_reducible rfl | rfl
      (try simp only [Act.put, List.setIfInBounds_toArray, List.set_cons_zero, List.set_cons_succ])
      refine k_load1 1 [1] rfl (by kernel_rfl) (by kernel_rfl) (by kernel_rfl) (by kernel_rfl) (fun _ _ _ _ h => h) rfl 40 (.tmp 27) rfl w2.heap.size 33 rfl (.slice va vl vc) _ (fun u' hu => hu) Try.underlying40 rfl hcx ?_
      (try simp only [Act.put, List.setIfInBounds_toArray, List.set_cons_zero, List.set_cons_succ])
      refine wpAnyK_take (i := 2) (oi := ⟨some 29, _, _, _, _, _⟩) (v := .pointer (some ⟨g, 0, none⟩)) [2] rfl (by kernel_rfl) (by kernel_rfl) (by kernel_rfl) (by kernel_rfl) (fun _ _ _ h => h) (Or.inl ⟨by rfl, fun wz hz => ?_⟩) hcx ?_
      · clear hz; go_simp; first | done | with_reducible rfl | rfl
      (try simp only [Act.put, List.setIfInBounds_toArray, List.set_cons_zero, List.set_cons_succ])
      refine wpAnyK_one (i := 3) (by kernel_rfl) rfl (fun K hK => ?_)
      go_simp
      refine (D4.out _ hd'.out.q.rd).mono ?_
      rintro e y ⟨rfl, hr, hg⟩
      have hdy := hd'.out.read (s' := stK mxU s3 (k + 1)) hr hg
      have howy := how'.out.grown hg (fun m hm => by have := (how'.out.lt m hm).1; simp; omega)
      have hcy : y.cell? ⟨w2.heap.size, 33, none⟩ = some (.slice va vl vc) := hdy.cell1 1 33 rfl rfl
      have hBy : w3.heap.size ≤ y.heap.size := Nat.le_trans hBx hg.size
      refine hK.out _ _ hcy ?_
      clear hK K hd' how' hcx hr hg hBx D4
      (try simp only [Act.put, List.setIfInBounds_toArray, List.set_cons_zero, List.set_cons_succ])
      have hba := (Below.refl y.heap.size y).alloc (Nat.le_refl _) (.cells #[Value.int .u64 xn] 22)
      have hdz := Lib.hid (hdy.below hba)
      have howz := Lib.hid (howy.grown (grownBy_of_below (row := none) hba) (fun _ _ => by simp))
      have hcz : (y.alloc (.cells #[Value.int .u64 xn] 22)).cell? ⟨w2.heap.size, 33, none⟩ = some (.slice va vl vc) := hdz.out.cell1 1 33 rfl rfl
      have HLT := Lib.hid howy.lt
      refine wpAnyK_one (i := 4) (by kernel_rfl) rfl (fun K hK => ?_)
      go_simp
      refine hK.out _ _ hcz ?_
      clear hK K hcy hdy howy
      (try simp only [Act.put, List.setIfInBounds_toArray, List.set_cons_zero, List.set_cons_succ])
      refine wpAnyK_one (i := 5) (by kernel_rfl) rfl (fun K hK => ?_)
      rw [if_pos (by rfl)]
      refine wp_app1 info_u64c (by omega) Try.underlying40 _ _ rfl w3.heap.size _ L rfl howz.out y.heap.size 1 xn rfl ((Blk.new rfl).cell 0) (by rw [HLN.out]; omega) (by simp; omega) ?_
      intro v5 w5 ho5 hg5 hn5
      obtain ⟨v5a, v5l, v5c, rfl⟩ := ho5.shape
      have hd5 := hdz.out.grownOther hg5 (fun m hm => by have := (HLT.out m hm).1; exact ⟨by omega, by omega, by omega, by omega, fun z hz h0 => by have := hblt z hz h0; omega⟩)
      have hc5 : w5.cell? ⟨w2.heap.size, 33, none⟩ = some (.slice va vl vc) := hd5.cell1 1 33 rfl rfl
      refine hK.out _ _ hc5 ?_
      clear hK K hcz hdz howz
      (try simp only [Act.put, List.setIfInBounds_toArray, List.set_cons_zero, List.set_cons_succ])
      refine wpAnyK_take (i := 6) (oi := ⟨some 33, _, _, _, _, _⟩) (v := .pointer (some ⟨w2.heap.size, 33, none⟩)) [6] rfl (by kernel_rfl) (by kernel_rfl) (by kernel_rfl) (by kernel_rfl) (fun _ _ _ h => h) (Or.inl ⟨by rfl, fun wz hz => ?_⟩) hc5 ?_
      · clear hz; go_simp; first | done | with_reducible rfl | rfl
      (try simp only [Act.put, List.setIfInBounds_toArray, List.set_cons_zero, List.set_cons_succ])
      refine wpAnyK_last (i := 7) (by kernel_rfl) rfl (by kernel_rfl) (fun K hK => ?_)
      rw [if_pos (by rfl)]
      refine wp_store_dr1 40 (.tmp 33) (.tmp 32) rfl hd5 1 33 (.slice v5a v5l v5c) rfl rfl rfl rfl (by kernel_rfl) rfl rfl ?_
      intro w6 U6 hd6
      refine hK.out _ _ ?_
      clear hK K
      (try simp only [Act.put, List.setIfInBounds_toArray, List.set_cons_zero, List.set_cons_succ])
      refine wpAnyK_done (by kernel_rfl) ?_ _
      have HD6 := Lib.hid hd6; clear hd6 hd5 hc5
      have HO6 := Lib.hid (ho5.upd U6 (fun m hm => by have := (ho5.lt m hm).1; omega))
      have hB6 : w3.heap.size ≤ w6.heap.size := by rw [U6.size]; have := hg5.size; simp at this; omega
      clear ho5 hg5 hn5 U6
      go_wp2_with fail
      rw [E3'.out] at HO6
      exact ⟨⟨k + 1, _, hlt, by go_num, HD6.out, HO6.out, hB6⟩, by simp [intOf]; omega⟩
    · have hlen := nmK_len (fun i => vU mxU (stK mxU s3 i)) k
      obtain ⟨va, vl, vc, rfl⟩ := how.shape
      have hls : (stK mxU s3 n).e = 0 → nmK (fun i => vU mxU (stK mxU s3 i)) k = nmK (fun i => vU mxU (stK mxU s3 i)) n := fun he => by
        by_cases hkn : k = n
        · rw [hkn]
        · have h1 : (stK mxU s3 k).e ≠ 0 := fun e => hgo ⟨by omega, e⟩
          rw [stK_err_at h1 hk] at he
          exact absurd he h1
      have hst : stK mxU s3 k = stK mxU s3 n := by
        by_cases hkn : k = n
        · rw [hkn]
        · have h1 : (stK mxU s3 k).e ≠ 0 := fun e => hgo ⟨by omega, e⟩
          exact (stK_err_at h1 hk).symm
      have hlo := how.lo
      have hin := how.ints (by rw [hlen]; unfold maxLen; omega)
      have HLS := Lib.hid hls; clear hls
      have HKF := Lib.hid hd.xv
      have HRR := Lib.hid hd.q.rv
      rw [hst] at hd
      have HD := Lib.hid hd; clear hd
      have HIN := Lib.hid hin; clear hin how
      have HLO := Lib.hid hlo; clear hlo
      have HLEN := Lib.hid hlen; clear hlen
      have HST := Lib.hid hst; clear hst
      obtain ⟨Y, HYY⟩ : ∃ Y, Hid (flatP [cp.cells, [Value.slice va vl vc]] = Y) := ⟨_, rfl⟩
      have hYs : Y.size = 34 := by rw [← HYY.out, flatP_size]; simp [HL.out]
      have HY1 : Hid (∀ v ∈ Y, v.oneCell' = true) := by show ∀ v ∈ Y, _; rw [← HYY.out]; exact tbOne _ _ _ _
      have HIY : Hid ((Try.prog.info? 42).map (·.size) = some Y.size) := by show _ = _; rw [hYs]; kernel_rfl
      rw [HYY.out] at HKF
      have HEND : Hid (∀ u, Upd w.heap.size wr u → RfTb w g a l c xs cp (nmK (fun i => vU mxU (stK mxU s3 i)) n) (stK mxU s3 n) (.returned (.agg Y)) u) := fun u hU => by
        obtain ⟨h1, h2⟩ := HD.out.q.done hU
        exact ⟨_, _, by rw [HYY.out], HIN.out.upd hU (fun z x y e => by have := HLO.out z x y e; omega), by rw [HLEN.out]; omega, ⟨_, _, _, rfl⟩, HLS.out, fun z x y e => by have := HLO.out z x y e; omega, h1, h2⟩
      by_cases hlt : k < n
      · have heq : ((stK mxU s3 k).e == 0) = false := by simpa using fun e => hgo ⟨hlt, e⟩
        clear hgo
        go_wp2_with (first
          | ((with_reducible refine at_load (.tmp 3) ?_); refine wpList_load_blk rfl 42 (.tmp 3) rfl w2.heap.size rfl Y _ HKF.out Try.underlying42 rfl HIY.out ?_)
          | ((with_reducible refine at_store (.tmp 2) ?_); refine wpList_store_blk rfl 42 (.tmp 2) (.tmp 34) rfl w.heap.size Y rfl rfl Z HRR.out (by rw [hZ0, hYs]) HIY.out HY1.out ?_; intro w20 U20 B20))
        exact bodyPost_ret (res_cellR rfl rfl B20 Try.underlying42 rfl HIY.out) rfl (HEND.out _ U20)
      · obtain rfl : k = n := by omega
        clear hgo
        go_wp2_with (first
          | ((with_reducible refine at_load (.tmp 3) ?_); refine wpList_load_blk rfl 42 (.tmp 3) rfl w2.heap.size rfl Y _ HKF.out Try.underlying42 rfl HIY.out ?_)
          | ((with_reducible refine at_store (.tmp 2) ?_); refine wpList_store_blk rfl 42 (.tmp 2) (.tmp 34) rfl w.heap.size Y rfl rfl Z HRR.out (by rw [hZ0, hYs]) HIY.out HY1.out ?_; intro w20 U20 B20))
        exact bodyPost_ret (res_cellR rfl rfl B20 Try.underlying42 rfl HIY.out) rfl (HEND.out _ U20)
end

/-! RdW -/
section
set_option linter.unusedVariables false
set_option linter.unusedSimpArgs false
open Go.RowKit

theorem Rfs.rlen {w : World} {g l c : Nat} {a : Option Addr} {xs : List Int} {s : RS} (h : Rfs w g a l c xs s) : s.r.length ≤ xs.length := by have := congrArg List.length h.rest; rw [List.length_drop] at this; omega

theorem build_zero {P : Program} {t : TypeId} {fields : Array Field} {Z : Array Value} {places : Array (Nat × Nat)} (hz : ∀ w, (zeroValue t).run P w = .ok (.agg Z) w) (hu : P.underlying t = some (.struct fields))
    (hpl : ∀ w, Sem.run P (fields.mapM fun f => do pure (f.offset, ← sizeOf f.type)) w = .ok places w) (u : World) : (Instr.build t #[]).run P u = .ok (.agg Z) u :=
  build_struct hz hu hpl rfl u

/-- A value that is built is taken first. -/
theorem held_build {P : Program} {ops : Array Oper} {Q : Exit → Act → World → Prop} {S : World → Prop} (i : Nat) {oi : Oper} {fuel : Nat} {listed : Array Bool} {a : Act} {w : World} (hi : ops[i]? = some oi)
    (hs : Region.noSelect ops = true) (hf : Region.free .any ops listed i = true) (hr : (Region.ready .any ops listed).contains i = true)
    (hQ : ∀ v c a w, Q (.panic c) (a.put oi.dst v) w → Q (.panic c) a w) (hw : Region.wanted oi (yielded ops a.tmps) = true) (t : TypeId) (ps : Array (Nat × Operand)) (ho : oi.op = .build t ps)
    (ps' : Array (Nat × Value)) (hps : ps.map (fun (i, x) => (i, a.eval x)) = ps') (v : Value) (hrun : ∀ u, (Instr.build t ps').run P u = .ok v u) (hS : S w)
    (h : wpAnyH P .any ops Q S fuel (listed.setIfInBounds i true) (a.put oi.dst v) w) : wpAnyH P .any ops Q S (fuel + 1) listed a w :=
  wpAnyH_take hi hs hf hr (hQ _) (.inl ⟨hw, fun u _ => by
    unfold execOp
    simp only [ho, hps, Sem.run_bind, hrun, Result.andThen_ok, Sem.run_pure]⟩) hS h

theorem fin_err {w u w6 : World} {e : Int} {X Z Z' : Array Value} {n : Int} {b : Bool} {rr : Nat} (he : e ≠ 0) (hZ : Z = Z') (hB : Below w.heap.size w u) (hU : Upd rr u w6) (hr : w.heap.size ≤ rr) : Fin w (finX e b X Z') (finU e b n) (finE e b) (.returned (.tuple #[.agg Z, .int .i64 0, .int .i64 e])) w6 := by
  have h1 : finE e b = e := by unfold finE; rw [if_pos he]
  refine ⟨?_, hU.below hB hr⟩
  unfold finX finU
  rw [h1, if_neg he, if_neg he, hZ]

theorem fin_ok {w u w6 : World} {X Z' : Array Value} {n m : Int} {rr : Nat} {e : Int} (he : e = 0) (hB : Below w.heap.size w u) (hU : Upd rr u w6) (hr : w.heap.size ≤ rr) (hn : n = m) : Fin w (finX e true X Z') (finU e true n) (finE e true) (.returned (.tuple #[.agg X, .int .i64 m, .int .i64 0])) w6 := by
  subst he hn
  exact ⟨rfl, hU.below hB hr⟩

theorem fin_form {w u w6 : World} {X Z Z' : Array Value} {n : Int} {rr : Nat} {e : Int} (he : e = 0) (hZ : Z = Z') (hB : Below w.heap.size w u) (hU : Upd rr u w6) (hr : w.heap.size ≤ rr) : Fin w (finX e false X Z') (finU e false n) (finE e false) (.returned (.tuple #[.agg Z, .int .i64 0, .int .i64 2])) w6 := by
  subst he hZ
  exact ⟨rfl, hU.below hB hr⟩
end

/-! RdR -/
section
set_option linter.unusedVariables false
set_option linter.unusedSimpArgs false
open Go.RowKit

set_option maxRecDepth 100000 in
set_option maxHeartbeats 16000000 in
theorem rdblk_any (v : Value) (bs : List Int) (w : World) (h : Byt w v bs) :
    Calls Try.prog 60 #[v] w (Fin w (finX (bk11 ⟨bs, 0⟩).e true (flatP (bkV ⟨bs, 0⟩).parts) (flatP zBk.parts)) (finU (bk11 ⟨bs, 0⟩).e true ((bs.length : Int) - ((bk11 ⟨bs, 0⟩).r.length : Nat))) (finE (bk11 ⟨bs, 0⟩).e true)) := by
  obtain ⟨va, vl, vc, rfl⟩ := h.shape
  have hby : byteL bs := h.rng
  have hblt := h.blk_lt
  have hfits := h.fits _ _ _ rfl
  have hln : bs.length = vl := by obtain ⟨_, _, _, e', hl, _⟩ := h.ints; cases e'; exact hl
  unfold maxLen at hfits
  obtain ⟨Z, hZ⟩ : ∃ Z, Z = flatP zBk.parts := ⟨_, rfl⟩
  have hZ0 : Z.size = 238 := by rw [hZ]; rfl
  obtain ⟨hzz, hst⟩ := zero_array (P := Try.prog) (t := 32) (n := 238) Z (by rw [hZ]; kernel_rfl) hZ0 (by rw [hZ]; kernel_rfl)
  have HZZ := Lib.hid hzz
  have HZ1 : Hid (∀ v ∈ Z, v.oneCell' = true) := fun v hv => (Array.all_eq_true_iff_forall_mem.1 (show Z.all (·.oneCell') = true by rw [hZ]; kernel_rfl)) v hv
  have HIZ : Hid ((Try.prog.info? 32).map (·.size) = some Z.size) := by show _ = _; rw [hZ0]; kernel_rfl
  have HZ := Lib.hid hZ; clear hZ
  have hba := ((Below.refl w.heap.size w).alloc (Nat.le_refl _) (.cells Z 32)).alloc (by simp) (.cells #[.slice va vl vc, .int .i64 0, .int .i64 0] 103)
  have S0 : Hid (DQ (w.heap.size + 1) va vl vc bs w.heap.size Z w ((w.alloc (.cells Z 32)).alloc (.cells #[.slice va vl vc, .int .i64 0, .int .i64 0] 103)) ⟨bs, 0⟩) :=
    ⟨Rfs.mk' (p := 0) ⟨Blk.new (by simp), h.below hba, Nat.zero_le _, fun x hx h0 => by have := hblt x hx h0; omega⟩ (by simp), (Blk.new rfl).alloc _, grownBy_of_below hba, by omega, Nat.le_refl _, fun x hx h0 => by have := hblt x hx h0; omega⟩
  have HLN := Lib.hid hln
  clear hba h hln
  have D1 := Lib.hid (fun u (h : Rfs u (w.heap.size + 1) va vl vc bs ⟨bs, 0⟩) => rfblk_any (w.heap.size + 1) va vl vc bs ⟨bs, 0⟩ u h)
  have hX0 : (flatP (bkV ⟨bs, 0⟩).parts).size = 238 := by rw [flatP_size, List.length_flatten, BkD.lens (bkV_ok (s := ⟨bs, 0⟩) hby)]; rfl
  have hX1 := BkD.one (bkV ⟨bs, 0⟩)
  change Hid (∀ u, Rfs u (w.heap.size + 1) va vl vc bs ⟨bs, 0⟩ → Calls _ _ _ u (RfV u (w.heap.size + 1) va vl vc bs (.agg (flatP (bkV ⟨bs, 0⟩).parts)) (bk11 ⟨bs, 0⟩))) at D1
  generalize flatP (bkV ⟨bs, 0⟩).parts = X at *
  generalize bk11 ⟨bs, 0⟩ = sF at *
  have HX1 := Lib.hid hX1; clear hX1
  have HIX : Hid ((Try.prog.info? 32).map (·.size) = some X.size) := by show _ = _; rw [hX0]; kernel_rfl
  have HSX : Hid (Z.size = X.size) := by show _ = _; rw [hZ0, hX0]
  by_cases he : sF.e = 0
  case neg =>
    have hne : (sF.e != 0) = true := by simpa using he
    have HE := Lib.hid he; clear he
    obtain ⟨ER, HERR⟩ : ∃ e, Hid (sF.e = e) := ⟨_, rfl⟩
    go_enter Try.func60, Try.ntmps60
    go_wp2_with (first
      | (go_at_call 87; refine (D1.out _ S0.out.rd).mono ?_; rintro e w1 ⟨rfl, hr, hg⟩; have S1 := Lib.hid (S0.out.read (s' := sF) hr hg); clear hr hg)
      | ((with_reducible refine at_store (.tmp 6) ?_); refine wpList_store_blk rfl 32 (.tmp 6) _ rfl w1.heap.size X rfl rfl Z (Blk.new rfl) HSX.out HIX.out HX1.out ?_; intro w2 U2 B2
         have hb2 : Below w1.heap.size w1 w2 := U2.below ((Below.refl _ w1).alloc (Nat.le_refl _) _) (Nat.le_refl _)
         have S2 := Lib.hid (S1.out.below hb2)
         obtain ⟨p2, c0, c1, c2, c3, _⟩ := S2.out.rd.three
         clear hb2 U2 B2))
    have HBL := Lib.hid (grownBy_below S2.out.gro (Nat.le_succ _) (Nat.le_refl _))
    obtain ⟨x, hxx⟩ : ∃ x, w2.drew = x := ⟨_, rfl⟩
    have hrx : Hid (Rfs x (w.heap.size + 1) va vl vc bs sF) := by rw [← hxx]; exact (S2.out.rd).drewN 1
    have hbx : Hid (Blk x w.heap.size Z) := by rw [← hxx]; exact S2.out.rv
    have hBX : Hid (Below w.heap.size w x) := by rw [← hxx]; exact Below.drewN (n := 1) HBL.out
    have hcx : x.cell? ⟨w.heap.size + 1, 2, none⟩ = some (.int .i64 ER) := by rw [hrx.out.fp.three.2.2.1, HERR.out]
    refine wp_region_held_drew (S := fun u => u.cell? ⟨w.heap.size + 1, 2, none⟩ = some (.int .i64 ER)) (by kernel_rfl) (by rw [hxx]; exact hcx) (fun _ => ?_)
    rw [hxx]
    clear hxx
    (try simp only [Act.put, List.setIfInBounds_toArray, List.set_cons_zero, List.set_cons_succ])
    refine held_build 0 (oi := ⟨some 17, _, _, _, _, _⟩) rfl (by kernel_rfl) (by kernel_rfl) (by kernel_rfl) (fun _ _ _ _ h => h) rfl 32 #[] rfl #[] (by simp) (.agg Z) (build_zero HZZ.out Try.underlying32 (places := #[(0, 66), (66, 1), (67, 32), (99, 32), (131, 32), (163, 4), (167, 4), (171, 33), (204, 33), (237, 1)]) (fun w => by kernel_rfl)) hcx ?_
    (try simp only [Act.put, List.setIfInBounds_toArray, List.set_cons_zero, List.set_cons_succ])
    refine wpAnyH_take (i := 1) (oi := ⟨some 18, _, _, _, _, _⟩) (v := .pointer (some ⟨w.heap.size + 1, 0, none⟩)) rfl (by kernel_rfl) (by kernel_rfl) (by kernel_rfl) (fun _ _ _ h => h) (Or.inl ⟨by rfl, fun wz hz => ?_⟩) hcx ?_
    · clear hz; go_simp; first | done | with_reducible rfl | rfl
    (try simp only [Act.put, List.setIfInBounds_toArray, List.set_cons_zero, List.set_cons_succ])
    refine wpAnyH_take (i := 2) (oi := ⟨some 19, _, _, _, _, _⟩) (v := .pointer (some ⟨w.heap.size + 1, 0, none⟩)) rfl (by kernel_rfl) (by kernel_rfl) (by kernel_rfl) (fun _ _ _ h => h) (Or.inl ⟨by rfl, fun wz hz => ?_⟩) hcx ?_
    · clear hz; go_simp; first | done | with_reducible rfl | rfl
    (try simp only [Act.put, List.setIfInBounds_toArray, List.set_cons_zero, List.set_cons_succ])
    refine wpAnyH_take (i := 3) (oi := ⟨some 20, _, _, _, _, _⟩) (v := .pointer (some ⟨w.heap.size + 1, 2, none⟩)) rfl (by kernel_rfl) (by kernel_rfl) (by kernel_rfl) (fun _ _ _ h => h) (Or.inl ⟨by rfl, fun wz hz => ?_⟩) hcx ?_
    · clear hz; go_simp; first | done | with_reducible rfl | rfl
    (try simp only [Act.put, List.setIfInBounds_toArray, List.set_cons_zero, List.set_cons_succ])
    refine held_load1 4 (oi := ⟨some 21, _, _, _, _, _⟩) rfl (by kernel_rfl) (by kernel_rfl) (by kernel_rfl) (fun _ _ _ _ h => h) rfl 52 (.tmp 20) rfl (w.heap.size + 1) 2 rfl (.int .i64 ER) _ (fun u' hu => hu) Try.underlying52 rfl hcx ?_
    (try simp only [Act.put, List.setIfInBounds_toArray, List.set_cons_zero, List.set_cons_succ])
    refine wpAnyH_ready (rs := [5]) (by kernel_rfl) (by simp) ?_
    refine AllReadyH.cons rfl (fun K hK => ?_) AllReadyH.nil
    rw [if_pos (by rfl)]
    refine wp_store_blk 32 (.tmp 2) (.tmp 17) rfl w.heap.size Z rfl rfl Z hbx.out rfl HIZ.out HZ1.out ?_
    intro w6 U6 B6
    have hc6 : w6.cell? ⟨w.heap.size + 1, 2, none⟩ = some (.int .i64 ER) := by rw [← hcx]; simp only [World.cell?, U6.block (w.heap.size + 1) (by omega)]
    refine hK.out _ _ hc6 (fun _ => ?_)
    clear hK K
    (try simp only [Act.put, List.setIfInBounds_toArray, List.set_cons_zero, List.set_cons_succ])
    refine wpAnyH_ready (rs := [6]) (by kernel_rfl) (by simp) ?_
    refine AllReadyH.cons rfl (fun K hK => ?_) AllReadyH.nil
    go_simp
    refine hK.out _ _ hc6 (fun _ => ?_)
    clear hK K
    (try simp only [Act.put, List.setIfInBounds_toArray, List.set_cons_zero, List.set_cons_succ])
    refine wpAnyH_ready (rs := [7]) (by kernel_rfl) (by simp) ?_
    refine AllReadyH.cons rfl (fun K hK => ?_) AllReadyH.nil
    go_simp
    refine hK.out _ _ hc6 (fun _ => ?_)
    clear hK K
    (try simp only [Act.put, List.setIfInBounds_toArray, List.set_cons_zero, List.set_cons_succ])
    refine wpAnyH_done (by kernel_rfl) ?_ _
    clear hcx hc6
    go_wp2_with fail
    refine bodyPost_ret (res_cell_tmp2 rfl rfl rfl rfl B6 Try.underlying32 rfl HIZ.out) rfl ?_
    exact HERR.out ▸ fin_err (HE.out) HZ.out hBX.out U6 (Nat.le_refl _)
  case pos =>
    have hne : (sF.e != 0) = false := by simpa using he
    have HE := Lib.hid he; clear he
    go_enter Try.func60, Try.ntmps60
    go_wp2_with (first
      | (go_at_call 87; refine (D1.out _ S0.out.rd).mono ?_; rintro e w1 ⟨rfl, hr, hg⟩; have S1 := Lib.hid (S0.out.read (s' := sF) hr hg); clear hr hg)
      | ((with_reducible refine at_store (.tmp 6) ?_); refine wpList_store_blk rfl 32 (.tmp 6) _ rfl w1.heap.size X rfl rfl Z (Blk.new rfl) HSX.out HIX.out HX1.out ?_; intro w2 U2 B2
         have hb2 : Below w1.heap.size w1 w2 := U2.below ((Below.refl _ w1).alloc (Nat.le_refl _) _) (Nat.le_refl _)
         have S2 := Lib.hid (S1.out.below hb2)
         obtain ⟨p2, c0, c1, c2, c3, _⟩ := S2.out.rd.three
         have XB := Lib.hid B2
         have HBW := Lib.hid hb2
         have hxne : w.heap.size < w1.heap.size := S1.out.rv.lt
         clear hb2 U2 B2))
    have HBL := Lib.hid (grownBy_below S2.out.gro (Nat.le_succ _) (Nat.le_refl _))
    obtain ⟨x, hxx⟩ : ∃ x, w2.drew = x := ⟨_, rfl⟩
    have hrx : Hid (Rfs x (w.heap.size + 1) va vl vc bs sF) := by rw [← hxx]; exact (S2.out.rd).drewN 1
    have hbx : Hid (Blk x w.heap.size Z) := by rw [← hxx]; exact S2.out.rv
    have hvx : Hid (Blk x w1.heap.size X) := by rw [← hxx]; exact XB.out
    have hBX : Hid (Below w.heap.size w x) := by rw [← hxx]; exact Below.drewN (n := 1) HBL.out
    obtain ⟨L, HLX⟩ : ∃ L : List Value, Hid (X = L.toArray) := ⟨X.toList, by show _ = _; simp⟩
    obtain ⟨AT, HAT⟩ : ∃ AT : Nat, Hid (bs.length - sF.r.length = AT) := ⟨_, rfl⟩
    have HVL : Hid (Blk x w1.heap.size L.toArray) := by show Blk _ _ _; rw [← HLX.out]; exact hvx.out
    have HS : Hid (Blk x w1.heap.size L.toArray ∧ x.cell? ⟨w.heap.size + 1, 1, none⟩ = some (.int .i64 AT)) := ⟨HVL.out, by rw [← HAT.out]; exact hrx.out.fp.three.2.1⟩
    have HIL : Hid ((Try.prog.info? 32).map (·.size) = some L.length) := by have := HIX.out; rw [HLX.out] at this; show _ = _; simpa using this
    refine wp_region_held_drew (S := fun u => Blk u w1.heap.size L.toArray ∧ u.cell? ⟨w.heap.size + 1, 1, none⟩ = some (.int .i64 AT)) (by kernel_rfl) (by rw [hxx]; exact HS.out) (fun _ => ?_)
    rw [hxx]
    clear hxx
    (try simp only [Act.put, List.setIfInBounds_toArray, List.set_cons_zero, List.set_cons_succ])
    refine held_load 0 (oi := ⟨some 22, _, _, _, _, _⟩) rfl (by kernel_rfl) (by kernel_rfl) (by kernel_rfl) (fun _ _ _ _ h => h) rfl 32 (.tmp 6) rfl w1.heap.size 0 rfl L _ (fun u' hu => by simpa using hu.1.range) Try.underlying32 rfl HIL.out HS.out ?_
    (try simp only [Act.put, List.setIfInBounds_toArray, List.set_cons_zero, List.set_cons_succ])
    refine wpAnyH_take (i := 1) (oi := ⟨some 23, _, _, _, _, _⟩) (v := .pointer (some ⟨w.heap.size + 1, 0, none⟩)) rfl (by kernel_rfl) (by kernel_rfl) (by kernel_rfl) (fun _ _ _ h => h) (Or.inl ⟨by rfl, fun wz hz => ?_⟩) HS.out ?_
    · clear hz; go_simp; first | done | with_reducible rfl | rfl
    (try simp only [Act.put, List.setIfInBounds_toArray, List.set_cons_zero, List.set_cons_succ])
    refine wpAnyH_take (i := 2) (oi := ⟨some 24, _, _, _, _, _⟩) (v := .pointer (some ⟨w.heap.size + 1, 0, none⟩)) rfl (by kernel_rfl) (by kernel_rfl) (by kernel_rfl) (fun _ _ _ h => h) (Or.inl ⟨by rfl, fun wz hz => ?_⟩) HS.out ?_
    · clear hz; go_simp; first | done | with_reducible rfl | rfl
    (try simp only [Act.put, List.setIfInBounds_toArray, List.set_cons_zero, List.set_cons_succ])
    refine wpAnyH_take (i := 3) (oi := ⟨some 25, _, _, _, _, _⟩) (v := .pointer (some ⟨w.heap.size + 1, 1, none⟩)) rfl (by kernel_rfl) (by kernel_rfl) (by kernel_rfl) (fun _ _ _ h => h) (Or.inl ⟨by rfl, fun wz hz => ?_⟩) HS.out ?_
    · clear hz; go_simp; first | done | with_reducible rfl | rfl
    (try simp only [Act.put, List.setIfInBounds_toArray, List.set_cons_zero, List.set_cons_succ])
    refine held_load1 4 (oi := ⟨some 26, _, _, _, _, _⟩) rfl (by kernel_rfl) (by kernel_rfl) (by kernel_rfl) (fun _ _ _ _ h => h) rfl 3 (.tmp 25) rfl (w.heap.size + 1) 1 rfl (.int .i64 AT) _ (fun u' hu => hu.2) Try.underlying3 rfl HS.out ?_
    (try simp only [Act.put, List.setIfInBounds_toArray, List.set_cons_zero, List.set_cons_succ])
    refine wpAnyH_ready (rs := [5]) (by kernel_rfl) (by simp) ?_
    refine AllReadyH.cons rfl (fun K hK => ?_) AllReadyH.nil
    rw [if_pos (by rfl)]
    refine wp_store_blk 32 (.tmp 2) (.tmp 22) rfl w.heap.size L.toArray rfl rfl Z hbx.out (by have := HSX.out; rw [HLX.out] at this; exact this) (by simpa using HIL.out) (by rw [← HLX.out]; exact HX1.out) ?_
    intro w6 U6 B6
    have hc6 : Hid (Blk w6 w1.heap.size L.toArray ∧ w6.cell? ⟨w.heap.size + 1, 1, none⟩ = some (.int .i64 AT)) := ⟨U6.blk HVL.out (by omega), by rw [← HS.out.2]; simp only [World.cell?, U6.block (w.heap.size + 1) (by omega)]⟩
    refine hK.out _ _ hc6.out (fun _ => ?_)
    clear hK K
    (try simp only [Act.put, List.setIfInBounds_toArray, List.set_cons_zero, List.set_cons_succ])
    refine wpAnyH_ready (rs := [6]) (by kernel_rfl) (by simp) ?_
    refine AllReadyH.cons rfl (fun K hK => ?_) AllReadyH.nil
    go_simp
    refine hK.out _ _ hc6.out (fun _ => ?_)
    clear hK K
    (try simp only [Act.put, List.setIfInBounds_toArray, List.set_cons_zero, List.set_cons_succ])
    refine wpAnyH_ready (rs := [7]) (by kernel_rfl) (by simp) ?_
    refine AllReadyH.cons rfl (fun K hK => ?_) AllReadyH.nil
    go_simp
    refine hK.out _ _ hc6.out (fun _ => ?_)
    clear hK K
    (try simp only [Act.put, List.setIfInBounds_toArray, List.set_cons_zero, List.set_cons_succ])
    refine wpAnyH_done (by kernel_rfl) ?_ _
    rw [← HLX.out] at B6
    go_wp2_with fail
    refine bodyPost_ret (res_cell_tmp2 rfl rfl rfl rfl B6 Try.underlying32 rfl HIX.out) rfl ?_
    exact fin_ok HE.out hBX.out U6 (Nat.le_refl _) (by have h1 := S2.out.rd.rlen; have h2 := HAT.out; omega)
end

/-! RdT -/
section
set_option linter.unusedVariables false
set_option linter.unusedSimpArgs false
open Go.RowKit

/-- What the reference's DecodeTable gives. -/
def TabF (w : World) (cp : CpD) (ls : List Int) (s : RS) (N : Nat) (en : Ending) (w' : World) : Prop :=
  ∃ lv ys, en = .returned (.tuple #[.agg (finX s.e true (flatP [cp.cells, [lv]]) (flatP zTb.parts)), .int .i64 (finU s.e true ((N : Int) - (s.r.length : Nat))), .int .i64 (finE s.e true)]) ∧ (s.e = 0 → (Ints .u64 w' lv ys ∧ New w.heap.size lv) ∧ ys = ls) ∧ ys.length ≤ 1024 ∧ Below w.heap.size w w'

theorem tabF_err {w u w6 : World} {s : RS} {e : Int} {cp : CpD} {ls : List Int} {Z : Array Value} {N rr : Nat} (he : s.e ≠ 0) (hee : s.e = e) (hZ : Z = flatP zTb.parts) (hB : Below w.heap.size w u) (hU : Upd rr u w6) (hr : w.heap.size ≤ rr) : TabF w cp ls s N (.returned (.tuple #[.agg Z, .int .i64 0, .int .i64 e])) w6 := by
  subst hee
  exact ⟨.slice none 0 0, [], (fin_err he hZ hB hU hr).1, fun h => absurd h he, Nat.zero_le _, hU.below hB hr⟩

theorem rtC_ok {s : RS} (h : byteL s.r) : (rtC s).ok := by
  have h1 := vU_rng (m := mxU) h (by unfold mxU; omega)
  exact ⟨h1.1, h1.2, vW_is (nU_byte h)⟩

set_option maxRecDepth 100000 in
set_option maxHeartbeats 16000000 in
theorem rdtab_any (v : Value) (bs : List Int) (w : World) (h : Byt w v bs) :
    Calls Try.prog 63 #[v] w (TabF w (rtC ⟨bs, 0⟩) (tbV (rt2 ⟨bs, 0⟩)) (tbN (rt2 ⟨bs, 0⟩)) bs.length) := by
  obtain ⟨va, vl, vc, rfl⟩ := h.shape
  have hby : byteL bs := h.rng
  have hblt := h.blk_lt
  have hfits := h.fits _ _ _ rfl
  have hln : bs.length = vl := by obtain ⟨_, _, _, e', hl, _⟩ := h.ints; cases e'; exact hl
  unfold maxLen at hfits
  obtain ⟨Z, hZ⟩ : ∃ Z, Z = flatP zTb.parts := ⟨_, rfl⟩
  have hZ0 : Z.size = 34 := by rw [hZ]; rfl
  obtain ⟨hzz, hst⟩ := zero_array (P := Try.prog) (t := 42) (n := 34) Z (by rw [hZ]; kernel_rfl) hZ0 (by rw [hZ]; kernel_rfl)
  have HZZ := Lib.hid hzz
  have HZ1 : Hid (∀ v ∈ Z, v.oneCell' = true) := fun v hv => (Array.all_eq_true_iff_forall_mem.1 (show Z.all (·.oneCell') = true by rw [hZ]; kernel_rfl)) v hv
  have HIZ : Hid ((Try.prog.info? 42).map (·.size) = some Z.size) := by show _ = _; rw [hZ0]; kernel_rfl
  have HZ := Lib.hid hZ; clear hZ
  have hba := ((Below.refl w.heap.size w).alloc (Nat.le_refl _) (.cells Z 42)).alloc (by simp) (.cells #[.slice va vl vc, .int .i64 0, .int .i64 0] 103)
  have S0 : Hid (DQ (w.heap.size + 1) va vl vc bs w.heap.size Z w ((w.alloc (.cells Z 42)).alloc (.cells #[.slice va vl vc, .int .i64 0, .int .i64 0] 103)) ⟨bs, 0⟩) :=
    ⟨Rfs.mk' (p := 0) ⟨Blk.new (by simp), h.below hba, Nat.zero_le _, fun x hx h0 => by have := hblt x hx h0; omega⟩ (by simp), (Blk.new rfl).alloc _, grownBy_of_below hba, by omega, Nat.le_refl _, fun x hx h0 => by have := hblt x hx h0; omega⟩
  have HLN := Lib.hid hln
  clear hba h hln
  have D1 := Lib.hid (fun u (h : Rfs u (w.heap.size + 1) va vl vc bs ⟨bs, 0⟩) => rftab_any (w.heap.size + 1) va vl vc bs ⟨bs, 0⟩ u h)
  have hcp : (rtC ⟨bs, 0⟩).ok := rtC_ok hby
  have HCL := Lib.hid (CpD.len hcp)
  clear hcp
  generalize rtC ⟨bs, 0⟩ = cp at *
  generalize tbV (rt2 ⟨bs, 0⟩) = ls at *
  generalize tbN (rt2 ⟨bs, 0⟩) = sF at *
  by_cases he : sF.e = 0
  case neg =>
    have hne : (sF.e != 0) = true := by simpa using he
    have HE := Lib.hid he; clear he
    obtain ⟨ER, HERR⟩ : ∃ e, Hid (sF.e = e) := ⟨_, rfl⟩
    go_enter Try.func63, Try.ntmps63
    go_wp2_with (first
      | (go_at_call 92; refine (D1.out _ S0.out.rd).mono ?_; rintro e w1 ⟨lv, ys, rfl, hin, hle, ⟨lva, lvl, lvc, rfl⟩, hls, hlo, hr, hg⟩
         obtain ⟨X, HX⟩ : ∃ X, Hid (flatP [cp.cells, [Value.slice lva lvl lvc]] = X) := ⟨_, rfl⟩
         rw [HX.out]
         have hX0 : X.size = 34 := by rw [← HX.out, flatP_size]; simp [HCL.out]
         have HX1 : Hid (∀ v ∈ X, v.oneCell' = true) := by show ∀ v ∈ X, _; rw [← HX.out]; exact tbOne _ _ _ _
         have HIX : Hid ((Try.prog.info? 42).map (·.size) = some X.size) := by show _ = _; rw [hX0]; kernel_rfl
         have HSX : Hid (Z.size = X.size) := by show _ = _; rw [hZ0, hX0]
         have HIN := Lib.hid hin; have HLE := Lib.hid hle; have HLS := Lib.hid hls; have HLO := Lib.hid hlo; clear hin hle hls hlo
         have S1 := Lib.hid (S0.out.read (s' := sF) hr hg); clear hr hg)
      | ((with_reducible refine at_store (.tmp 6) ?_); refine wpList_store_blk rfl 42 (.tmp 6) _ rfl w1.heap.size X rfl rfl Z (Blk.new rfl) HSX.out HIX.out HX1.out ?_; intro w2 U2 B2
         have hb2 : Below w1.heap.size w1 w2 := U2.below ((Below.refl _ w1).alloc (Nat.le_refl _) _) (Nat.le_refl _)
         have S2 := Lib.hid (S1.out.below hb2)
         obtain ⟨p2, c0, c1, c2, c3, _⟩ := S2.out.rd.three
         clear hb2 U2 B2))
    have HBL := Lib.hid (grownBy_below S2.out.gro (Nat.le_succ _) (Nat.le_refl _))
    obtain ⟨x, hxx⟩ : ∃ x, w2.drew = x := ⟨_, rfl⟩
    have hrx : Hid (Rfs x (w.heap.size + 1) va vl vc bs sF) := by rw [← hxx]; exact (S2.out.rd).drewN 1
    have hbx : Hid (Blk x w.heap.size Z) := by rw [← hxx]; exact S2.out.rv
    have hBX : Hid (Below w.heap.size w x) := by rw [← hxx]; exact Below.drewN (n := 1) HBL.out
    have hcx : x.cell? ⟨w.heap.size + 1, 2, none⟩ = some (.int .i64 ER) := by rw [hrx.out.fp.three.2.2.1, HERR.out]
    refine wp_region_held_drew (S := fun u => u.cell? ⟨w.heap.size + 1, 2, none⟩ = some (.int .i64 ER)) (by kernel_rfl) (by rw [hxx]; exact hcx) (fun _ => ?_)
    rw [hxx]
    clear hxx
    (try simp only [Act.put, List.setIfInBounds_toArray, List.set_cons_zero, List.set_cons_succ])
    refine held_build 0 (oi := ⟨some 17, _, _, _, _, _⟩) rfl (by kernel_rfl) (by kernel_rfl) (by kernel_rfl) (fun _ _ _ _ h => h) rfl 42 #[] rfl #[] (by simp) (.agg Z) (build_zero HZZ.out Try.underlying42 (places := #[(0, 33), (33, 1)]) (fun w => by kernel_rfl)) hcx ?_
    (try simp only [Act.put, List.setIfInBounds_toArray, List.set_cons_zero, List.set_cons_succ])
    refine wpAnyH_take (i := 1) (oi := ⟨some 18, _, _, _, _, _⟩) (v := .pointer (some ⟨w.heap.size + 1, 0, none⟩)) rfl (by kernel_rfl) (by kernel_rfl) (by kernel_rfl) (fun _ _ _ h => h) (Or.inl ⟨by rfl, fun wz hz => ?_⟩) hcx ?_
    · clear hz; go_simp; first | done | with_reducible rfl | rfl
    (try simp only [Act.put, List.setIfInBounds_toArray, List.set_cons_zero, List.set_cons_succ])
    refine wpAnyH_take (i := 2) (oi := ⟨some 19, _, _, _, _, _⟩) (v := .pointer (some ⟨w.heap.size + 1, 0, none⟩)) rfl (by kernel_rfl) (by kernel_rfl) (by kernel_rfl) (fun _ _ _ h => h) (Or.inl ⟨by rfl, fun wz hz => ?_⟩) hcx ?_
    · clear hz; go_simp; first | done | with_reducible rfl | rfl
    (try simp only [Act.put, List.setIfInBounds_toArray, List.set_cons_zero, List.set_cons_succ])
    refine wpAnyH_take (i := 3) (oi := ⟨some 20, _, _, _, _, _⟩) (v := .pointer (some ⟨w.heap.size + 1, 2, none⟩)) rfl (by kernel_rfl) (by kernel_rfl) (by kernel_rfl) (fun _ _ _ h => h) (Or.inl ⟨by rfl, fun wz hz => ?_⟩) hcx ?_
    · clear hz; go_simp; first | done | with_reducible rfl | rfl
    (try simp only [Act.put, List.setIfInBounds_toArray, List.set_cons_zero, List.set_cons_succ])
    refine held_load1 4 (oi := ⟨some 21, _, _, _, _, _⟩) rfl (by kernel_rfl) (by kernel_rfl) (by kernel_rfl) (fun _ _ _ _ h => h) rfl 52 (.tmp 20) rfl (w.heap.size + 1) 2 rfl (.int .i64 ER) _ (fun u' hu => hu) Try.underlying52 rfl hcx ?_
    (try simp only [Act.put, List.setIfInBounds_toArray, List.set_cons_zero, List.set_cons_succ])
    refine wpAnyH_ready (rs := [5]) (by kernel_rfl) (by simp) ?_
    refine AllReadyH.cons rfl (fun K hK => ?_) AllReadyH.nil
    rw [if_pos (by rfl)]
    refine wp_store_blk 42 (.tmp 2) (.tmp 17) rfl w.heap.size Z rfl rfl Z hbx.out rfl HIZ.out HZ1.out ?_
    intro w6 U6 B6
    have hc6 : w6.cell? ⟨w.heap.size + 1, 2, none⟩ = some (.int .i64 ER) := by rw [← hcx]; simp only [World.cell?, U6.block (w.heap.size + 1) (by omega)]
    refine hK.out _ _ hc6 (fun _ => ?_)
    clear hK K
    (try simp only [Act.put, List.setIfInBounds_toArray, List.set_cons_zero, List.set_cons_succ])
    refine wpAnyH_ready (rs := [6]) (by kernel_rfl) (by simp) ?_
    refine AllReadyH.cons rfl (fun K hK => ?_) AllReadyH.nil
    go_simp
    refine hK.out _ _ hc6 (fun _ => ?_)
    clear hK K
    (try simp only [Act.put, List.setIfInBounds_toArray, List.set_cons_zero, List.set_cons_succ])
    refine wpAnyH_ready (rs := [7]) (by kernel_rfl) (by simp) ?_
    refine AllReadyH.cons rfl (fun K hK => ?_) AllReadyH.nil
    go_simp
    refine hK.out _ _ hc6 (fun _ => ?_)
    clear hK K
    (try simp only [Act.put, List.setIfInBounds_toArray, List.set_cons_zero, List.set_cons_succ])
    refine wpAnyH_done (by kernel_rfl) ?_ _
    clear hcx hc6
    go_wp2_with fail
    refine bodyPost_ret (res_cell_tmp2 rfl rfl rfl rfl B6 Try.underlying42 rfl HIZ.out) rfl ?_
    exact tabF_err HE.out HERR.out HZ.out hBX.out U6 (Nat.le_refl _)
  case pos =>
    have hne : (sF.e != 0) = false := by simpa using he
    have HE := Lib.hid he; clear he
    go_enter Try.func63, Try.ntmps63
    go_wp2_with (first
      | (go_at_call 92; refine (D1.out _ S0.out.rd).mono ?_; rintro e w1 ⟨lv, ys, rfl, hin, hle, ⟨lva, lvl, lvc, rfl⟩, hls, hlo, hr, hg⟩
         obtain ⟨X, HX⟩ : ∃ X, Hid (flatP [cp.cells, [Value.slice lva lvl lvc]] = X) := ⟨_, rfl⟩
         rw [HX.out]
         have hX0 : X.size = 34 := by rw [← HX.out, flatP_size]; simp [HCL.out]
         have HX1 : Hid (∀ v ∈ X, v.oneCell' = true) := by show ∀ v ∈ X, _; rw [← HX.out]; exact tbOne _ _ _ _
         have HIX : Hid ((Try.prog.info? 42).map (·.size) = some X.size) := by show _ = _; rw [hX0]; kernel_rfl
         have HSX : Hid (Z.size = X.size) := by show _ = _; rw [hZ0, hX0]
         have HIN := Lib.hid hin; have HLE := Lib.hid hle; have HLS := Lib.hid hls; have HLO := Lib.hid hlo; clear hin hle hls hlo
         have S1 := Lib.hid (S0.out.read (s' := sF) hr hg); clear hr hg)
      | ((with_reducible refine at_store (.tmp 6) ?_); refine wpList_store_blk rfl 42 (.tmp 6) _ rfl w1.heap.size X rfl rfl Z (Blk.new rfl) HSX.out HIX.out HX1.out ?_; intro w2 U2 B2
         have hb2 : Below w1.heap.size w1 w2 := U2.below ((Below.refl _ w1).alloc (Nat.le_refl _) _) (Nat.le_refl _)
         have S2 := Lib.hid (S1.out.below hb2)
         obtain ⟨p2, c0, c1, c2, c3, _⟩ := S2.out.rd.three
         have XB := Lib.hid B2
         have HBW := Lib.hid hb2
         have hxne : w.heap.size < w1.heap.size := S1.out.rv.lt
         clear hb2 U2 B2))
    have HBL := Lib.hid (grownBy_below S2.out.gro (Nat.le_succ _) (Nat.le_refl _))
    obtain ⟨x, hxx⟩ : ∃ x, w2.drew = x := ⟨_, rfl⟩
    have hrx : Hid (Rfs x (w.heap.size + 1) va vl vc bs sF) := by rw [← hxx]; exact (S2.out.rd).drewN 1
    have hbx : Hid (Blk x w.heap.size Z) := by rw [← hxx]; exact S2.out.rv
    have hvx : Hid (Blk x w1.heap.size X) := by rw [← hxx]; exact XB.out
    have hBX : Hid (Below w.heap.size w x) := by rw [← hxx]; exact Below.drewN (n := 1) HBL.out
    obtain ⟨L, HLX⟩ : ∃ L : List Value, Hid (X = L.toArray) := ⟨X.toList, by show _ = _; simp⟩
    obtain ⟨AT, HAT⟩ : ∃ AT : Nat, Hid (bs.length - sF.r.length = AT) := ⟨_, rfl⟩
    have HVL : Hid (Blk x w1.heap.size L.toArray) := by show Blk _ _ _; rw [← HLX.out]; exact hvx.out
    have HS : Hid (Blk x w1.heap.size L.toArray ∧ x.cell? ⟨w.heap.size + 1, 1, none⟩ = some (.int .i64 AT)) := ⟨HVL.out, by rw [← HAT.out]; exact hrx.out.fp.three.2.1⟩
    have HIL : Hid ((Try.prog.info? 42).map (·.size) = some L.length) := by have := HIX.out; rw [HLX.out] at this; show _ = _; simpa using this
    have HINX : Hid (Ints .u64 x (.slice lva lvl lvc) ys) := by have h := HIN.out.below HBW.out; rw [← hxx]; exact h
    refine wp_region_held_drew (S := fun u => Blk u w1.heap.size L.toArray ∧ u.cell? ⟨w.heap.size + 1, 1, none⟩ = some (.int .i64 AT)) (by kernel_rfl) (by rw [hxx]; exact HS.out) (fun _ => ?_)
    rw [hxx]
    clear hxx
    (try simp only [Act.put, List.setIfInBounds_toArray, List.set_cons_zero, List.set_cons_succ])
    refine held_load 0 (oi := ⟨some 22, _, _, _, _, _⟩) rfl (by kernel_rfl) (by kernel_rfl) (by kernel_rfl) (fun _ _ _ _ h => h) rfl 42 (.tmp 6) rfl w1.heap.size 0 rfl L _ (fun u' hu => by simpa using hu.1.range) Try.underlying42 rfl HIL.out HS.out ?_
    (try simp only [Act.put, List.setIfInBounds_toArray, List.set_cons_zero, List.set_cons_succ])
    refine wpAnyH_take (i := 1) (oi := ⟨some 23, _, _, _, _, _⟩) (v := .pointer (some ⟨w.heap.size + 1, 0, none⟩)) rfl (by kernel_rfl) (by kernel_rfl) (by kernel_rfl) (fun _ _ _ h => h) (Or.inl ⟨by rfl, fun wz hz => ?_⟩) HS.out ?_
    · clear hz; go_simp; first | done | with_reducible rfl | rfl
    (try simp only [Act.put, List.setIfInBounds_toArray, List.set_cons_zero, List.set_cons_succ])
    refine wpAnyH_take (i := 2) (oi := ⟨some 24, _, _, _, _, _⟩) (v := .pointer (some ⟨w.heap.size + 1, 0, none⟩)) rfl (by kernel_rfl) (by kernel_rfl) (by kernel_rfl) (fun _ _ _ h => h) (Or.inl ⟨by rfl, fun wz hz => ?_⟩) HS.out ?_
    · clear hz; go_simp; first | done | with_reducible rfl | rfl
    (try simp only [Act.put, List.setIfInBounds_toArray, List.set_cons_zero, List.set_cons_succ])
    refine wpAnyH_take (i := 3) (oi := ⟨some 25, _, _, _, _, _⟩) (v := .pointer (some ⟨w.heap.size + 1, 1, none⟩)) rfl (by kernel_rfl) (by kernel_rfl) (by kernel_rfl) (fun _ _ _ h => h) (Or.inl ⟨by rfl, fun wz hz => ?_⟩) HS.out ?_
    · clear hz; go_simp; first | done | with_reducible rfl | rfl
    (try simp only [Act.put, List.setIfInBounds_toArray, List.set_cons_zero, List.set_cons_succ])
    refine held_load1 4 (oi := ⟨some 26, _, _, _, _, _⟩) rfl (by kernel_rfl) (by kernel_rfl) (by kernel_rfl) (fun _ _ _ _ h => h) rfl 3 (.tmp 25) rfl (w.heap.size + 1) 1 rfl (.int .i64 AT) _ (fun u' hu => hu.2) Try.underlying3 rfl HS.out ?_
    (try simp only [Act.put, List.setIfInBounds_toArray, List.set_cons_zero, List.set_cons_succ])
    refine wpAnyH_ready (rs := [5]) (by kernel_rfl) (by simp) ?_
    refine AllReadyH.cons rfl (fun K hK => ?_) AllReadyH.nil
    rw [if_pos (by rfl)]
    refine wp_store_blk 42 (.tmp 2) (.tmp 22) rfl w.heap.size L.toArray rfl rfl Z hbx.out (by have := HSX.out; rw [HLX.out] at this; exact this) (by simpa using HIL.out) (by rw [← HLX.out]; exact HX1.out) ?_
    intro w6 U6 B6
    have hc6 : Hid (Blk w6 w1.heap.size L.toArray ∧ w6.cell? ⟨w.heap.size + 1, 1, none⟩ = some (.int .i64 AT)) := ⟨U6.blk HVL.out (by omega), by rw [← HS.out.2]; simp only [World.cell?, U6.block (w.heap.size + 1) (by omega)]⟩
    refine hK.out _ _ hc6.out (fun _ => ?_)
    clear hK K
    (try simp only [Act.put, List.setIfInBounds_toArray, List.set_cons_zero, List.set_cons_succ])
    refine wpAnyH_ready (rs := [6]) (by kernel_rfl) (by simp) ?_
    refine AllReadyH.cons rfl (fun K hK => ?_) AllReadyH.nil
    go_simp
    refine hK.out _ _ hc6.out (fun _ => ?_)
    clear hK K
    (try simp only [Act.put, List.setIfInBounds_toArray, List.set_cons_zero, List.set_cons_succ])
    refine wpAnyH_ready (rs := [7]) (by kernel_rfl) (by simp) ?_
    refine AllReadyH.cons rfl (fun K hK => ?_) AllReadyH.nil
    go_simp
    refine hK.out _ _ hc6.out (fun _ => ?_)
    clear hK K
    (try simp only [Act.put, List.setIfInBounds_toArray, List.set_cons_zero, List.set_cons_succ])
    refine wpAnyH_done (by kernel_rfl) ?_ _
    rw [← HLX.out] at B6
    go_wp2_with fail
    refine bodyPost_ret (res_cell_tmp2 rfl rfl rfl rfl B6 Try.underlying42 rfl HIX.out) rfl ?_
    exact ⟨.slice lva lvl lvc, ys, by rw [HX.out]; exact (fin_ok HE.out hBX.out U6 (Nat.le_refl _) (by have h1 := S2.out.rd.rlen; have h2 := HAT.out; omega)).1, fun _ => ⟨⟨HINX.out.upd U6 (fun z x y e => by have := HLO.out z x y e; simp at this; omega), fun z x y e _ => by have := HLO.out z x y e; simp at this; omega⟩, HLS.out HE.out⟩, HLE.out, U6.below hBX.out (Nat.le_refl _)⟩
end

end Go.Proofs.Ytmnojgdfbhdkhaa
