/- Several texts as one: RcG, RcH, RcI, RcJ, RcN, RcB, RcC, RcQ, RcK, RcO, RcT, RcU, HeldM, RcW. -/
import Derived.Test.YtmnojgdfbhdkhaaY1
import Derived.Test.YtmnojgdfbhdkhaaCdG
import Derived.Test.YtmnojgdfbhdkhaaCmp
import Derived.Deep.RegionHeld3
import Derived.IntWalk
import Derived.Test.YtmnojgdfbhdkhaaCdH
import Derived.Deep.RegionHeld
import Derived.Test.YtmnojgdfbhdkhaaCdK
namespace Go.Proofs.Ytmnojgdfbhdkhaa

/-! RcG -/
section
set_option linter.unusedVariables false
set_option linter.unusedSimpArgs false
open Go.RowKit

def atS3 (s : RS) : RS := nC (nW (nU mxU s))
def atD (s : RS) (lv : Value) : AtD := ⟨vU mxU s, vW (nU mxU s), vCD (nW (nU mxU s)), lv⟩
def atL (s : RS) : List Int := lsV (atS3 s)
def atS (s : RS) : RS := lsN (atS3 s)

/-- An attestation that is read. -/
def AttR (w : World) (n : Int) (d : Value → AtD) (l : List Int) (en : Ending) (w' : World) : Prop :=
  ∃ lv, en = .returned (.tuple #[.agg (flatP (d lv).parts), .int .i64 n, .int .i64 0]) ∧ Ints .i64 w' lv l ∧ Below w.heap.size w w'

theorem ints_shape {k : IntKind} {w : World} {v : Value} {l : List Int} (h : Ints k w v l) : ∃ a n c, v = .slice a n c := by obtain ⟨a, n, c, e, _⟩ := h; exact ⟨a, n, c, e⟩

theorem elK_i64 {v : Nat → Int} (h : ∀ i, 0 ≤ v i ∧ v i ≤ 1024) {k : Nat} (hk : k < 1024) : -9223372036854775808 ≤ elK v k ∧ elK v k ≤ 9223372036854775807 := by
  have := elK_rng h (by omega) k
  omega
theorem lsV_rng {s : RS} (h : byteL s.r) : ∀ x ∈ lsV s, -9223372036854775808 ≤ x ∧ x ≤ 9223372036854775807 := by
  intro x hx
  unfold lsV at hx
  obtain ⟨i, hi, rfl⟩ := List.mem_map.1 hx
  rw [List.mem_range] at hi
  have := vU_rng (m := 1024) h (by omega)
  exact elK_i64 (fun i => vU_rng (stK_byte (nU_byte h) i) (by omega)) (by omega)
theorem lsN_len (s : RS) : (lsN s).r.length ≤ s.r.length := Nat.le_trans (stK_len _ _ _) (nU_len _ _)
theorem nW_len (s : RS) : (nW s).r.length ≤ s.r.length := by
  unfold nW tkR
  split
  · exact Nat.le_refl _
  · split
    · exact Nat.le_refl _
    · simp
theorem nC_len (s : RS) : (nC s).r.length ≤ s.r.length := by
  unfold nC cpR
  split
  · exact Nat.le_trans (nW_len ⟨cpR1 s.r s.e, cpE1 s.r s.e⟩) (ruR_len _ _ _)
  · exact Nat.le_refl _
end

/-! RcH -/
section
set_option linter.unusedVariables false
set_option linter.unusedSimpArgs false
open Go.RowKit

theorem BkD.lens {x : BkD} (h : x.ok) : x.parts.map List.length = [33, 33, 1, 32, 32, 32, 4, 4, 33, 33, 1] := by
  obtain ⟨h1, h2, _, h3, h4, h5, _, _, h6, h7⟩ := h
  simp [BkD.parts, CpD.len h1, CpD.len h2, bytesL_len h3, bytesL_len h4, bytesL_len h5, wideL, CpD.len h6, CpD.len h7]

theorem byt_encs {x : BkD} (h : x.ok) : (∀ y ∈ x.enc, 0 ≤ y ∧ y ≤ 255) ∧ x.enc.length ≤ 400 := by
  obtain ⟨h1, h2, hs, h3, h4, h5, _, _, h6, h7⟩ := h
  have c : ∀ c : CpD, c.ok → ∀ y ∈ c.enc, 0 ≤ y ∧ y ≤ 255 := fun c hc y hy => by
    simp only [CpD.enc, List.mem_append] at hy
    rcases hy with hy | hy
    · exact uenc_byte _ y hy
    · exact isb_rng hc.2.2 y hy
  constructor
  · intro y hy
    simp only [BkD.enc, List.mem_append] at hy
    rcases hy with hy | hy | hy | hy | hy | hy | hy | hy | hy | hy | hy
    · exact uenc_byte _ y hy
    · exact isb_rng h3 y hy
    · exact isb_rng h4 y hy
    · exact isb_rng h5 y hy
    · exact isb_rng (bytesN_is _) y hy
    · exact isb_rng (bytesN_is _) y hy
    · exact c _ h6 y hy
    · exact c _ h7 y hy
    · exact c _ h1 y hy
    · exact c _ h2 y hy
    · rw [List.mem_singleton.1 hy]; split <;> omega
  · have l0 := uenc_len10 (n := x.slot.toNat) (by omega)
    have l1 := CpD.encl h1
    have l2 := CpD.encl h2
    have l6 := CpD.encl h6
    have l7 := CpD.encl h7
    have l3 := h3.1
    have l4 := h4.1
    have l5 := h5.1
    have i1 := (bytesN_is x.d).1
    have i2 := (bytesN_is x.pd).1
    simp only [BkD.enc, List.length_append, List.length_cons, List.length_nil]
    omega

set_option maxRecDepth 100000 in
set_option maxHeartbeats 8000000 in
theorem eblk_any (x : BkD) (w : World) (h : x.ok) : Calls Try.prog 37 #[.agg (flatP x.parts)] w (App w x.enc) := by
  have hlens := BkD.lens h
  obtain ⟨h1, h2, hs, h3, h4, h5, hd, hpd, h6, h7⟩ := h
  have l0 := uenc_len10 (n := x.slot.toNat) (by omega)
  have l1 := CpD.encl h1
  have l2 := CpD.encl h2
  have l6 := CpD.encl h6
  have l7 := CpD.encl h7
  unfold CpD.enc at l1 l2 l6 l7
  have l3 := h3.1
  have l4 := h4.1
  have l5 := h5.1
  have i1 := (bytesN_is x.d).1
  have i2 := (bytesN_is x.pd).1
  obtain ⟨A1, hA1⟩ : ∃ A, ([] : List Int) ++ uenc x.slot.toNat = A := ⟨_, rfl⟩
  have L1 : A1.length ≤ 50 := by rw [← hA1]; simp only [List.length_append, List.length_nil, List.length_cons] at *; omega
  have D1 : Hid (∀ u, Calls Try.prog 26 #[.slice none 0 0, .int .u64 x.slot] u (App u A1)) := fun u => by rw [← hA1]; exact auint_any _ [] x.slot u (byt_nil u) hs.1 hs.2 (by simp)
  obtain ⟨A2, hA2⟩ : ∃ A, A1 ++ x.root = A := ⟨_, rfl⟩
  have L2 : A2.length ≤ 100 := by rw [← hA2]; simp only [List.length_append, List.length_nil, List.length_cons] at *; omega
  have D2 : Hid (∀ v u, Byt u v A1 → Calls Try.prog 65 #[v, .agg (bytesL x.root).toArray] u (App u A2)) := fun v u h => by rw [← hA2]; exact aroot_any v _ x.root u h h3 (by omega)
  obtain ⟨A3, hA3⟩ : ∃ A, A2 ++ x.parent = A := ⟨_, rfl⟩
  have L3 : A3.length ≤ 150 := by rw [← hA3]; simp only [List.length_append, List.length_nil, List.length_cons] at *; omega
  have D3 : Hid (∀ v u, Byt u v A2 → Calls Try.prog 65 #[v, .agg (bytesL x.parent).toArray] u (App u A3)) := fun v u h => by rw [← hA3]; exact aroot_any v _ x.parent u h h4 (by omega)
  obtain ⟨A4, hA4⟩ : ∃ A, A3 ++ x.payload = A := ⟨_, rfl⟩
  have L4 : A4.length ≤ 200 := by rw [← hA4]; simp only [List.length_append, List.length_nil, List.length_cons] at *; omega
  have D4 : Hid (∀ v u, Byt u v A3 → Calls Try.prog 65 #[v, .agg (bytesL x.payload).toArray] u (App u A4)) := fun v u h => by rw [← hA4]; exact aroot_any v _ x.payload u h h5 (by omega)
  obtain ⟨A5, hA5⟩ : ∃ A, A4 ++ bytesN x.d = A := ⟨_, rfl⟩
  have L5 : A5.length ≤ 250 := by rw [← hA5]; simp only [List.length_append, List.length_nil, List.length_cons] at *; omega
  have D5 : Hid (∀ v u, Byt u v A4 → Calls Try.prog 66 #[v, .agg (wideL x.d).toArray] u (App u A5)) := fun v u h => by rw [← hA5]; exact awide_any v _ x.d u h hd (by omega)
  obtain ⟨A6, hA6⟩ : ∃ A, A5 ++ bytesN x.pd = A := ⟨_, rfl⟩
  have L6 : A6.length ≤ 300 := by rw [← hA6]; simp only [List.length_append, List.length_nil, List.length_cons] at *; omega
  have D6 : Hid (∀ v u, Byt u v A5 → Calls Try.prog 66 #[v, .agg (wideL x.pd).toArray] u (App u A6)) := fun v u h => by rw [← hA6]; exact awide_any v _ x.pd u h hpd (by omega)
  obtain ⟨A7, hA7⟩ : ∃ A, A6 ++ (uenc x.j.n.toNat ++ x.j.r) = A := ⟨_, rfl⟩
  have L7 : A7.length ≤ 350 := by rw [← hA7]; simp only [List.length_append, List.length_nil, List.length_cons] at *; omega
  have D7 : Hid (∀ v u, Byt u v A6 → Calls Try.prog 67 #[v, .agg x.j.cells.toArray] u (App u A7)) := fun v u h => by rw [← hA7]; exact acheck_any v _ x.j.n x.j.r u h h6.1 h6.2.1 h6.2.2 (by omega)
  obtain ⟨A8, hA8⟩ : ∃ A, A7 ++ (uenc x.f.n.toNat ++ x.f.r) = A := ⟨_, rfl⟩
  have L8 : A8.length ≤ 400 := by rw [← hA8]; simp only [List.length_append, List.length_nil, List.length_cons] at *; omega
  have D8 : Hid (∀ v u, Byt u v A7 → Calls Try.prog 67 #[v, .agg x.f.cells.toArray] u (App u A8)) := fun v u h => by rw [← hA8]; exact acheck_any v _ x.f.n x.f.r u h h7.1 h7.2.1 h7.2.2 (by omega)
  obtain ⟨A9, hA9⟩ : ∃ A, A8 ++ (uenc x.pj.n.toNat ++ x.pj.r) = A := ⟨_, rfl⟩
  have L9 : A9.length ≤ 450 := by rw [← hA9]; simp only [List.length_append, List.length_nil, List.length_cons] at *; omega
  have D9 : Hid (∀ v u, Byt u v A8 → Calls Try.prog 67 #[v, .agg x.pj.cells.toArray] u (App u A9)) := fun v u h => by rw [← hA9]; exact acheck_any v _ x.pj.n x.pj.r u h h1.1 h1.2.1 h1.2.2 (by omega)
  obtain ⟨A10, hA10⟩ : ∃ A, A9 ++ (uenc x.pf.n.toNat ++ x.pf.r) = A := ⟨_, rfl⟩
  have L10 : A10.length ≤ 500 := by rw [← hA10]; simp only [List.length_append, List.length_nil, List.length_cons] at *; omega
  have D10 : Hid (∀ v u, Byt u v A9 → Calls Try.prog 67 #[v, .agg x.pf.cells.toArray] u (App u A10)) := fun v u h => by rw [← hA10]; exact acheck_any v _ x.pf.n x.pf.r u h h2.1 h2.2.1 h2.2.2 (by omega)
  obtain ⟨A11, hA11⟩ : ∃ A, A10 ++ [if x.t then 1 else 0] = A := ⟨_, rfl⟩
  have L11 : A11.length ≤ 550 := by rw [← hA11]; simp only [List.length_append, List.length_nil, List.length_cons] at *; omega
  have D11 : Hid (∀ v u, Byt u v A10 → Calls Try.prog 68 #[v, .bool x.t] u (App u A11)) := fun v u h => by rw [← hA11]; exact abool_any v _ x.t u h (by omega)
  have HE : Hid (A11 = x.enc) := by
    show _ = _
    rw [← hA11, ← hA10, ← hA9, ← hA8, ← hA7, ← hA6, ← hA5, ← hA4, ← hA3, ← hA2, ← hA1]
    simp [BkD.enc, CpD.enc]
  clear hA1 L1 hA2 L2 hA3 L3 hA4 L4 hA5 L5 hA6 L6 hA7 L7 hA8 L8 hA9 L9 hA10 L10 hA11 L11 l0 l1 l2 l3 l4 l5 l6 l7 i1 i2
  have q0 : Hid (x.parts[0]? = some (x.pj.cells)) := rfl
  have o0 : Hid (offP x.parts 0 = 0) := by show _ = _; rw [offP_lens hlens]; rfl
  have hi0 : Hid ((Try.prog.info? 26).map (·.size) = some (x.pj.cells).length) := by show _ = _; rw [CpD.len h1]; kernel_rfl
  have q1 : Hid (x.parts[1]? = some (x.pf.cells)) := rfl
  have o1 : Hid (offP x.parts 1 = 33) := by show _ = _; rw [offP_lens hlens]; rfl
  have hi1 : Hid ((Try.prog.info? 26).map (·.size) = some (x.pf.cells).length) := by show _ = _; rw [CpD.len h2]; kernel_rfl
  have q2 : Hid (x.parts[2]? = some ([Value.int .u64 x.slot])) := rfl
  have o2 : Hid (offP x.parts 2 = 66) := by show _ = _; rw [offP_lens hlens]; rfl
  have q3 : Hid (x.parts[3]? = some (bytesL x.root)) := rfl
  have o3 : Hid (offP x.parts 3 = 67) := by show _ = _; rw [offP_lens hlens]; rfl
  have hi3 : Hid ((Try.prog.info? 24).map (·.size) = some (bytesL x.root).length) := by show _ = _; rw [bytesL_len h3]; kernel_rfl
  have q4 : Hid (x.parts[4]? = some (bytesL x.parent)) := rfl
  have o4 : Hid (offP x.parts 4 = 99) := by show _ = _; rw [offP_lens hlens]; rfl
  have hi4 : Hid ((Try.prog.info? 24).map (·.size) = some (bytesL x.parent).length) := by show _ = _; rw [bytesL_len h4]; kernel_rfl
  have q5 : Hid (x.parts[5]? = some (bytesL x.payload)) := rfl
  have o5 : Hid (offP x.parts 5 = 131) := by show _ = _; rw [offP_lens hlens]; rfl
  have hi5 : Hid ((Try.prog.info? 24).map (·.size) = some (bytesL x.payload).length) := by show _ = _; rw [bytesL_len h5]; kernel_rfl
  have q6 : Hid (x.parts[6]? = some (wideL x.d)) := rfl
  have o6 : Hid (offP x.parts 6 = 163) := by show _ = _; rw [offP_lens hlens]; rfl
  have hi6 : Hid ((Try.prog.info? 30).map (·.size) = some (wideL x.d).length) := by show _ = _; kernel_rfl
  have q7 : Hid (x.parts[7]? = some (wideL x.pd)) := rfl
  have o7 : Hid (offP x.parts 7 = 167) := by show _ = _; rw [offP_lens hlens]; rfl
  have hi7 : Hid ((Try.prog.info? 30).map (·.size) = some (wideL x.pd).length) := by show _ = _; kernel_rfl
  have q8 : Hid (x.parts[8]? = some (x.j.cells)) := rfl
  have o8 : Hid (offP x.parts 8 = 171) := by show _ = _; rw [offP_lens hlens]; rfl
  have hi8 : Hid ((Try.prog.info? 26).map (·.size) = some (x.j.cells).length) := by show _ = _; rw [CpD.len h6]; kernel_rfl
  have q9 : Hid (x.parts[9]? = some (x.f.cells)) := rfl
  have o9 : Hid (offP x.parts 9 = 204) := by show _ = _; rw [offP_lens hlens]; rfl
  have hi9 : Hid ((Try.prog.info? 26).map (·.size) = some (x.f.cells).length) := by show _ = _; rw [CpD.len h7]; kernel_rfl
  have q10 : Hid (x.parts[10]? = some ([Value.bool x.t])) := rfl
  have o10 : Hid (offP x.parts 10 = 237) := by show _ = _; rw [offP_lens hlens]; rfl
  have hX0 : (flatP x.parts).size = 238 := by rw [flatP_size, List.length_flatten, hlens]; rfl
  obtain ⟨ps, hps⟩ : ∃ ps, x.parts = ps := ⟨_, rfl⟩
  rw [hps] at hX0 q0 o0 q1 o1 q2 o2 q3 o3 q4 o4 q5 o5 q6 o6 q7 o7 q8 o8 q9 o9 q10 o10 ⊢
  clear hps hlens h1 h2 h3 h4 h5 h6 h7 hd hpd hs
  obtain ⟨X, HX⟩ : ∃ X, Hid (flatP ps = X) := ⟨_, rfl⟩
  rw [HX.out] at hX0 ⊢
  have K0 : Hid (Blk (w.alloc (.cells X 32)) w.heap.size (flatP ps)) := Blk.to (Blk.new rfl) HX.out.symm
  have HB0 := Lib.hid ((Below.refl w.heap.size w).alloc (Nat.le_refl _) (.cells X 32))
  go_enter Try.func37, Try.ntmps37
  go_wp2_with (first
    | (go_at_call 68; refine (D11.out _ _ HY10.out).mono ?_; rintro e w11 ⟨v11, rfl, hy11, hb11⟩; obtain ⟨a11, n11, c11, rfl⟩ := hy11.shape; have HY11 := Lib.hid hy11; have K11 := Lib.hid (K10.out.call hb11); have HB11 := Lib.hid (HB10.out.trans (hb11.mono HB10.out.size)); clear hy11 hb11)
    | ((with_reducible refine at_load (.tmp 46) ?_); refine wpList_load_1 4 (.tmp 46) rfl w.heap.size 237 (.bool x.t) (K10.out.cellAt q10.out o10.out) rfl _ Try.underlying4 rfl rfl ?_)
    | (go_at_call 67; refine (D10.out _ _ HY9.out).mono ?_; rintro e w10 ⟨v10, rfl, hy10, hb10⟩; obtain ⟨a10, n10, c10, rfl⟩ := hy10.shape; have HY10 := Lib.hid hy10; have K10 := Lib.hid (K9.out.call hb10); have HB10 := Lib.hid (HB9.out.trans (hb10.mono HB9.out.size)); clear hy10 hb10)
    | ((with_reducible refine at_load (.tmp 42) ?_); refine wpList_load_part 26 (.tmp 42) rfl w.heap.size ps 1 33 (x.pf.cells) K9.out q1.out o1.out rfl _ Try.underlying26 rfl hi1.out rfl ?_)
    | (go_at_call 67; refine (D9.out _ _ HY8.out).mono ?_; rintro e w9 ⟨v9, rfl, hy9, hb9⟩; obtain ⟨a9, n9, c9, rfl⟩ := hy9.shape; have HY9 := Lib.hid hy9; have K9 := Lib.hid (K8.out.call hb9); have HB9 := Lib.hid (HB8.out.trans (hb9.mono HB8.out.size)); clear hy9 hb9)
    | ((with_reducible refine at_load (.tmp 37) ?_); refine wpList_load_part 26 (.tmp 37) rfl w.heap.size ps 0 0 (x.pj.cells) K8.out q0.out o0.out rfl _ Try.underlying26 rfl hi0.out rfl ?_)
    | (go_at_call 67; refine (D8.out _ _ HY7.out).mono ?_; rintro e w8 ⟨v8, rfl, hy8, hb8⟩; obtain ⟨a8, n8, c8, rfl⟩ := hy8.shape; have HY8 := Lib.hid hy8; have K8 := Lib.hid (K7.out.call hb8); have HB8 := Lib.hid (HB7.out.trans (hb8.mono HB7.out.size)); clear hy8 hb8)
    | ((with_reducible refine at_load (.tmp 32) ?_); refine wpList_load_part 26 (.tmp 32) rfl w.heap.size ps 9 204 (x.f.cells) K7.out q9.out o9.out rfl _ Try.underlying26 rfl hi9.out rfl ?_)
    | (go_at_call 67; refine (D7.out _ _ HY6.out).mono ?_; rintro e w7 ⟨v7, rfl, hy7, hb7⟩; obtain ⟨a7, n7, c7, rfl⟩ := hy7.shape; have HY7 := Lib.hid hy7; have K7 := Lib.hid (K6.out.call hb7); have HB7 := Lib.hid (HB6.out.trans (hb7.mono HB6.out.size)); clear hy7 hb7)
    | ((with_reducible refine at_load (.tmp 28) ?_); refine wpList_load_part 26 (.tmp 28) rfl w.heap.size ps 8 171 (x.j.cells) K6.out q8.out o8.out rfl _ Try.underlying26 rfl hi8.out rfl ?_)
    | (go_at_call 66; refine (D6.out _ _ HY5.out).mono ?_; rintro e w6 ⟨v6, rfl, hy6, hb6⟩; obtain ⟨a6, n6, c6, rfl⟩ := hy6.shape; have HY6 := Lib.hid hy6; have K6 := Lib.hid (K5.out.call hb6); have HB6 := Lib.hid (HB5.out.trans (hb6.mono HB5.out.size)); clear hy6 hb6)
    | ((with_reducible refine at_load (.tmp 24) ?_); refine wpList_load_part 30 (.tmp 24) rfl w.heap.size ps 7 167 (wideL x.pd) K5.out q7.out o7.out rfl _ Try.underlying30 rfl hi7.out rfl ?_)
    | (go_at_call 66; refine (D5.out _ _ HY4.out).mono ?_; rintro e w5 ⟨v5, rfl, hy5, hb5⟩; obtain ⟨a5, n5, c5, rfl⟩ := hy5.shape; have HY5 := Lib.hid hy5; have K5 := Lib.hid (K4.out.call hb5); have HB5 := Lib.hid (HB4.out.trans (hb5.mono HB4.out.size)); clear hy5 hb5)
    | ((with_reducible refine at_load (.tmp 20) ?_); refine wpList_load_part 30 (.tmp 20) rfl w.heap.size ps 6 163 (wideL x.d) K4.out q6.out o6.out rfl _ Try.underlying30 rfl hi6.out rfl ?_)
    | (go_at_call 65; refine (D4.out _ _ HY3.out).mono ?_; rintro e w4 ⟨v4, rfl, hy4, hb4⟩; obtain ⟨a4, n4, c4, rfl⟩ := hy4.shape; have HY4 := Lib.hid hy4; have K4 := Lib.hid (K3.out.call hb4); have HB4 := Lib.hid (HB3.out.trans (hb4.mono HB3.out.size)); clear hy4 hb4)
    | ((with_reducible refine at_load (.tmp 16) ?_); refine wpList_load_part 24 (.tmp 16) rfl w.heap.size ps 5 131 (bytesL x.payload) K3.out q5.out o5.out rfl _ Try.underlying24 rfl hi5.out rfl ?_)
    | (go_at_call 65; refine (D3.out _ _ HY2.out).mono ?_; rintro e w3 ⟨v3, rfl, hy3, hb3⟩; obtain ⟨a3, n3, c3, rfl⟩ := hy3.shape; have HY3 := Lib.hid hy3; have K3 := Lib.hid (K2.out.call hb3); have HB3 := Lib.hid (HB2.out.trans (hb3.mono HB2.out.size)); clear hy3 hb3)
    | ((with_reducible refine at_load (.tmp 12) ?_); refine wpList_load_part 24 (.tmp 12) rfl w.heap.size ps 4 99 (bytesL x.parent) K2.out q4.out o4.out rfl _ Try.underlying24 rfl hi4.out rfl ?_)
    | (go_at_call 65; refine (D2.out _ _ HY1.out).mono ?_; rintro e w2 ⟨v2, rfl, hy2, hb2⟩; obtain ⟨a2, n2, c2, rfl⟩ := hy2.shape; have HY2 := Lib.hid hy2; have K2 := Lib.hid (K1.out.call hb2); have HB2 := Lib.hid (HB1.out.trans (hb2.mono HB1.out.size)); clear hy2 hb2)
    | ((with_reducible refine at_load (.tmp 8) ?_); refine wpList_load_part 24 (.tmp 8) rfl w.heap.size ps 3 67 (bytesL x.root) K1.out q3.out o3.out rfl _ Try.underlying24 rfl hi3.out rfl ?_)
    | (go_at_call 26; refine (D1.out _).mono ?_; rintro e w1 ⟨v1, rfl, hy1, hb1⟩; obtain ⟨a1, n1, c1, rfl⟩ := hy1.shape; have HY1 := Lib.hid hy1; have K1 := Lib.hid (K0.out.call hb1); have HB1 := Lib.hid (HB0.out.trans (hb1.mono HB0.out.size)); clear hy1 hb1)
    | ((with_reducible refine at_load (.tmp 4) ?_); refine wpList_load_1 22 (.tmp 4) rfl w.heap.size 66 (.int .u64 x.slot) (K0.out.cellAt q2.out o2.out) rfl _ Try.underlying22 rfl rfl ?_))
  go_ret
  exact ⟨.slice a11 n11 c11, rfl, by rw [← HE.out]; exact HY11.out, HB11.out⟩
end

/-! RcI -/
section
set_option linter.unusedVariables false
set_option linter.unusedSimpArgs false
open Go.RowKit

theorem BkD.one (x : BkD) : ∀ v ∈ flatP x.parts, v.oneCell' = true := by
  refine flatP_one fun p hp v hv => ?_
  simp only [BkD.parts, List.mem_cons, List.not_mem_nil, or_false] at hp
  rcases hp with rfl | rfl | rfl | rfl | rfl | rfl | rfl | rfl | rfl | rfl | rfl
  · exact CpD.one _ v hv
  · exact CpD.one _ v hv
  · rw [List.mem_singleton.1 hv]; rfl
  · exact bytesL_one _ v hv
  · exact bytesL_one _ v hv
  · exact bytesL_one _ v hv
  · exact wideL_one _ v hv
  · exact wideL_one _ v hv
  · exact CpD.one _ v hv
  · exact CpD.one _ v hv
  · rw [List.mem_singleton.1 hv]; rfl

theorem nB_len (s : RS) : (nB s).r.length ≤ s.r.length := by
  unfold nB bR
  split
  · simp
  · exact Nat.le_refl _

theorem bkV_ok {s : RS} (h : byteL s.r) : (bkV s).ok := by
  have b1 : byteL (bk1 s).r := nU_byte h
  have b2 : byteL (bk2 s).r := nW_byte b1
  have b3 : byteL (bk3 s).r := nW_byte b2
  have b4 : byteL (bk4 s).r := nW_byte b3
  have b5 : byteL (bk5 s).r := nW_byte b4
  have b6 : byteL (bk6 s).r := nW_byte b5
  have b7 : byteL (bk7 s).r := nC_byte b6
  have b8 : byteL (bk8 s).r := nC_byte b7
  have b9 : byteL (bk9 s).r := nC_byte b8
  exact ⟨vCD_ok b8, vCD_ok b9, vU_rng h (by unfold mxU; omega), vW_is b1, vW_is b2, vW_is b3, (numOf_ok (vW_is b4)).1, (numOf_ok (vW_is b5)).1, vCD_ok b6, vCD_ok b7⟩

set_option maxRecDepth 100000 in
set_option maxHeartbeats 16000000 in
theorem dblk_any (v : Value) (bs : List Int) (w : World) (h : Byt w v bs) (hb : bs.length ≤ 20604) :
    Calls Try.prog 79 #[v] w (Fin w (finX (bk11 ⟨bs, 0⟩).e true (flatP (bkV ⟨bs, 0⟩).parts) (flatP zBk.parts)) (finU (bk11 ⟨bs, 0⟩).e true ((bs.length : Int) - ((bk11 ⟨bs, 0⟩).r.length : Nat))) (finE (bk11 ⟨bs, 0⟩).e true)) := by
  obtain ⟨va, vl, vc, rfl⟩ := h.shape
  have hby : byteL bs := h.rng
  obtain ⟨s0, hs0⟩ : ∃ s0 : RS, s0 = ⟨bs, 0⟩ := ⟨_, rfl⟩
  have hby0 : byteL s0.r := by rw [hs0]; exact hby
  have hln0 : s0.r.length = bs.length := by rw [hs0]
  rw [← hs0]
  have hok := bkV_ok hby0
  have hlens := BkD.lens hok
  obtain ⟨s1, hs1⟩ : ∃ s, bk1 s0 = s := ⟨_, rfl⟩
  have e1 : nU mxU s0 = s1 := by rw [← hs1]; rfl
  have hby1 : byteL s1.r := e1 ▸ nU_byte hby0
  have hln1 : s1.r.length ≤ bs.length := by have := nU_len mxU s0; rw [e1] at this; omega
  obtain ⟨s2, hs2⟩ : ∃ s, bk2 s0 = s := ⟨_, rfl⟩
  have e2 : nW s1 = s2 := by rw [← hs2, ← hs1]; rfl
  have hby2 : byteL s2.r := e2 ▸ nW_byte hby1
  have hln2 : s2.r.length ≤ bs.length := by have := nW_len s1; rw [e2] at this; omega
  obtain ⟨s3, hs3⟩ : ∃ s, bk3 s0 = s := ⟨_, rfl⟩
  have e3 : nW s2 = s3 := by rw [← hs3, ← hs2]; rfl
  have hby3 : byteL s3.r := e3 ▸ nW_byte hby2
  have hln3 : s3.r.length ≤ bs.length := by have := nW_len s2; rw [e3] at this; omega
  obtain ⟨s4, hs4⟩ : ∃ s, bk4 s0 = s := ⟨_, rfl⟩
  have e4 : nW s3 = s4 := by rw [← hs4, ← hs3]; rfl
  have hby4 : byteL s4.r := e4 ▸ nW_byte hby3
  have hln4 : s4.r.length ≤ bs.length := by have := nW_len s3; rw [e4] at this; omega
  obtain ⟨s5, hs5⟩ : ∃ s, bk5 s0 = s := ⟨_, rfl⟩
  have e5 : nW s4 = s5 := by rw [← hs5, ← hs4]; rfl
  have hby5 : byteL s5.r := e5 ▸ nW_byte hby4
  have hln5 : s5.r.length ≤ bs.length := by have := nW_len s4; rw [e5] at this; omega
  obtain ⟨s6, hs6⟩ : ∃ s, bk6 s0 = s := ⟨_, rfl⟩
  have e6 : nW s5 = s6 := by rw [← hs6, ← hs5]; rfl
  have hby6 : byteL s6.r := e6 ▸ nW_byte hby5
  have hln6 : s6.r.length ≤ bs.length := by have := nW_len s5; rw [e6] at this; omega
  obtain ⟨s7, hs7⟩ : ∃ s, bk7 s0 = s := ⟨_, rfl⟩
  have e7 : nC s6 = s7 := by rw [← hs7, ← hs6]; rfl
  have hby7 : byteL s7.r := e7 ▸ nC_byte hby6
  have hln7 : s7.r.length ≤ bs.length := by have := nC_len s6; rw [e7] at this; omega
  obtain ⟨s8, hs8⟩ : ∃ s, bk8 s0 = s := ⟨_, rfl⟩
  have e8 : nC s7 = s8 := by rw [← hs8, ← hs7]; rfl
  have hby8 : byteL s8.r := e8 ▸ nC_byte hby7
  have hln8 : s8.r.length ≤ bs.length := by have := nC_len s7; rw [e8] at this; omega
  obtain ⟨s9, hs9⟩ : ∃ s, bk9 s0 = s := ⟨_, rfl⟩
  have e9 : nC s8 = s9 := by rw [← hs9, ← hs8]; rfl
  have hby9 : byteL s9.r := e9 ▸ nC_byte hby8
  have hln9 : s9.r.length ≤ bs.length := by have := nC_len s8; rw [e9] at this; omega
  obtain ⟨s10, hs10⟩ : ∃ s, bk10 s0 = s := ⟨_, rfl⟩
  have e10 : nC s9 = s10 := by rw [← hs10, ← hs9]; rfl
  have hby10 : byteL s10.r := e10 ▸ nC_byte hby9
  have hln10 : s10.r.length ≤ bs.length := by have := nC_len s9; rw [e10] at this; omega
  obtain ⟨s11, hs11⟩ : ∃ s, bk11 s0 = s := ⟨_, rfl⟩
  have e11 : nB s10 = s11 := by rw [← hs11, ← hs10]; rfl
  have hby11 : byteL s11.r := e11 ▸ nB_byte hby10
  have hln11 : s11.r.length ≤ bs.length := by have := nB_len s10; rw [e11] at this; omega
  have HP : Hid ((bkV s0).parts = [(vCD s8).cells, (vCD s9).cells, [Value.int .u64 (vU mxU s0)], bytesL (vW s1), bytesL (vW s2), bytesL (vW s3), wideL (numOf (vW s4)), wideL (numOf (vW s5)), (vCD s6).cells, (vCD s7).cells, [Value.bool (vB s10)]]) := by
    show _ = _
    rw [← hs10, ← hs9, ← hs8, ← hs7, ← hs6, ← hs5, ← hs4, ← hs3, ← hs2, ← hs1]
    rfl
  have D1 : Hid (∀ lo g (sz : Int) u, Rdr lo u g bs 0 → Calls Try.prog 98 #[.agg #[.pointer (some ⟨g, 0, none⟩), .int .i64 sz]] u (Reads lo u g (.int .u64 (vU mxU s0)) s1.r s1.e)) := fun lo g sz u hr => by
    have := num_any g sz bs 0 u hr
    rw [← e1, hs0]; exact this
  have D2 : Hid (∀ lo g u, Rdr lo u g s1.r s1.e → Calls Try.prog 99 #[.pointer (some ⟨g, 0, none⟩)] u (Reads lo u g (.agg (bytesL (vW s1)).toArray) s2.r s2.e)) := fun lo g u hr => by
    have := root_any g s1.r s1.e u hr
    rw [← e2]; exact this
  have z2 := Lib.hid (bytesL_len (vW_is hby1))
  have D3 : Hid (∀ lo g u, Rdr lo u g s2.r s2.e → Calls Try.prog 99 #[.pointer (some ⟨g, 0, none⟩)] u (Reads lo u g (.agg (bytesL (vW s2)).toArray) s3.r s3.e)) := fun lo g u hr => by
    have := root_any g s2.r s2.e u hr
    rw [← e3]; exact this
  have z3 := Lib.hid (bytesL_len (vW_is hby2))
  have D4 : Hid (∀ lo g u, Rdr lo u g s3.r s3.e → Calls Try.prog 99 #[.pointer (some ⟨g, 0, none⟩)] u (Reads lo u g (.agg (bytesL (vW s3)).toArray) s4.r s4.e)) := fun lo g u hr => by
    have := root_any g s3.r s3.e u hr
    rw [← e4]; exact this
  have z4 := Lib.hid (bytesL_len (vW_is hby3))
  have D5 : Hid (∀ lo g u, Rdr lo u g s4.r s4.e → Calls Try.prog 100 #[.pointer (some ⟨g, 0, none⟩)] u (Reads lo u g (.agg (wideL (numOf (vW s4))).toArray) s5.r s5.e)) := fun lo g u hr => by
    have := wide_any g s4.r s4.e (numOf (vW s4)) u hr (numOf_ok (vW_is hby4)).1 (numOf_ok (vW_is hby4)).2
    rw [← e5]; exact this
  have D6 : Hid (∀ lo g u, Rdr lo u g s5.r s5.e → Calls Try.prog 100 #[.pointer (some ⟨g, 0, none⟩)] u (Reads lo u g (.agg (wideL (numOf (vW s5))).toArray) s6.r s6.e)) := fun lo g u hr => by
    have := wide_any g s5.r s5.e (numOf (vW s5)) u hr (numOf_ok (vW_is hby5)).1 (numOf_ok (vW_is hby5)).2
    rw [← e6]; exact this
  have D7 : Hid (∀ lo g u, Rdr lo u g s6.r s6.e → Calls Try.prog 101 #[.pointer (some ⟨g, 0, none⟩)] u (Reads lo u g (.agg (vCD s6).cells.toArray) s7.r s7.e)) := fun lo g u hr => by
    have := check_any g s6.r s6.e u hr
    rw [← e7, ← vCD_eq]; exact this
  have z7 := Lib.hid (CpD.len (vCD_ok hby6))
  have D8 : Hid (∀ lo g u, Rdr lo u g s7.r s7.e → Calls Try.prog 101 #[.pointer (some ⟨g, 0, none⟩)] u (Reads lo u g (.agg (vCD s7).cells.toArray) s8.r s8.e)) := fun lo g u hr => by
    have := check_any g s7.r s7.e u hr
    rw [← e8, ← vCD_eq]; exact this
  have z8 := Lib.hid (CpD.len (vCD_ok hby7))
  have D9 : Hid (∀ lo g u, Rdr lo u g s8.r s8.e → Calls Try.prog 101 #[.pointer (some ⟨g, 0, none⟩)] u (Reads lo u g (.agg (vCD s8).cells.toArray) s9.r s9.e)) := fun lo g u hr => by
    have := check_any g s8.r s8.e u hr
    rw [← e9, ← vCD_eq]; exact this
  have z9 := Lib.hid (CpD.len (vCD_ok hby8))
  have D10 : Hid (∀ lo g u, Rdr lo u g s9.r s9.e → Calls Try.prog 101 #[.pointer (some ⟨g, 0, none⟩)] u (Reads lo u g (.agg (vCD s9).cells.toArray) s10.r s10.e)) := fun lo g u hr => by
    have := check_any g s9.r s9.e u hr
    rw [← e10, ← vCD_eq]; exact this
  have z10 := Lib.hid (CpD.len (vCD_ok hby9))
  have D11 : Hid (∀ lo g u, Rdr lo u g s10.r s10.e → Calls Try.prog 102 #[.pointer (some ⟨g, 0, none⟩)] u (Reads lo u g (.bool (vB s10)) s11.r s11.e)) := fun lo g u hr => by
    have := boolr_any g s10.r s10.e u hr
    rw [← e11]; exact this
  have hX1 := BkD.one (bkV s0)
  have hX0 : (flatP (bkV s0).parts).size = 238 := by rw [flatP_size, List.length_flatten, hlens]; rfl
  obtain ⟨X, HX⟩ : ∃ X, Hid (flatP (bkV s0).parts = X) := ⟨_, rfl⟩
  rw [HX.out] at hX0 hX1 ⊢
  have HXP := HX.out
  rw [HP.out] at HXP
  rw [hs11]
  clear HP hok hlens hs1 e1 hby1 hs2 e2 hby2 hs3 e3 hby3 hs4 e4 hby4 hs5 e5 hby5 hs6 e6 hby6 hs7 e7 hby7 hs8 e8 hby8 hs9 e9 hby9 hs10 e10 hby10 hs11 e11 hby11 hby hby0 hln1 hln2 hln3 hln4 hln5 hln6 hln7 hln8 hln9 hln10
  generalize vU mxU s0 = v1 at *
  generalize vW s1 = v2 at *
  generalize vW s2 = v3 at *
  generalize vW s3 = v4 at *
  generalize numOf (vW s4) = v5 at *
  generalize numOf (vW s5) = v6 at *
  generalize vCD s6 = v7 at *
  generalize vCD s7 = v8 at *
  generalize vCD s8 = v9 at *
  generalize vCD s9 = v10 at *
  generalize vB s10 = v11 at *
  have HXE := Lib.hid HXP; clear HXP HX
  have HX1 := Lib.hid hX1; clear hX1
  have HIX : Hid ((Try.prog.info? 32).map (·.size) = some X.size) := by show _ = _; rw [hX0]; kernel_rfl
  have DF : Hid (∀ lo g u (n0 : Nat), n0 = bs.length → Rdr lo u g s11.r s11.e → Calls Try.prog 103 #[.agg #[.pointer (some ⟨g, 0, none⟩), .int .i64 n0], .agg X, .bool true] u (Fin u (finX s11.e true X (flatP zBk.parts)) (finU s11.e true ((n0 : Int) - (s11.r.length : Nat))) (finE s11.e true))) := fun lo g u n0 hn hr => fin_blk g n0 s11.r s11.e X true u hr hX0 HX1.out (by omega) (by omega)
  have hF0 : (finX s11.e true X (flatP zBk.parts)).size = 238 := by unfold finX; split; exact hX0; rfl
  have hF1 : ∀ v ∈ finX s11.e true X (flatP zBk.parts), v.oneCell' = true := by
    unfold finX; split
    · exact HX1.out
    · exact BkD.one _
  obtain ⟨Y, hY⟩ : ∃ Y, finX s11.e true X (flatP zBk.parts) = Y := ⟨_, rfl⟩
  rw [hY] at DF hF0 hF1 ⊢
  clear hY
  have HF1 := Lib.hid hF1; clear hF1
  obtain ⟨E, hE⟩ : ∃ E, finE s11.e true = E := ⟨_, rfl⟩
  rw [hE] at DF ⊢
  clear hE
  have HIY : Hid ((Try.prog.info? 32).map (·.size) = some Y.size) := by show _ = _; rw [hF0]; kernel_rfl
  have hZ0 : (flatP zBk.parts).size = 238 := rfl
  obtain ⟨Z, hZ⟩ : ∃ Z, Z = flatP zBk.parts := ⟨_, rfl⟩
  rw [← hZ] at hZ0
  obtain ⟨hzz, hst⟩ := zero_array (P := Try.prog) (t := 32) (n := 238) Z (by rw [hZ]; kernel_rfl) hZ0 (by rw [hZ]; kernel_rfl)
  have HZ := Lib.hid hZ; clear hZ
  have hba := (Below.refl w.heap.size w).alloc (Nat.le_refl _) (.cells Z 32)
  have D0 := nrd_any (.slice va vl vc) bs _ (h.below hba) hb
  have hsz : (w.alloc (.cells Z 32)).heap.size = w.heap.size + 1 := by simp
  rw [hsz] at D0
  have HD0 := Lib.hid D0; clear D0 h hba hsz
  obtain ⟨n0, hn0⟩ : ∃ n0, bs.length = n0 := ⟨_, rfl⟩
  have DF2 : Hid (∀ lo g u, Rdr lo u g s11.r s11.e → _) := fun lo g u hr => DF.out lo g u n0 hn0.symm hr
  clear DF
  rw [hn0] at HD0 hb hln0 hln11 ⊢
  obtain ⟨U, hU⟩ : ∃ U, finU s11.e true ((n0 : Int) - (s11.r.length : Nat)) = U := ⟨_, rfl⟩
  rw [hU] at DF2 ⊢
  clear hn0 hln0 hU hln11
  clear hs0
  have HI2 : Hid ((Try.prog.info? 24).map (·.size) = some (bytesL v2).length) := by show _ = _; rw [z2.out]; kernel_rfl
  have HI3 : Hid ((Try.prog.info? 24).map (·.size) = some (bytesL v3).length) := by show _ = _; rw [z3.out]; kernel_rfl
  have HI4 : Hid ((Try.prog.info? 24).map (·.size) = some (bytesL v4).length) := by show _ = _; rw [z4.out]; kernel_rfl
  have HI5 : Hid ((Try.prog.info? 30).map (·.size) = some (wideL v5).length) := by show _ = _; kernel_rfl
  have HI6 : Hid ((Try.prog.info? 30).map (·.size) = some (wideL v6).length) := by show _ = _; kernel_rfl
  have HI7 : Hid ((Try.prog.info? 26).map (·.size) = some v7.cells.length) := by show _ = _; rw [z7.out]; kernel_rfl
  have HI8 : Hid ((Try.prog.info? 26).map (·.size) = some v8.cells.length) := by show _ = _; rw [z8.out]; kernel_rfl
  have HI9 : Hid ((Try.prog.info? 26).map (·.size) = some v9.cells.length) := by show _ = _; rw [z9.out]; kernel_rfl
  have HI10 : Hid ((Try.prog.info? 26).map (·.size) = some v10.cells.length) := by show _ = _; rw [z10.out]; kernel_rfl
  go_enter Try.func79, Try.ntmps79
  go_wp2_with (first
    | ((with_reducible refine at_load (.tmp 2) ?_); (have hxv : Blk x11 w.heap.size X := S11.out.xv.to HXE.out); have HXV := Lib.hid hxv; clear hxv; refine wpList_load_g 32 (.tmp 2) rfl w.heap.size rfl X _ HXV.out Try.underlying32 rfl HIX.out rfl ?_)
    | (go_at_call 103; refine (DF2.out _ _ _ S11.out.rd).mono ?_; rintro e w90 ⟨rfl, hb90⟩; have K90 := Lib.hid (HXV.out.call hb90); have HB90 := Lib.hid ((S11.out.bel (by omega)).trans (hb90.mono (S11.out.bel (by omega)).size)); clear hb90)
    | ((with_reducible refine at_store (.tmp 2) ?_); refine wpList_store_blk rfl 32 (.tmp 2) _ rfl w.heap.size Y rfl rfl X K90.out (by rw [hX0, hF0]) HIY.out HF1.out ?_; intro w91 U91 B91)
    | ((with_reducible refine at_store (.tmp 52) ?_); refine wpList_store_ds1 rfl 4 (.tmp 52) (.tmp 51) rfl R11.out 10 237 (.bool v11) rfl rfl rfl rfl (by kernel_rfl) rfl rfl ?_; intro x11 Ux S'; have S11 := Lib.hid S'; clear S' Ux; have k110 := S11.out.rv.cell 0; have k111 := S11.out.rv.cell 1)
    | (go_at_call 102; refine (D11.out _ _ _ S10.out.rd).mono ?_; rintro e y11 ⟨rfl, hr, hg⟩; have R11 := Lib.hid (S10.out.read (s' := s11) hr hg); clear hr hg)
    | ((with_reducible refine at_store (.tmp 48) ?_); refine wpList_store_ds rfl 26 (.tmp 48) (.tmp 46) rfl R10.out 1 33 (v10.cells) (by rw [z10.out]; rfl) rfl rfl rfl HI10.out (CpD.one _) ?_; intro x10 Ux S'; have S10 := Lib.hid S'; clear S' Ux; have k100 := S10.out.rv.cell 0)
    | (go_at_call 101; refine (D10.out _ _ _ S9.out.rd).mono ?_; rintro e y10 ⟨rfl, hr, hg⟩; have R10 := Lib.hid (S9.out.read (s' := s10) hr hg); clear hr hg)
    | ((with_reducible refine at_store (.tmp 43) ?_); refine wpList_store_ds rfl 26 (.tmp 43) (.tmp 41) rfl R9.out 0 0 (v9.cells) (by rw [z9.out]; rfl) rfl rfl rfl HI9.out (CpD.one _) ?_; intro x9 Ux S'; have S9 := Lib.hid S'; clear S' Ux; have k90 := S9.out.rv.cell 0)
    | (go_at_call 101; refine (D9.out _ _ _ S8.out.rd).mono ?_; rintro e y9 ⟨rfl, hr, hg⟩; have R9 := Lib.hid (S8.out.read (s' := s9) hr hg); clear hr hg)
    | ((with_reducible refine at_store (.tmp 38) ?_); refine wpList_store_ds rfl 26 (.tmp 38) (.tmp 37) rfl R8.out 9 204 (v8.cells) (by rw [z8.out]; rfl) rfl rfl rfl HI8.out (CpD.one _) ?_; intro x8 Ux S'; have S8 := Lib.hid S'; clear S' Ux; have k80 := S8.out.rv.cell 0)
    | (go_at_call 101; refine (D8.out _ _ _ S7.out.rd).mono ?_; rintro e y8 ⟨rfl, hr, hg⟩; have R8 := Lib.hid (S7.out.read (s' := s8) hr hg); clear hr hg)
    | ((with_reducible refine at_store (.tmp 34) ?_); refine wpList_store_ds rfl 26 (.tmp 34) (.tmp 33) rfl R7.out 8 171 (v7.cells) (by rw [z7.out]; rfl) rfl rfl rfl HI7.out (CpD.one _) ?_; intro x7 Ux S'; have S7 := Lib.hid S'; clear S' Ux; have k70 := S7.out.rv.cell 0)
    | (go_at_call 101; refine (D7.out _ _ _ S6.out.rd).mono ?_; rintro e y7 ⟨rfl, hr, hg⟩; have R7 := Lib.hid (S6.out.read (s' := s7) hr hg); clear hr hg)
    | ((with_reducible refine at_store (.tmp 30) ?_); refine wpList_store_ds rfl 30 (.tmp 30) (.tmp 29) rfl R6.out 7 167 (wideL v6) rfl rfl rfl rfl HI6.out (wideL_one _) ?_; intro x6 Ux S'; have S6 := Lib.hid S'; clear S' Ux; have k60 := S6.out.rv.cell 0)
    | (go_at_call 100; refine (D6.out _ _ _ S5.out.rd).mono ?_; rintro e y6 ⟨rfl, hr, hg⟩; have R6 := Lib.hid (S5.out.read (s' := s6) hr hg); clear hr hg)
    | ((with_reducible refine at_store (.tmp 26) ?_); refine wpList_store_ds rfl 30 (.tmp 26) (.tmp 25) rfl R5.out 6 163 (wideL v5) rfl rfl rfl rfl HI5.out (wideL_one _) ?_; intro x5 Ux S'; have S5 := Lib.hid S'; clear S' Ux; have k50 := S5.out.rv.cell 0)
    | (go_at_call 100; refine (D5.out _ _ _ S4.out.rd).mono ?_; rintro e y5 ⟨rfl, hr, hg⟩; have R5 := Lib.hid (S4.out.read (s' := s5) hr hg); clear hr hg)
    | ((with_reducible refine at_store (.tmp 22) ?_); refine wpList_store_ds rfl 24 (.tmp 22) (.tmp 21) rfl R4.out 5 131 (bytesL v4) (by rw [z4.out]; rfl) rfl rfl rfl HI4.out (bytesL_one _) ?_; intro x4 Ux S'; have S4 := Lib.hid S'; clear S' Ux; have k40 := S4.out.rv.cell 0)
    | (go_at_call 99; refine (D4.out _ _ _ S3.out.rd).mono ?_; rintro e y4 ⟨rfl, hr, hg⟩; have R4 := Lib.hid (S3.out.read (s' := s4) hr hg); clear hr hg)
    | ((with_reducible refine at_store (.tmp 18) ?_); refine wpList_store_ds rfl 24 (.tmp 18) (.tmp 17) rfl R3.out 4 99 (bytesL v3) (by rw [z3.out]; rfl) rfl rfl rfl HI3.out (bytesL_one _) ?_; intro x3 Ux S'; have S3 := Lib.hid S'; clear S' Ux; have k30 := S3.out.rv.cell 0)
    | (go_at_call 99; refine (D3.out _ _ _ S2.out.rd).mono ?_; rintro e y3 ⟨rfl, hr, hg⟩; have R3 := Lib.hid (S2.out.read (s' := s3) hr hg); clear hr hg)
    | ((with_reducible refine at_store (.tmp 14) ?_); refine wpList_store_ds rfl 24 (.tmp 14) (.tmp 13) rfl R2.out 3 67 (bytesL v2) (by rw [z2.out]; rfl) rfl rfl rfl HI2.out (bytesL_one _) ?_; intro x2 Ux S'; have S2 := Lib.hid S'; clear S' Ux; have k20 := S2.out.rv.cell 0)
    | (go_at_call 99; refine (D2.out _ _ _ S1.out.rd).mono ?_; rintro e y2 ⟨rfl, hr, hg⟩; have R2 := Lib.hid (S1.out.read (s' := s2) hr hg); clear hr hg)
    | ((with_reducible refine at_store (.tmp 10) ?_); refine wpList_store_ds1 rfl 22 (.tmp 10) (.tmp 9) rfl R1.out 2 66 (.int .u64 v1) rfl rfl rfl rfl (by kernel_rfl) rfl rfl ?_; intro x1 Ux S'; have S1 := Lib.hid S'; clear S' Ux; have k10 := S1.out.rv.cell 0)
    | (go_at_call 98; refine (D1.out _ _ _ _ S0.out.rd).mono ?_; rintro e y1 ⟨rfl, hr, hg⟩; have R1 := Lib.hid (S0.out.read (s' := s1) hr hg); clear hr hg)
    | (go_at_call 97; refine HD0.out.mono ?_; rintro e w1 ⟨g, rfl, hr1, hg1, hb1⟩; have HR1 := Lib.hid hr1; clear hr1; have HB1 := Lib.hid hb1; clear hb1)
    | ((with_reducible refine at_store (.tmp 5) ?_); refine wpList_store_blk rfl 141 (.tmp 5) _ rfl w1.heap.size #[.pointer (some ⟨g, 0, none⟩), .int .i64 n0] rfl rfl #[.pointer none, .int .i64 0] (Blk.new rfl) rfl (by kernel_rfl) (by intro v hv; simp at hv; rcases hv with rfl | rfl <;> rfl) ?_; intro w2 U2 B2
       have S0 := Lib.hid (DS.start (ps := zBk.parts) (ls := [33, 33, 1, 32, 32, 32, 4, 4, 33, 33, 1]) (size := (n0 : Int)) HR1.out hg1 (by rw [← HZ.out]; exact HB1.out) rfl U2 B2)
       clear U2 B2
       have k00 := S0.out.rv.cell 0
       have k01 := S0.out.rv.cell 1))
  refine bodyPost_ret (res_cell_tmp2 rfl rfl rfl rfl B91 Try.underlying32 rfl HIY.out) rfl ⟨rfl, ?_⟩
  exact U91.below HB90.out (Nat.le_refl _)
end

/-! RcJ -/
section
set_option linter.unusedVariables false
set_option linter.unusedSimpArgs false
open Go.RowKit

set_option maxRecDepth 100000 in
set_option maxHeartbeats 16000000 in
theorem rblk_any (x : BkD) (w : World) (h : x.ok) : Calls Try.prog 27 #[.slice none 0 0, .agg (flatP x.parts)] w (App w x.enc) := by
  have hlens := BkD.lens h
  obtain ⟨hby, hbl⟩ := byt_encs h
  obtain ⟨h1, h2, hs, h3, h4, h5, hd, hpd, h6, h7⟩ := h
  have l0 := uenc_len10 (n := x.slot.toNat) (by omega)
  have l1 := CpD.encl h1
  have l2 := CpD.encl h2
  have l6 := CpD.encl h6
  have l7 := CpD.encl h7
  unfold CpD.enc at l1 l2 l6 l7
  have l3 := h3.1
  have l4 := h4.1
  have l5 := h5.1
  have i1 := (bytesN_is x.d).1
  have i2 := (bytesN_is x.pd).1
  obtain ⟨A1, hA1⟩ : ∃ A, ([] : List Int) ++ uenc x.slot.toNat = A := ⟨_, rfl⟩
  have L1 : A1.length ≤ 50 := by rw [← hA1]; simp only [List.length_append, List.length_nil, List.length_cons] at *; omega
  have D1 : Hid (∀ v u B, Own u B v ([] : List Int) → B ≤ u.heap.size → Calls Try.prog 19 #[v, .int .u64 x.slot] u (AppO u B v A1)) := fun v u B h hB => by rw [← hA1]; exact ruint_any v _ x.slot u B h hB hs.1 hs.2 (by simp)
  obtain ⟨A2, hA2⟩ : ∃ A, A1 ++ x.root = A := ⟨_, rfl⟩
  have L2 : A2.length ≤ 100 := by rw [← hA2]; simp only [List.length_append, List.length_nil, List.length_cons] at *; omega
  have D2 : Hid (∀ v u B, Own u B v A1 → B ≤ u.heap.size → Calls Try.prog 47 #[v, .agg (bytesL x.root).toArray] u (AppO u B v A2)) := fun v u B h hB => by rw [← hA2]; exact rroot_any v _ x.root u B h hB h3 (by omega)
  obtain ⟨A3, hA3⟩ : ∃ A, A2 ++ x.parent = A := ⟨_, rfl⟩
  have L3 : A3.length ≤ 150 := by rw [← hA3]; simp only [List.length_append, List.length_nil, List.length_cons] at *; omega
  have D3 : Hid (∀ v u B, Own u B v A2 → B ≤ u.heap.size → Calls Try.prog 47 #[v, .agg (bytesL x.parent).toArray] u (AppO u B v A3)) := fun v u B h hB => by rw [← hA3]; exact rroot_any v _ x.parent u B h hB h4 (by omega)
  obtain ⟨A4, hA4⟩ : ∃ A, A3 ++ x.payload = A := ⟨_, rfl⟩
  have L4 : A4.length ≤ 200 := by rw [← hA4]; simp only [List.length_append, List.length_nil, List.length_cons] at *; omega
  have D4 : Hid (∀ v u B, Own u B v A3 → B ≤ u.heap.size → Calls Try.prog 47 #[v, .agg (bytesL x.payload).toArray] u (AppO u B v A4)) := fun v u B h hB => by rw [← hA4]; exact rroot_any v _ x.payload u B h hB h5 (by omega)
  obtain ⟨A5, hA5⟩ : ∃ A, A4 ++ bytesN x.d = A := ⟨_, rfl⟩
  have L5 : A5.length ≤ 250 := by rw [← hA5]; simp only [List.length_append, List.length_nil, List.length_cons] at *; omega
  have D5 : Hid (∀ v u B, Own u B v A4 → B ≤ u.heap.size → Calls Try.prog 48 #[v, .agg (wideL x.d).toArray] u (AppO u B v A5)) := fun v u B h hB => by rw [← hA5]; exact rwide_any v _ x.d u B h hB hd (by omega)
  obtain ⟨A6, hA6⟩ : ∃ A, A5 ++ bytesN x.pd = A := ⟨_, rfl⟩
  have L6 : A6.length ≤ 300 := by rw [← hA6]; simp only [List.length_append, List.length_nil, List.length_cons] at *; omega
  have D6 : Hid (∀ v u B, Own u B v A5 → B ≤ u.heap.size → Calls Try.prog 48 #[v, .agg (wideL x.pd).toArray] u (AppO u B v A6)) := fun v u B h hB => by rw [← hA6]; exact rwide_any v _ x.pd u B h hB hpd (by omega)
  obtain ⟨A7, hA7⟩ : ∃ A, A6 ++ (uenc x.j.n.toNat ++ x.j.r) = A := ⟨_, rfl⟩
  have L7 : A7.length ≤ 350 := by rw [← hA7]; simp only [List.length_append, List.length_nil, List.length_cons] at *; omega
  have D7 : Hid (∀ v u B, Own u B v A6 → B ≤ u.heap.size → Calls Try.prog 49 #[v, .agg x.j.cells.toArray] u (AppO u B v A7)) := fun v u B h hB => by rw [← hA7]; exact rcheck_any v _ x.j.n x.j.r u B h hB h6.1 h6.2.1 h6.2.2 (by omega)
  obtain ⟨A8, hA8⟩ : ∃ A, A7 ++ (uenc x.f.n.toNat ++ x.f.r) = A := ⟨_, rfl⟩
  have L8 : A8.length ≤ 400 := by rw [← hA8]; simp only [List.length_append, List.length_nil, List.length_cons] at *; omega
  have D8 : Hid (∀ v u B, Own u B v A7 → B ≤ u.heap.size → Calls Try.prog 49 #[v, .agg x.f.cells.toArray] u (AppO u B v A8)) := fun v u B h hB => by rw [← hA8]; exact rcheck_any v _ x.f.n x.f.r u B h hB h7.1 h7.2.1 h7.2.2 (by omega)
  obtain ⟨A9, hA9⟩ : ∃ A, A8 ++ (uenc x.pj.n.toNat ++ x.pj.r) = A := ⟨_, rfl⟩
  have L9 : A9.length ≤ 450 := by rw [← hA9]; simp only [List.length_append, List.length_nil, List.length_cons] at *; omega
  have D9 : Hid (∀ v u B, Own u B v A8 → B ≤ u.heap.size → Calls Try.prog 49 #[v, .agg x.pj.cells.toArray] u (AppO u B v A9)) := fun v u B h hB => by rw [← hA9]; exact rcheck_any v _ x.pj.n x.pj.r u B h hB h1.1 h1.2.1 h1.2.2 (by omega)
  obtain ⟨A10, hA10⟩ : ∃ A, A9 ++ (uenc x.pf.n.toNat ++ x.pf.r) = A := ⟨_, rfl⟩
  have L10 : A10.length ≤ 500 := by rw [← hA10]; simp only [List.length_append, List.length_nil, List.length_cons] at *; omega
  have D10 : Hid (∀ v u B, Own u B v A9 → B ≤ u.heap.size → Calls Try.prog 49 #[v, .agg x.pf.cells.toArray] u (AppO u B v A10)) := fun v u B h hB => by rw [← hA10]; exact rcheck_any v _ x.pf.n x.pf.r u B h hB h2.1 h2.2.1 h2.2.2 (by omega)
  obtain ⟨A11, hA11⟩ : ∃ A, A10 ++ [if x.t then 1 else 0] = A := ⟨_, rfl⟩
  have L11 : A11.length ≤ 550 := by rw [← hA11]; simp only [List.length_append, List.length_nil, List.length_cons] at *; omega
  have D11 : Hid (∀ v u B, Own u B v A10 → B ≤ u.heap.size → Calls Try.prog 50 #[v, .bool x.t] u (AppO u B v A11)) := fun v u B h hB => by rw [← hA11]; exact rbool_any v _ x.t u B h hB (by omega)
  have HE : Hid (A11 = x.enc) := by
    show _ = _
    rw [← hA11, ← hA10, ← hA9, ← hA8, ← hA7, ← hA6, ← hA5, ← hA4, ← hA3, ← hA2, ← hA1]
    simp [BkD.enc, CpD.enc]
  clear hA1 L1 hA2 L2 hA3 L3 hA4 L4 hA5 L5 hA6 L6 hA7 L7 hA8 L8 hA9 L9 hA10 L10 hA11 L11 l0 l1 l2 l3 l4 l5 l6 l7 i1 i2
  have q0 : Hid (x.parts[0]? = some (x.pj.cells)) := rfl
  have o0 : Hid (offP x.parts 0 = 0) := by show _ = _; rw [offP_lens hlens]; rfl
  have hi0 : Hid ((Try.prog.info? 26).map (·.size) = some (x.pj.cells).length) := by show _ = _; rw [CpD.len h1]; kernel_rfl
  have q1 : Hid (x.parts[1]? = some (x.pf.cells)) := rfl
  have o1 : Hid (offP x.parts 1 = 33) := by show _ = _; rw [offP_lens hlens]; rfl
  have hi1 : Hid ((Try.prog.info? 26).map (·.size) = some (x.pf.cells).length) := by show _ = _; rw [CpD.len h2]; kernel_rfl
  have q2 : Hid (x.parts[2]? = some ([Value.int .u64 x.slot])) := rfl
  have o2 : Hid (offP x.parts 2 = 66) := by show _ = _; rw [offP_lens hlens]; rfl
  have q3 : Hid (x.parts[3]? = some (bytesL x.root)) := rfl
  have o3 : Hid (offP x.parts 3 = 67) := by show _ = _; rw [offP_lens hlens]; rfl
  have hi3 : Hid ((Try.prog.info? 24).map (·.size) = some (bytesL x.root).length) := by show _ = _; rw [bytesL_len h3]; kernel_rfl
  have q4 : Hid (x.parts[4]? = some (bytesL x.parent)) := rfl
  have o4 : Hid (offP x.parts 4 = 99) := by show _ = _; rw [offP_lens hlens]; rfl
  have hi4 : Hid ((Try.prog.info? 24).map (·.size) = some (bytesL x.parent).length) := by show _ = _; rw [bytesL_len h4]; kernel_rfl
  have q5 : Hid (x.parts[5]? = some (bytesL x.payload)) := rfl
  have o5 : Hid (offP x.parts 5 = 131) := by show _ = _; rw [offP_lens hlens]; rfl
  have hi5 : Hid ((Try.prog.info? 24).map (·.size) = some (bytesL x.payload).length) := by show _ = _; rw [bytesL_len h5]; kernel_rfl
  have q6 : Hid (x.parts[6]? = some (wideL x.d)) := rfl
  have o6 : Hid (offP x.parts 6 = 163) := by show _ = _; rw [offP_lens hlens]; rfl
  have hi6 : Hid ((Try.prog.info? 30).map (·.size) = some (wideL x.d).length) := by show _ = _; kernel_rfl
  have q7 : Hid (x.parts[7]? = some (wideL x.pd)) := rfl
  have o7 : Hid (offP x.parts 7 = 167) := by show _ = _; rw [offP_lens hlens]; rfl
  have hi7 : Hid ((Try.prog.info? 30).map (·.size) = some (wideL x.pd).length) := by show _ = _; kernel_rfl
  have q8 : Hid (x.parts[8]? = some (x.j.cells)) := rfl
  have o8 : Hid (offP x.parts 8 = 171) := by show _ = _; rw [offP_lens hlens]; rfl
  have hi8 : Hid ((Try.prog.info? 26).map (·.size) = some (x.j.cells).length) := by show _ = _; rw [CpD.len h6]; kernel_rfl
  have q9 : Hid (x.parts[9]? = some (x.f.cells)) := rfl
  have o9 : Hid (offP x.parts 9 = 204) := by show _ = _; rw [offP_lens hlens]; rfl
  have hi9 : Hid ((Try.prog.info? 26).map (·.size) = some (x.f.cells).length) := by show _ = _; rw [CpD.len h7]; kernel_rfl
  have q10 : Hid (x.parts[10]? = some ([Value.bool x.t])) := rfl
  have o10 : Hid (offP x.parts 10 = 237) := by show _ = _; rw [offP_lens hlens]; rfl
  have HBY := Lib.hid hby; clear hby
  have HBLn := Lib.hid hbl; clear hbl
  have hX0 : (flatP x.parts).size = 238 := by rw [flatP_size, List.length_flatten, hlens]; rfl
  obtain ⟨ps, hps⟩ : ∃ ps, x.parts = ps := ⟨_, rfl⟩
  rw [hps] at hX0 q0 o0 q1 o1 q2 o2 q3 o3 q4 o4 q5 o5 q6 o6 q7 o7 q8 o8 q9 o9 q10 o10 ⊢
  clear hps hlens h1 h2 h3 h4 h5 h6 h7 hd hpd hs
  have P0 : Hid (∀ u, Blk u w.heap.size (flatP ps) → u.rangeAt w.heap.size 0 (x.pj.cells)) := fun u hu => by have := hu.part q0.out; rwa [o0.out] at this
  have P1 : Hid (∀ u, Blk u w.heap.size (flatP ps) → u.rangeAt w.heap.size 33 (x.pf.cells)) := fun u hu => by have := hu.part q1.out; rwa [o1.out] at this
  have P2 : Hid (∀ u, Blk u w.heap.size (flatP ps) → u.cell? ⟨w.heap.size, 66, none⟩ = some (.int .u64 x.slot)) := fun u hu => hu.cellAt q2.out o2.out
  have P3 : Hid (∀ u, Blk u w.heap.size (flatP ps) → u.rangeAt w.heap.size 67 (bytesL x.root)) := fun u hu => by have := hu.part q3.out; rwa [o3.out] at this
  have P4 : Hid (∀ u, Blk u w.heap.size (flatP ps) → u.rangeAt w.heap.size 99 (bytesL x.parent)) := fun u hu => by have := hu.part q4.out; rwa [o4.out] at this
  have P5 : Hid (∀ u, Blk u w.heap.size (flatP ps) → u.rangeAt w.heap.size 131 (bytesL x.payload)) := fun u hu => by have := hu.part q5.out; rwa [o5.out] at this
  have P6 : Hid (∀ u, Blk u w.heap.size (flatP ps) → u.rangeAt w.heap.size 163 (wideL x.d)) := fun u hu => by have := hu.part q6.out; rwa [o6.out] at this
  have P7 : Hid (∀ u, Blk u w.heap.size (flatP ps) → u.rangeAt w.heap.size 167 (wideL x.pd)) := fun u hu => by have := hu.part q7.out; rwa [o7.out] at this
  have P8 : Hid (∀ u, Blk u w.heap.size (flatP ps) → u.rangeAt w.heap.size 171 (x.j.cells)) := fun u hu => by have := hu.part q8.out; rwa [o8.out] at this
  have P9 : Hid (∀ u, Blk u w.heap.size (flatP ps) → u.rangeAt w.heap.size 204 (x.f.cells)) := fun u hu => by have := hu.part q9.out; rwa [o9.out] at this
  have P10 : Hid (∀ u, Blk u w.heap.size (flatP ps) → u.cell? ⟨w.heap.size, 237, none⟩ = some (.bool x.t)) := fun u hu => hu.cellAt q10.out o10.out
  obtain ⟨X, HX⟩ : ∃ X, Hid (flatP ps = X) := ⟨_, rfl⟩
  rw [HX.out] at hX0 ⊢
  have K0 : Blk (w.alloc (.cells X 32)) w.heap.size (flatP ps) := Blk.to (Blk.new rfl) HX.out.symm
  have HB0 := (Below.refl w.heap.size w).alloc (Nat.le_refl _) (.cells X 32)
  have hsz0 : w.heap.size + 1 ≤ (w.alloc (.cells X 32)).heap.size := by simp
  have HK0 := Lib.hid K0; clear K0
  have HHB0 := Lib.hid HB0; clear HB0
  go_enter Try.func27, Try.ntmps27
  go_wp2_with fail
  refine wp_region_held_drew (S := fun u' => Blk u' w.heap.size (flatP ps)) (by kernel_rfl) (HK0.out) (fun _ => ?_)
  (try simp only [Act.put, List.setIfInBounds_toArray, List.set_cons_zero, List.set_cons_succ])
  obtain ⟨y0, hy0⟩ : ∃ y, (w.alloc (.cells X 32)).drew = y := ⟨_, rfl⟩
  have Ky0 : Blk y0 w.heap.size (flatP ps) := by rw [← hy0]; exact HK0.out
  have By0 : Below w.heap.size w y0 := by rw [← hy0]; exact Below.drewN (n := 1) HHB0.out
  have Zy0 : w.heap.size + 1 ≤ y0.heap.size := by rw [← hy0]; exact hsz0
  have Oy0 : Own y0 (w.heap.size + 1) (.slice none 0 0) [] := Own.nil _ _
  rw [hy0]
  clear hy0
  refine wpAnyH_take (i := 0) (oi := ⟨some 5, _, _, _, _, _⟩) (v := .slice none 0 0) rfl (by kernel_rfl) (by kernel_rfl) (by kernel_rfl) (fun _ _ _ h => h) (Or.inl ⟨by rfl, fun wz hz => ?_⟩) Ky0 ?_
  · clear hz; go_simp; first | done | with_reducible rfl | rfl
  (try simp only [Act.put, List.setIfInBounds_toArray, List.set_cons_zero, List.set_cons_succ])
  refine wpAnyH_take (i := 1) (oi := ⟨some 6, _, _, _, _, _⟩) (v := .pointer (some ⟨w.heap.size, 66, none⟩)) rfl (by kernel_rfl) (by kernel_rfl) (by kernel_rfl) (fun _ _ _ h => h) (Or.inl ⟨by rfl, fun wz hz => ?_⟩) Ky0 ?_
  · clear hz; go_simp; first | done | with_reducible rfl | rfl
  (try simp only [Act.put, List.setIfInBounds_toArray, List.set_cons_zero, List.set_cons_succ])
  refine held_load1 2 rfl (by kernel_rfl) (by kernel_rfl) (by kernel_rfl) (fun _ _ _ _ h => h) rfl 22 (.tmp 6) rfl w.heap.size 66 rfl (.int .u64 x.slot) _ (fun u' hu => P2.out u' hu) Try.underlying22 rfl Ky0 ?_
  (try simp only [Act.put, List.setIfInBounds_toArray, List.set_cons_zero, List.set_cons_succ])
  refine wpAnyH_take (i := 4) (oi := ⟨some 9, _, _, _, _, _⟩) (v := .pointer (some ⟨w.heap.size, 67, none⟩)) rfl (by kernel_rfl) (by kernel_rfl) (by kernel_rfl) (fun _ _ _ h => h) (Or.inl ⟨by rfl, fun wz hz => ?_⟩) Ky0 ?_
  · clear hz; go_simp; first | done | with_reducible rfl | rfl
  (try simp only [Act.put, List.setIfInBounds_toArray, List.set_cons_zero, List.set_cons_succ])
  refine held_load 5 rfl (by kernel_rfl) (by kernel_rfl) (by kernel_rfl) (fun _ _ _ _ h => h) rfl 24 (.tmp 9) rfl w.heap.size 67 rfl (bytesL x.root) _ (fun u' hu => P3.out u' hu) Try.underlying24 rfl (hi3.out) Ky0 ?_
  (try simp only [Act.put, List.setIfInBounds_toArray, List.set_cons_zero, List.set_cons_succ])
  refine wpAnyH_take (i := 7) (oi := ⟨some 12, _, _, _, _, _⟩) (v := .pointer (some ⟨w.heap.size, 99, none⟩)) rfl (by kernel_rfl) (by kernel_rfl) (by kernel_rfl) (fun _ _ _ h => h) (Or.inl ⟨by rfl, fun wz hz => ?_⟩) Ky0 ?_
  · clear hz; go_simp; first | done | with_reducible rfl | rfl
  (try simp only [Act.put, List.setIfInBounds_toArray, List.set_cons_zero, List.set_cons_succ])
  refine held_load 8 rfl (by kernel_rfl) (by kernel_rfl) (by kernel_rfl) (fun _ _ _ _ h => h) rfl 24 (.tmp 12) rfl w.heap.size 99 rfl (bytesL x.parent) _ (fun u' hu => P4.out u' hu) Try.underlying24 rfl (hi4.out) Ky0 ?_
  (try simp only [Act.put, List.setIfInBounds_toArray, List.set_cons_zero, List.set_cons_succ])
  refine wpAnyH_take (i := 10) (oi := ⟨some 15, _, _, _, _, _⟩) (v := .pointer (some ⟨w.heap.size, 131, none⟩)) rfl (by kernel_rfl) (by kernel_rfl) (by kernel_rfl) (fun _ _ _ h => h) (Or.inl ⟨by rfl, fun wz hz => ?_⟩) Ky0 ?_
  · clear hz; go_simp; first | done | with_reducible rfl | rfl
  (try simp only [Act.put, List.setIfInBounds_toArray, List.set_cons_zero, List.set_cons_succ])
  refine held_load 11 rfl (by kernel_rfl) (by kernel_rfl) (by kernel_rfl) (fun _ _ _ _ h => h) rfl 24 (.tmp 15) rfl w.heap.size 131 rfl (bytesL x.payload) _ (fun u' hu => P5.out u' hu) Try.underlying24 rfl (hi5.out) Ky0 ?_
  (try simp only [Act.put, List.setIfInBounds_toArray, List.set_cons_zero, List.set_cons_succ])
  refine wpAnyH_ready (rs := [3]) (by kernel_rfl) (by simp) ?_
  refine AllReadyH.cons rfl (fun K hK => ?_) AllReadyH.nil
  go_simp
  refine (D1.out _ _ _ Oy0 Zy0).mono ?_
  rintro e u1 ⟨v1, rfl, O1, t1, _⟩
  have K1 := Ky0.below t1 (by omega)
  have B1 := By0.trans (t1.mono (by omega))
  have Z1 := Nat.le_trans Zy0 t1.size
  refine hK.out _ _ (K1) (fun _ => ?_)
  clear hK K
  (try simp only [Act.put, List.setIfInBounds_toArray, List.set_cons_zero, List.set_cons_succ])
  refine wpAnyH_ready (rs := [6]) (by kernel_rfl) (by simp) ?_
  refine AllReadyH.cons rfl (fun K hK => ?_) AllReadyH.nil
  go_simp
  refine (D2.out _ _ _ O1 Z1).mono ?_
  rintro e u2 ⟨v2, rfl, O2, t2, _⟩
  have K2 := K1.below t2 (by omega)
  have B2 := B1.trans (t2.mono (by omega))
  have Z2 := Nat.le_trans Z1 t2.size
  refine hK.out _ _ (K2) (fun _ => ?_)
  clear hK K
  (try simp only [Act.put, List.setIfInBounds_toArray, List.set_cons_zero, List.set_cons_succ])
  refine wpAnyH_ready (rs := [9]) (by kernel_rfl) (by simp) ?_
  refine AllReadyH.cons rfl (fun K hK => ?_) AllReadyH.nil
  go_simp
  refine (D3.out _ _ _ O2 Z2).mono ?_
  rintro e u3 ⟨v3, rfl, O3, t3, _⟩
  have K3 := K2.below t3 (by omega)
  have B3 := B2.trans (t3.mono (by omega))
  have Z3 := Nat.le_trans Z2 t3.size
  refine hK.out _ _ (K3) (fun _ => ?_)
  clear hK K
  (try simp only [Act.put, List.setIfInBounds_toArray, List.set_cons_zero, List.set_cons_succ])
  refine wpAnyH_ready (rs := [12]) (by kernel_rfl) (by simp) ?_
  refine AllReadyH.cons rfl (fun K hK => ?_) AllReadyH.nil
  go_simp
  refine (D4.out _ _ _ O3 Z3).mono ?_
  rintro e u4 ⟨v4, rfl, O4, t4, _⟩
  have K4 := K3.below t4 (by omega)
  have B4 := B3.trans (t4.mono (by omega))
  have Z4 := Nat.le_trans Z3 t4.size
  refine hK.out _ _ (K4) (fun _ => ?_)
  clear hK K
  (try simp only [Act.put, List.setIfInBounds_toArray, List.set_cons_zero, List.set_cons_succ])
  refine wpAnyH_ready (rs := [13]) (by kernel_rfl) (by simp) ?_
  refine AllReadyH.cons rfl (fun K hK => ?_) AllReadyH.nil
  go_simp
  refine hK.out _ _ (K4) (fun _ => ?_)
  clear hK K
  (try simp only [Act.put, List.setIfInBounds_toArray, List.set_cons_zero, List.set_cons_succ])
  refine wpAnyH_done (by kernel_rfl) ?_ _
  clear Ky0 By0 Oy0
  have HK4 := Lib.hid K4; have HHB4 := Lib.hid B4; have HO4 := Lib.hid O4
  clear K1 B1 O1 t1 K2 B2 O2 t2 K3 B3 O3 t3 K4 B4 O4 t4
  go_wp2_with fail
  refine wp_region_held_drew (S := fun u' => Blk u' w.heap.size (flatP ps)) (by kernel_rfl) (HK4.out) (fun _ => ?_)
  (try simp only [Act.put, List.setIfInBounds_toArray, List.set_cons_zero, List.set_cons_succ])
  obtain ⟨y1, hy1⟩ : ∃ y, (u4).drew = y := ⟨_, rfl⟩
  have Ky1 : Blk y1 w.heap.size (flatP ps) := by rw [← hy1]; exact HK4.out
  have By1 : Below w.heap.size w y1 := by rw [← hy1]; exact Below.drewN (n := 1) HHB4.out
  have Zy1 : w.heap.size + 1 ≤ y1.heap.size := by rw [← hy1]; exact Z4
  have Oy1 : Own y1 (w.heap.size + 1) (v4) A4 := by rw [← hy1]; exact HO4.out
  rw [hy1]
  clear hy1
  refine wpAnyH_take (i := 0) (oi := ⟨some 18, _, _, _, _, _⟩) (v := v4) rfl (by kernel_rfl) (by kernel_rfl) (by kernel_rfl) (fun _ _ _ h => h) (Or.inl ⟨by rfl, fun wz hz => ?_⟩) Ky1 ?_
  · clear hz; go_simp; first | done | with_reducible rfl | rfl
  (try simp only [Act.put, List.setIfInBounds_toArray, List.set_cons_zero, List.set_cons_succ])
  refine wpAnyH_take (i := 1) (oi := ⟨some 19, _, _, _, _, _⟩) (v := .pointer (some ⟨w.heap.size, 163, none⟩)) rfl (by kernel_rfl) (by kernel_rfl) (by kernel_rfl) (fun _ _ _ h => h) (Or.inl ⟨by rfl, fun wz hz => ?_⟩) Ky1 ?_
  · clear hz; go_simp; first | done | with_reducible rfl | rfl
  (try simp only [Act.put, List.setIfInBounds_toArray, List.set_cons_zero, List.set_cons_succ])
  refine held_load 2 rfl (by kernel_rfl) (by kernel_rfl) (by kernel_rfl) (fun _ _ _ _ h => h) rfl 30 (.tmp 19) rfl w.heap.size 163 rfl (wideL x.d) _ (fun u' hu => P6.out u' hu) Try.underlying30 rfl (hi6.out) Ky1 ?_
  (try simp only [Act.put, List.setIfInBounds_toArray, List.set_cons_zero, List.set_cons_succ])
  refine wpAnyH_take (i := 4) (oi := ⟨some 22, _, _, _, _, _⟩) (v := .pointer (some ⟨w.heap.size, 167, none⟩)) rfl (by kernel_rfl) (by kernel_rfl) (by kernel_rfl) (fun _ _ _ h => h) (Or.inl ⟨by rfl, fun wz hz => ?_⟩) Ky1 ?_
  · clear hz; go_simp; first | done | with_reducible rfl | rfl
  (try simp only [Act.put, List.setIfInBounds_toArray, List.set_cons_zero, List.set_cons_succ])
  refine held_load 5 rfl (by kernel_rfl) (by kernel_rfl) (by kernel_rfl) (fun _ _ _ _ h => h) rfl 30 (.tmp 22) rfl w.heap.size 167 rfl (wideL x.pd) _ (fun u' hu => P7.out u' hu) Try.underlying30 rfl (hi7.out) Ky1 ?_
  (try simp only [Act.put, List.setIfInBounds_toArray, List.set_cons_zero, List.set_cons_succ])
  refine wpAnyH_ready (rs := [3]) (by kernel_rfl) (by simp) ?_
  refine AllReadyH.cons rfl (fun K hK => ?_) AllReadyH.nil
  go_simp
  refine (D5.out _ _ _ Oy1 Zy1).mono ?_
  rintro e u5 ⟨v5, rfl, O5, t5, _⟩
  have K5 := Ky1.below t5 (by omega)
  have B5 := By1.trans (t5.mono (by omega))
  have Z5 := Nat.le_trans Zy1 t5.size
  refine hK.out _ _ (K5) (fun _ => ?_)
  clear hK K
  (try simp only [Act.put, List.setIfInBounds_toArray, List.set_cons_zero, List.set_cons_succ])
  refine wpAnyH_ready (rs := [6]) (by kernel_rfl) (by simp) ?_
  refine AllReadyH.cons rfl (fun K hK => ?_) AllReadyH.nil
  go_simp
  refine (D6.out _ _ _ O5 Z5).mono ?_
  rintro e u6 ⟨v6, rfl, O6, t6, _⟩
  have K6 := K5.below t6 (by omega)
  have B6 := B5.trans (t6.mono (by omega))
  have Z6 := Nat.le_trans Z5 t6.size
  refine hK.out _ _ (K6) (fun _ => ?_)
  clear hK K
  (try simp only [Act.put, List.setIfInBounds_toArray, List.set_cons_zero, List.set_cons_succ])
  refine wpAnyH_ready (rs := [7]) (by kernel_rfl) (by simp) ?_
  refine AllReadyH.cons rfl (fun K hK => ?_) AllReadyH.nil
  go_simp
  refine hK.out _ _ (K6) (fun _ => ?_)
  clear hK K
  (try simp only [Act.put, List.setIfInBounds_toArray, List.set_cons_zero, List.set_cons_succ])
  refine wpAnyH_done (by kernel_rfl) ?_ _
  clear Ky1 By1 Oy1
  have HK6 := Lib.hid K6; have HHB6 := Lib.hid B6; have HO6 := Lib.hid O6
  clear K5 B5 O5 t5 K6 B6 O6 t6
  go_wp2_with fail
  refine wp_region_held_drew (S := fun u' => Blk u' w.heap.size (flatP ps)) (by kernel_rfl) (HK6.out) (fun _ => ?_)
  (try simp only [Act.put, List.setIfInBounds_toArray, List.set_cons_zero, List.set_cons_succ])
  obtain ⟨y2, hy2⟩ : ∃ y, (u6).drew = y := ⟨_, rfl⟩
  have Ky2 : Blk y2 w.heap.size (flatP ps) := by rw [← hy2]; exact HK6.out
  have By2 : Below w.heap.size w y2 := by rw [← hy2]; exact Below.drewN (n := 1) HHB6.out
  have Zy2 : w.heap.size + 1 ≤ y2.heap.size := by rw [← hy2]; exact Z6
  have Oy2 : Own y2 (w.heap.size + 1) (v6) A6 := by rw [← hy2]; exact HO6.out
  rw [hy2]
  clear hy2
  refine wpAnyH_take (i := 0) (oi := ⟨some 25, _, _, _, _, _⟩) (v := v6) rfl (by kernel_rfl) (by kernel_rfl) (by kernel_rfl) (fun _ _ _ h => h) (Or.inl ⟨by rfl, fun wz hz => ?_⟩) Ky2 ?_
  · clear hz; go_simp; first | done | with_reducible rfl | rfl
  (try simp only [Act.put, List.setIfInBounds_toArray, List.set_cons_zero, List.set_cons_succ])
  refine wpAnyH_take (i := 1) (oi := ⟨some 26, _, _, _, _, _⟩) (v := .pointer (some ⟨w.heap.size, 171, none⟩)) rfl (by kernel_rfl) (by kernel_rfl) (by kernel_rfl) (fun _ _ _ h => h) (Or.inl ⟨by rfl, fun wz hz => ?_⟩) Ky2 ?_
  · clear hz; go_simp; first | done | with_reducible rfl | rfl
  (try simp only [Act.put, List.setIfInBounds_toArray, List.set_cons_zero, List.set_cons_succ])
  refine held_load 2 rfl (by kernel_rfl) (by kernel_rfl) (by kernel_rfl) (fun _ _ _ _ h => h) rfl 26 (.tmp 26) rfl w.heap.size 171 rfl (x.j.cells) _ (fun u' hu => P8.out u' hu) Try.underlying26 rfl (hi8.out) Ky2 ?_
  (try simp only [Act.put, List.setIfInBounds_toArray, List.set_cons_zero, List.set_cons_succ])
  refine wpAnyH_take (i := 4) (oi := ⟨some 29, _, _, _, _, _⟩) (v := .pointer (some ⟨w.heap.size, 204, none⟩)) rfl (by kernel_rfl) (by kernel_rfl) (by kernel_rfl) (fun _ _ _ h => h) (Or.inl ⟨by rfl, fun wz hz => ?_⟩) Ky2 ?_
  · clear hz; go_simp; first | done | with_reducible rfl | rfl
  (try simp only [Act.put, List.setIfInBounds_toArray, List.set_cons_zero, List.set_cons_succ])
  refine held_load 5 rfl (by kernel_rfl) (by kernel_rfl) (by kernel_rfl) (fun _ _ _ _ h => h) rfl 26 (.tmp 29) rfl w.heap.size 204 rfl (x.f.cells) _ (fun u' hu => P9.out u' hu) Try.underlying26 rfl (hi9.out) Ky2 ?_
  (try simp only [Act.put, List.setIfInBounds_toArray, List.set_cons_zero, List.set_cons_succ])
  refine wpAnyH_ready (rs := [3]) (by kernel_rfl) (by simp) ?_
  refine AllReadyH.cons rfl (fun K hK => ?_) AllReadyH.nil
  go_simp
  refine (D7.out _ _ _ Oy2 Zy2).mono ?_
  rintro e u7 ⟨v7, rfl, O7, t7, _⟩
  have K7 := Ky2.below t7 (by omega)
  have B7 := By2.trans (t7.mono (by omega))
  have Z7 := Nat.le_trans Zy2 t7.size
  refine hK.out _ _ (K7) (fun _ => ?_)
  clear hK K
  (try simp only [Act.put, List.setIfInBounds_toArray, List.set_cons_zero, List.set_cons_succ])
  refine wpAnyH_ready (rs := [6]) (by kernel_rfl) (by simp) ?_
  refine AllReadyH.cons rfl (fun K hK => ?_) AllReadyH.nil
  go_simp
  refine (D8.out _ _ _ O7 Z7).mono ?_
  rintro e u8 ⟨v8, rfl, O8, t8, _⟩
  have K8 := K7.below t8 (by omega)
  have B8 := B7.trans (t8.mono (by omega))
  have Z8 := Nat.le_trans Z7 t8.size
  refine hK.out _ _ (K8) (fun _ => ?_)
  clear hK K
  (try simp only [Act.put, List.setIfInBounds_toArray, List.set_cons_zero, List.set_cons_succ])
  refine wpAnyH_ready (rs := [7]) (by kernel_rfl) (by simp) ?_
  refine AllReadyH.cons rfl (fun K hK => ?_) AllReadyH.nil
  go_simp
  refine hK.out _ _ (K8) (fun _ => ?_)
  clear hK K
  (try simp only [Act.put, List.setIfInBounds_toArray, List.set_cons_zero, List.set_cons_succ])
  refine wpAnyH_done (by kernel_rfl) ?_ _
  clear Ky2 By2 Oy2
  have HK8 := Lib.hid K8; have HHB8 := Lib.hid B8; have HO8 := Lib.hid O8
  clear K7 B7 O7 t7 K8 B8 O8 t8
  go_wp2_with fail
  refine wp_region_held_drew (S := fun u' => Blk u' w.heap.size (flatP ps)) (by kernel_rfl) (HK8.out) (fun _ => ?_)
  (try simp only [Act.put, List.setIfInBounds_toArray, List.set_cons_zero, List.set_cons_succ])
  obtain ⟨y3, hy3⟩ : ∃ y, (u8).drew = y := ⟨_, rfl⟩
  have Ky3 : Blk y3 w.heap.size (flatP ps) := by rw [← hy3]; exact HK8.out
  have By3 : Below w.heap.size w y3 := by rw [← hy3]; exact Below.drewN (n := 1) HHB8.out
  have Zy3 : w.heap.size + 1 ≤ y3.heap.size := by rw [← hy3]; exact Z8
  have Oy3 : Own y3 (w.heap.size + 1) (v8) A8 := by rw [← hy3]; exact HO8.out
  rw [hy3]
  clear hy3
  refine wpAnyH_take (i := 0) (oi := ⟨some 32, _, _, _, _, _⟩) (v := v8) rfl (by kernel_rfl) (by kernel_rfl) (by kernel_rfl) (fun _ _ _ h => h) (Or.inl ⟨by rfl, fun wz hz => ?_⟩) Ky3 ?_
  · clear hz; go_simp; first | done | with_reducible rfl | rfl
  (try simp only [Act.put, List.setIfInBounds_toArray, List.set_cons_zero, List.set_cons_succ])
  refine wpAnyH_take (i := 1) (oi := ⟨some 33, _, _, _, _, _⟩) (v := .pointer (some ⟨w.heap.size, 0, none⟩)) rfl (by kernel_rfl) (by kernel_rfl) (by kernel_rfl) (fun _ _ _ h => h) (Or.inl ⟨by rfl, fun wz hz => ?_⟩) Ky3 ?_
  · clear hz; go_simp; first | done | with_reducible rfl | rfl
  (try simp only [Act.put, List.setIfInBounds_toArray, List.set_cons_zero, List.set_cons_succ])
  refine wpAnyH_take (i := 2) (oi := ⟨some 34, _, _, _, _, _⟩) (v := .pointer (some ⟨w.heap.size, 0, none⟩)) rfl (by kernel_rfl) (by kernel_rfl) (by kernel_rfl) (fun _ _ _ h => h) (Or.inl ⟨by rfl, fun wz hz => ?_⟩) Ky3 ?_
  · clear hz; go_simp; first | done | with_reducible rfl | rfl
  (try simp only [Act.put, List.setIfInBounds_toArray, List.set_cons_zero, List.set_cons_succ])
  refine held_load 3 rfl (by kernel_rfl) (by kernel_rfl) (by kernel_rfl) (fun _ _ _ _ h => h) rfl 26 (.tmp 34) rfl w.heap.size 0 rfl (x.pj.cells) _ (fun u' hu => P0.out u' hu) Try.underlying26 rfl (hi0.out) Ky3 ?_
  (try simp only [Act.put, List.setIfInBounds_toArray, List.set_cons_zero, List.set_cons_succ])
  refine wpAnyH_take (i := 5) (oi := ⟨some 37, _, _, _, _, _⟩) (v := .pointer (some ⟨w.heap.size, 0, none⟩)) rfl (by kernel_rfl) (by kernel_rfl) (by kernel_rfl) (fun _ _ _ h => h) (Or.inl ⟨by rfl, fun wz hz => ?_⟩) Ky3 ?_
  · clear hz; go_simp; first | done | with_reducible rfl | rfl
  (try simp only [Act.put, List.setIfInBounds_toArray, List.set_cons_zero, List.set_cons_succ])
  refine wpAnyH_take (i := 6) (oi := ⟨some 38, _, _, _, _, _⟩) (v := .pointer (some ⟨w.heap.size, 33, none⟩)) rfl (by kernel_rfl) (by kernel_rfl) (by kernel_rfl) (fun _ _ _ h => h) (Or.inl ⟨by rfl, fun wz hz => ?_⟩) Ky3 ?_
  · clear hz; go_simp; first | done | with_reducible rfl | rfl
  (try simp only [Act.put, List.setIfInBounds_toArray, List.set_cons_zero, List.set_cons_succ])
  refine held_load 7 rfl (by kernel_rfl) (by kernel_rfl) (by kernel_rfl) (fun _ _ _ _ h => h) rfl 26 (.tmp 38) rfl w.heap.size 33 rfl (x.pf.cells) _ (fun u' hu => P1.out u' hu) Try.underlying26 rfl (hi1.out) Ky3 ?_
  (try simp only [Act.put, List.setIfInBounds_toArray, List.set_cons_zero, List.set_cons_succ])
  refine wpAnyH_take (i := 9) (oi := ⟨some 41, _, _, _, _, _⟩) (v := .pointer (some ⟨w.heap.size, 237, none⟩)) rfl (by kernel_rfl) (by kernel_rfl) (by kernel_rfl) (fun _ _ _ h => h) (Or.inl ⟨by rfl, fun wz hz => ?_⟩) Ky3 ?_
  · clear hz; go_simp; first | done | with_reducible rfl | rfl
  (try simp only [Act.put, List.setIfInBounds_toArray, List.set_cons_zero, List.set_cons_succ])
  refine held_load1 10 rfl (by kernel_rfl) (by kernel_rfl) (by kernel_rfl) (fun _ _ _ _ h => h) rfl 4 (.tmp 41) rfl w.heap.size 237 rfl (.bool x.t) _ (fun u' hu => P10.out u' hu) Try.underlying4 rfl Ky3 ?_
  (try simp only [Act.put, List.setIfInBounds_toArray, List.set_cons_zero, List.set_cons_succ])
  refine wpAnyH_ready (rs := [4]) (by kernel_rfl) (by simp) ?_
  refine AllReadyH.cons rfl (fun K hK => ?_) AllReadyH.nil
  go_simp
  refine (D9.out _ _ _ Oy3 Zy3).mono ?_
  rintro e u9 ⟨v9, rfl, O9, t9, _⟩
  have K9 := Ky3.below t9 (by omega)
  have B9 := By3.trans (t9.mono (by omega))
  have Z9 := Nat.le_trans Zy3 t9.size
  refine hK.out _ _ (K9) (fun _ => ?_)
  clear hK K
  (try simp only [Act.put, List.setIfInBounds_toArray, List.set_cons_zero, List.set_cons_succ])
  refine wpAnyH_ready (rs := [8]) (by kernel_rfl) (by simp) ?_
  refine AllReadyH.cons rfl (fun K hK => ?_) AllReadyH.nil
  go_simp
  refine (D10.out _ _ _ O9 Z9).mono ?_
  rintro e u10 ⟨v10, rfl, O10, t10, _⟩
  have K10 := K9.below t10 (by omega)
  have B10 := B9.trans (t10.mono (by omega))
  have Z10 := Nat.le_trans Z9 t10.size
  refine hK.out _ _ (K10) (fun _ => ?_)
  clear hK K
  (try simp only [Act.put, List.setIfInBounds_toArray, List.set_cons_zero, List.set_cons_succ])
  refine wpAnyH_ready (rs := [11]) (by kernel_rfl) (by simp) ?_
  refine AllReadyH.cons rfl (fun K hK => ?_) AllReadyH.nil
  go_simp
  refine (D11.out _ _ _ O10 Z10).mono ?_
  rintro e u11 ⟨v11, rfl, O11, t11, _⟩
  have K11 := K10.below t11 (by omega)
  have B11 := B10.trans (t11.mono (by omega))
  have Z11 := Nat.le_trans Z10 t11.size
  refine hK.out _ _ (K11) (fun _ => ?_)
  clear hK K
  (try simp only [Act.put, List.setIfInBounds_toArray, List.set_cons_zero, List.set_cons_succ])
  refine wpAnyH_ready (rs := [12]) (by kernel_rfl) (by simp) ?_
  refine AllReadyH.cons rfl (fun K hK => ?_) AllReadyH.nil
  go_simp
  refine hK.out _ _ (K11) (fun _ => ?_)
  clear hK K
  (try simp only [Act.put, List.setIfInBounds_toArray, List.set_cons_zero, List.set_cons_succ])
  refine wpAnyH_done (by kernel_rfl) ?_ _
  clear Ky3 By3 Oy3
  have HK11 := Lib.hid K11; have HHB11 := Lib.hid B11; have HO11 := Lib.hid O11
  clear K9 B9 O9 t9 K10 B10 O10 t10 K11 B11 O11 t11
  go_wp2_with fail
  go_ret
  exact ⟨v11, rfl, by rw [← HE.out]; exact HO11.out.byt (Nat.le_trans (by rw [HE.out]; exact HBLn.out) (by unfold maxLen; omega)) (by rw [HE.out]; exact HBY.out), HHB11.out⟩
end

/-! RcN -/
section
set_option linter.unusedVariables false
set_option linter.unusedSimpArgs false
open Go.RowKit
variable {lo : Nat}

def cl2 (s : RS) : RS := nU mxU (nU mxU s)
def clD (s : RS) (lv : Value) : ClD := ⟨vU mxU s, vU mxU (nU mxU s), vW (cl2 s), lv⟩
def clL (s : RS) : List Int := lsV (nW (cl2 s))
def clS (s : RS) : RS := lsN (nW (cl2 s))

/-- A claim that is read. -/
def RdC (lo : Nat) (w : World) (g : Nat) (d : Value → ClD) (l : List Int) (s : RS) (en : Ending) (w' : World) : Prop :=
  ∃ lv, en = .returned (.agg (d lv).cells.toArray) ∧ Ints .i64 w' lv l ∧ (∀ x a b, lv = .slice (some x) a b → w.heap.size ≤ x.block) ∧ Rdr lo w' g s.r s.e ∧ w.grownBy w' (some g)

theorem clSize {v1 v2 : Int} {r : List Int} {lv : Value} {Y : Array Value} (h : flatP [[Value.int .u64 v1], [Value.int .u64 v2], bytesL r, [lv]] = Y) (h32 : (bytesL r).length = 32) : Y.size = 35 := by
  rw [← h, flatP_size]; simp [h32]
theorem clOne {v1 v2 : Int} {r : List Int} {a : Option Addr} {l c : Nat} {Y : Array Value} (h : flatP [[Value.int .u64 v1], [Value.int .u64 v2], bytesL r, [.slice a l c]] = Y) : ∀ v ∈ Y, v.oneCell' = true := by
  rw [← h]
  refine flatP_one fun p hp v hv => ?_
  simp only [List.mem_cons, List.not_mem_nil, or_false] at hp
  rcases hp with rfl | rfl | rfl | rfl
  · rw [List.mem_singleton.1 hv]; rfl
  · rw [List.mem_singleton.1 hv]; rfl
  · exact bytesL_one _ v hv
  · rw [List.mem_singleton.1 hv]; rfl

set_option maxRecDepth 100000 in
set_option maxHeartbeats 8000000 in
theorem rclm_any (g : Nat) (size : Int) (s : RS) (w : World) (h : Rdr lo w g s.r s.e) :
    Calls Try.prog 106 #[.agg #[.pointer (some ⟨g, 0, none⟩), .int .i64 size]] w (RdC lo w g (clD s) (clL s) (clS s)) := by
  have hg := h.lt
  have hby0 := h.bytes
  obtain ⟨s1, hs1⟩ : ∃ s1, nU mxU s = s1 := ⟨_, rfl⟩
  obtain ⟨s2, hs2⟩ : ∃ s2, nU mxU s1 = s2 := ⟨_, rfl⟩
  obtain ⟨s3, hs3⟩ : ∃ s3, nW s2 = s3 := ⟨_, rfl⟩
  obtain ⟨s4, hs4⟩ : ∃ s4, lsN s3 = s4 := ⟨_, rfl⟩
  have hby1 : byteL s1.r := hs1 ▸ nU_byte hby0
  have hby2 : byteL s2.r := hs2 ▸ nU_byte hby1
  have e2 : cl2 s = s2 := by unfold cl2; rw [hs1, hs2]
  have eL : clL s = lsV s3 := by unfold clL; rw [e2, hs3]
  have eS : clS s = s4 := by unfold clS; rw [e2, hs3, hs4]
  have HED : Hid (∀ lv, (clD s lv).cells = [[Value.int .u64 (vU mxU s)], [Value.int .u64 (vU mxU s1)], bytesL (vW s2), [lv]].flatten) := fun lv => by unfold clD; rw [hs1, e2]; rfl
  rw [eL, eS]
  have D1 : Hid (∀ u, Rdr lo u g s.r s.e → Calls Try.prog 98 #[.agg #[.pointer (some ⟨g, 0, none⟩), .int .i64 size]] u (Reads lo u g (.int .u64 (vU mxU s)) s1.r s1.e)) := fun u hr => by
    have := num_any g size s.r s.e u hr
    rw [← hs1]; exact this
  have D2 : Hid (∀ u, Rdr lo u g s1.r s1.e → Calls Try.prog 98 #[.agg #[.pointer (some ⟨g, 0, none⟩), .int .i64 size]] u (Reads lo u g (.int .u64 (vU mxU s1)) s2.r s2.e)) := fun u hr => by
    have := num_any g size s1.r s1.e u hr
    rw [← hs2]; exact this
  have D3 : Hid (∀ u, Rdr lo u g s2.r s2.e → Calls Try.prog 99 #[.pointer (some ⟨g, 0, none⟩)] u (Reads lo u g (.agg (bytesL (vW s2)).toArray) s3.r s3.e)) := fun u hr => by
    have := root_any g s2.r s2.e u hr
    rw [← hs3]; exact this
  have D4 : Hid (∀ u, Rdr lo u g s3.r s3.e → Calls Try.prog 104 #[.agg #[.pointer (some ⟨g, 0, none⟩), .int .i64 size]] u (RdL lo .i64 u g (lsV s3) s4)) := fun u hr => by
    have := rlist_any g size s3 u hr
    rw [← hs4]; exact this
  have h32 := Lib.hid (bytesL_len (vW_is hby2))
  clear hs1 hs2 hs3 hs4 hby0 hby1 hby2 e2 eL eS
  generalize vU mxU s = v1 at *
  generalize vU mxU s1 = v2 at *
  generalize vW s2 = r1 at *
  generalize lsV s3 = l at *
  have hZ0 : (flatP zCl.parts).size = 35 := rfl
  obtain ⟨Z, hZ⟩ : ∃ Z, Z = flatP zCl.parts := ⟨_, rfl⟩
  rw [← hZ] at hZ0
  obtain ⟨hzz, hst⟩ := zero_array (P := Try.prog) (t := 37) (n := 35) Z (by rw [hZ]; kernel_rfl) hZ0 (by rw [hZ]; kernel_rfl)
  have HIR : Hid ((Try.prog.info? 24).map (·.size) = some (bytesL r1).length) := by show _ = _; rw [h32.out]; kernel_rfl
  have hba := ((Below.refl w.heap.size w).alloc (Nat.le_refl _) (.cells #[.pointer (some ⟨g, 0, none⟩), .int .i64 size] 141)).alloc (by simp) (.cells Z 37)
  have S0 : Hid (DS lo g w.heap.size (w.heap.size + 1) size [1, 1, 32, 1] w ((w.alloc (.cells #[.pointer (some ⟨g, 0, none⟩), .int .i64 size] 141)).alloc (.cells Z 37)) zCl.parts s) :=
    ⟨h.below hba, (Blk.new rfl).alloc _, by rw [hZ]; exact Blk.new (by simp), rfl, grownBy_of_below hba, by omega, Nat.le_refl _, by omega, by omega, by omega, .inr (by omega)⟩
  have HBA := Lib.hid hba; clear hba h hZ
  have hne1 : w.heap.size ≠ g := by omega
  go_enter Try.func106, Try.ntmps106
  go_wp2_with (first
    | ((with_reducible refine at_store (.tmp 15) ?_); refine wpList_store_ds1 rfl 33 (.tmp 15) (.tmp 14) rfl R4.out 3 34 (.slice lva lvl lvc) rfl rfl rfl rfl (by kernel_rfl) rfl rfl ?_; intro x4 U4' S'; have S4 := Lib.hid S'; clear S'; have HU4 := Lib.hid U4'; clear U4'; obtain ⟨Y, HYY⟩ : ∃ Y, Hid (flatP [[Value.int .u64 v1], [Value.int .u64 v2], bytesL r1, [Value.slice lva lvl lvc]] = Y) := ⟨_, rfl⟩; have KF := Lib.hid ((show Blk x4 (w.heap.size + 1) (flatP [[Value.int .u64 v1], [Value.int .u64 v2], bytesL r1, [Value.slice lva lvl lvc]]) from S4.out.xv).to HYY.out); have hY35 := Lib.hid (clSize HYY.out h32.out); have HY1 := Lib.hid (clOne HYY.out))
    | (go_at_call 104; refine (D4.out _ S3.out.rd).mono ?_; rintro e y4 ⟨lv, rfl, hi, hlo, hr, hg'⟩; obtain ⟨lva, lvl, lvc, rfl⟩ := ints_shape hi; have R4 := Lib.hid (S3.out.read (s' := s4) hr hg'); have HI := Lib.hid hi; have HLO := Lib.hid (hlo : ∀ x a b, Value.slice lva lvl lvc = .slice (some x) a b → x3.heap.size ≤ x.block); clear hr hg' hi hlo)
    | ((with_reducible refine at_store (.tmp 12) ?_); refine wpList_store_ds rfl 24 (.tmp 12) (.tmp 11) rfl R3.out 2 2 (bytesL r1) (by rw [h32.out]; rfl) rfl rfl rfl HIR.out (bytesL_one _) ?_; intro x3 U3' S'; have S3 := Lib.hid S'; clear S' U3'; have k30 := S3.out.rv.cell 0; have k31 := S3.out.rv.cell 1)
    | (go_at_call 99; refine (D3.out _ S2.out.rd).mono ?_; rintro e y3 ⟨rfl, hr, hg'⟩; have R3 := Lib.hid (S2.out.read (s' := s3) hr hg'); clear hr hg')
    | ((with_reducible refine at_store (.tmp 8) ?_); refine wpList_store_ds1 rfl 22 (.tmp 8) (.tmp 7) rfl R2.out 1 1 (.int .u64 v2) rfl rfl rfl rfl (by kernel_rfl) rfl rfl ?_; intro x2 U2' S'; have S2 := Lib.hid S'; clear S' U2'; have k20 := S2.out.rv.cell 0; have k21 := S2.out.rv.cell 1)
    | (go_at_call 98; refine (D2.out _ S1.out.rd).mono ?_; rintro e y2 ⟨rfl, hr, hg'⟩; have R2 := Lib.hid (S1.out.read (s' := s2) hr hg'); clear hr hg')
    | ((with_reducible refine at_store (.tmp 5) ?_); refine wpList_store_ds1 rfl 22 (.tmp 5) (.tmp 4) rfl R1.out 0 0 (.int .u64 v1) rfl rfl rfl rfl (by kernel_rfl) rfl rfl ?_; intro x1 U1' S'; have S1 := Lib.hid S'; clear S' U1'; have k10 := S1.out.rv.cell 0; have k11 := S1.out.rv.cell 1)
    | (go_at_call 98; refine (D1.out _ S0.out.rd).mono ?_; rintro e y1 ⟨rfl, hr, hg'⟩; have R1 := Lib.hid (S0.out.read (s' := s1) hr hg'); clear hr hg')
    | ((with_reducible refine at_load (.tmp 2) ?_); refine wpList_load_g 37 (.tmp 2) rfl (w.heap.size + 1) rfl Y _ KF.out Try.underlying37 rfl (by rw [hY35.out]; kernel_rfl) rfl ?_)
    | ((with_reducible refine at_store (.tmp 2) ?_); refine wpList_store_blk rfl 37 (.tmp 2) (.tmp 16) rfl (w.heap.size + 1) Y rfl rfl Y KF.out rfl (by rw [hY35.out]; kernel_rfl) HY1.out ?_; intro x5 U5 B5))
  have hx3 := S3.out.xv.lt
  have hx4 : w.heap.size + 1 < y4.heap.size := R4.out.xv.lt
  have hI4 := (HI.out.upd HU4.out (fun z a c e => by have := HLO.out z a c e; omega)).upd U5 (fun z a c e => by have := HLO.out z a c e; omega)
  refine bodyPost_ret (res_cellR rfl rfl B5 Try.underlying37 rfl (by rw [hY35.out]; kernel_rfl)) rfl ⟨.slice lva lvl lvc, ?_, hI4, fun z a c e => ?_, S4.out.rd.updHi U5 (by omega), grownBy_keep S4.out.gro U5 (by omega)⟩
  · rw [HED.out, ← HYY.out]; rfl
  · have h1 := HLO.out z a c e
    omega
end

/-! RcB -/
section
set_option linter.unusedVariables false
open Go.RowKit

def RLI (w : World) (B : Nat) (v : Value) (bs l : List Int) (b i : Value) (wr : World) : Prop :=
  ∃ k : Nat, k ≤ l.length ∧ i = .int .i64 k ∧ Own wr B b (bs ++ lencK l k) ∧ Below B w wr ∧ B ≤ wr.heap.size ∧ Grew w wr v b

set_option maxRecDepth 100000 in
set_option maxHeartbeats 4000000 in
theorem rlst_any (v lv : Value) (bs l : List Int) (w : World) (B : Nat) (h : Own w B v bs) (hB : B ≤ w.heap.size) (hI : ∀ u, Below B w u → IntsV u lv l) (hlB : ∀ x a c, lv = .slice (some x) a c → 0 < a → x.block < B) (hv : vlE l 1024 = 0) (hl0 : l.length ≤ 1000000000) (hb : bs.length ≤ 10000000000) :
    Calls Try.prog 52 #[v, lv] w (AppO w B v (bs ++ lenc l)) := by
  have H := Lib.hid h; clear h
  have HI := Lib.hid hI
  obtain ⟨⟨a, len, cap, rfl, hl, hm, _⟩, _⟩ := hI w (Below.refl _ _)
  have HLB := Lib.hid hlB; clear hlB
  have HV := Lib.hid hv; clear hv hI
  have hll : len ≤ 1000000000 := by omega
  have HLL := Lib.hid hl0; clear hl0 hm
  have HL := Lib.hid hl; clear hl
  have D0 := ruint_any v bs (len : Int) w B H.out hB (by omega) (by omega) (by omega)
  rw [Int.toNat_natCast] at D0
  have e0 : bs ++ uenc len = bs ++ lencK l 0 := by rw [← HL.out]; simp [lencK, seqK]
  rw [e0] at D0
  have HD0 := Lib.hid D0; clear D0 e0
  go_enter Try.func52, Try.ntmps52
  go_wp2_with (go_at_call 19; refine HD0.out.mono ?_; rintro e w1 ⟨v1, rfl, ho1, hb1, hg1⟩)
  go_loopw [0, 5] (fun b i wr => RLI w B v bs l b i wr) (fun _ i _ => len - (intOf i).toNat)
  case atStart => exact ⟨0, Nat.zero_le _, rfl, ho1, hb1, Nat.le_trans hB hb1.size, hg1⟩
  case round =>
    obtain ⟨k, hk, rfl, ho, hbl, hBr, hgr⟩ := hrel
    rw [HL.out] at hk
    have HO := Lib.hid ho; clear ho
    have HGR := Lib.hid hgr; clear hgr
    by_cases hlt : k < len
    · obtain ⟨⟨_, _, _, e', _, _, hr⟩, _⟩ := HI.out wr hbl
      cases e'
      rcases hr with hr | ⟨b, off, rfl, hbb, hc⟩
      · omega
      have hbB := HLB.out _ _ _ rfl (by omega)
      simp only at hbB
      have hcell := hc k hlt
      have hkl : k < l.length := by rw [HL.out]; exact hlt
      have hx := (vl_good HV.out).2 k hkl
      have hg := gap_good HV.out hkl
      have hln := lenc_len HV.out (k := k) (by rw [HL.out]; omega) HLL.out
      have D := fun b u h hB => ruint_any b (bs ++ lencK l k) (gap l k) u B h hB hg.1 (by omega) (by rw [List.length_append]; omega)
      rw [List.append_assoc, ← lencK_next] at D
      have HBL := Lib.hid hbl; clear hbl hln
      by_cases hk0 : 0 < k
      · have hcell1 := hc (k - 1) (by omega)
        have hgap : gap l k = l.getD k 0 - l.getD (k - 1) 0 - 1 := by unfold gap; rw [if_neg (by omega)]
        have hy := (vl_good HV.out).2 (k - 1) (by omega)
        rw [hgap] at D hg
        clear hc hgap
        obtain ⟨x, HX⟩ : ∃ x, Hid (x = l.getD k 0) := ⟨_, rfl⟩
        obtain ⟨y, HY⟩ : ∃ y, Hid (y = l.getD (k - 1) 0) := ⟨_, rfl⟩
        rw [← HX.out, ← HY.out] at D hg
        rw [← HX.out] at hcell
        rw [← HY.out] at hcell1
        have hx1 : 0 ≤ x ∧ x < 1024 := by rw [HX.out]; exact ⟨hx.1, hx.2.1⟩
        have hy1 : 0 ≤ y ∧ y < 1024 := by rw [HY.out]; exact ⟨hy.1, hy.2.1⟩
        clear hx hy
        have HD := Lib.hid D; clear D
        have HC0 := Lib.hid hcell
        have HC1 := Lib.hid hcell1
        have s0 : wr.drew.cell? ⟨b, off + k, none⟩ = some (.int .i64 x) := hcell
        have s1 : wr.drew.cell? ⟨b, off + (k - 1), none⟩ = some (.int .i64 y) := hcell1
        clear hcell hcell1
        have hk1 : (0 : Int) ≤ (k : Int) := by omega
        have hk2 : (k : Int) < (len : Int) := by omega
        have hk3 : (0 : Int) ≤ ((k - 1 : Nat) : Int) := by omega
        have hk4 : ((k - 1 : Nat) : Int) < (len : Int) := by omega
        have hkz : ((k : Int) == 0) = false := by simp; omega
        have HDR : Hid (Own wr.drew B u0 (bs ++ lencK l k)) := HO.out
        have e1 : IntKind.i64.wrap ((k : Int) - 1) = ((k - 1 : Nat) : Int) := by rw [show (k : Int) - 1 = ((k - 1 : Nat) : Int) by omega]; exact IntWalk.i64_in _ (by omega)
        have e2 : IntKind.i64.wrap (x - y) = x - y := IntWalk.i64_in _ (by omega)
        have e3 : IntKind.i64.wrap (x - y - 1) = x - y - 1 := IntWalk.i64_in _ (by omega)
        have e4 : IntKind.u64.wrap (x - y - 1) = x - y - 1 := by rw [IntKind.wrap_u64]; omega
        go_wp2_with fail
        go_region_held3 (fun u => u.cell? ⟨b, off + k, none⟩ = some (.int .i64 x) ∧ u.cell? ⟨b, off + (k - 1), none⟩ = some (.int .i64 y))
          (first | assumption | (constructor <;> assumption))
          ((go_at_call 19; refine (HD.out _ _ HDR.out hBr).mono ?_; rintro e w2 ⟨v2, rfl, ho2, hb2, hg2⟩
            have t0 := (hb2.cell (p := ⟨b, off + k, none⟩) hbB).trans s0
            have t1 := (hb2.cell (p := ⟨b, off + (k - 1), none⟩) hbB).trans s1
            have HO2 := Lib.hid ho2; clear ho2; have HB2' := Lib.hid ((Below.drewN (n := 1) (Below.refl B wr)).trans hb2); clear hb2; have HG2' := Lib.hid ((Grew.below u0 (Below.drewN (n := 1) (Below.refl _ wr))).trans hg2); clear hg2))
        clear e1 e2 e3 e4 s0 s1 t0 t1 HDR
        go_wp2_with fail
        go_roundw
        case rel => exact ⟨k + 1, by rw [HL.out]; omega, by go_num, HO2.out, HBL.out.trans (HB2'.out), Nat.le_trans hBr HB2'.out.size, HGR.out.trans HG2'.out⟩
        case measure => simp [intOf]; omega
      · obtain rfl : k = 0 := by omega
        have hgap : gap l 0 = l.getD 0 0 := rfl
        rw [hgap] at D hg
        rw [Nat.add_zero] at hcell
        clear hc hgap
        obtain ⟨x, HX⟩ : ∃ x, Hid (x = l.getD 0 0) := ⟨_, rfl⟩
        rw [← HX.out] at D hg hcell
        have hx1 : 0 ≤ x ∧ x < 1024 := by rw [HX.out]; exact ⟨hx.1, hx.2.1⟩
        clear hx
        have HD := Lib.hid D; clear D
        have hlen0 : 0 < len := hlt
        go_wp2_with (go_at_call 19; refine (HD.out _ _ HO.out hBr).mono ?_; rintro e w2 ⟨v2, rfl, ho2, hb2, hg2⟩; have HO2 := Lib.hid ho2; clear ho2; have HB2 := Lib.hid hb2; clear hb2; have HG2 := Lib.hid hg2; clear hg2)
        go_roundw
        case rel => exact ⟨1, by rw [HL.out]; omega, by go_num, HO2.out, HBL.out.trans HB2.out, Nat.le_trans hBr HB2.out.size, HGR.out.trans HG2.out⟩
        case measure => simp [intOf]; omega
    · obtain rfl : k = len := by omega
      go_wp2_with fail
      go_ret
      exact ⟨_, rfl, by unfold lenc; rw [HL.out]; exact HO.out, hbl, HGR.out⟩
end

/-! RcC -/
section
set_option linter.unusedVariables false
set_option linter.unusedSimpArgs false
open Go.RowKit

set_option maxRecDepth 100000 in
set_option maxHeartbeats 4000000 in
theorem reatt_any (s : Int) (r : List Int) (c : CpD) (lv : Value) (l : List Int) (w : World) (hs : 0 ≤ s ∧ s ≤ 18446744073709551615) (hr : IsBytes 32 r) (hc : c.ok) (hI : IntsV w lv l) (hl : l.length ≤ 1000000000) :
    Calls Try.prog 28 #[.agg (flatP [[.int .u64 s], bytesL r, c.cells, [lv]])] w (EncR w (vlE l 1024) (uenc s.toNat ++ (r ++ (c.enc ++ lenc l)))) := by
  obtain ⟨lva, lvl, lvc, rfl⟩ : ∃ a l c, lv = .slice a l c := by obtain ⟨⟨a, l, c, e, _⟩, _⟩ := hI; exact ⟨a, l, c, e⟩
  have h32 := bytesL_len hr
  have h33 := CpD.len hc
  have l1 := uenc_len10 (n := s.toNat) (by omega)
  have l2 := CpD.encl hc
  have l3 := hr.1
  obtain ⟨ps, hps⟩ : ∃ ps, ps = [[Value.int .u64 s], bytesL r, c.cells, [Value.slice lva lvl lvc]] := ⟨_, rfl⟩
  rw [← hps]
  have o0 : Hid (offP ps 0 = 0) := rfl
  have o1 : Hid (offP ps 1 = 1) := by show _ = _; rw [hps]; rfl
  have o2 : Hid (offP ps 2 = 33) := by show _ = _; rw [hps]; simp [offP, h32]
  have o3 : Hid (offP ps 3 = 66) := by show _ = _; rw [hps]; simp [offP, h32, h33]
  have q0 : Hid (ps[0]? = some [Value.int .u64 s]) := by show _ = _; rw [hps]; rfl
  have q1 : Hid (ps[1]? = some (bytesL r)) := by show _ = _; rw [hps]; rfl
  have q2 : Hid (ps[2]? = some c.cells) := by show _ = _; rw [hps]; rfl
  have q3 : Hid (ps[3]? = some [Value.slice lva lvl lvc]) := by show _ = _; rw [hps]; rfl
  have hX0 : (flatP ps).size = 67 := by rw [flatP_size, hps]; simp [h32, h33]
  clear hps
  obtain ⟨X, HX⟩ : ∃ X, Hid (flatP ps = X) := ⟨_, rfl⟩
  rw [HX.out] at hX0 ⊢
  have B0 : Hid (Blk (w.alloc (.cells X 35)) w.heap.size (flatP ps)) := Blk.to (Blk.new rfl) HX.out.symm
  have hba := (Below.refl w.heap.size w).alloc (Nat.le_refl _) (.cells X 35)
  have HDV := Lib.hid (rvlist_any (.slice lva lvl lvc) l 1024 _ (hI.below hba) (by omega) (by omega))
  have D1 := Lib.hid (fun u B h hB => ruint_any (.slice none 0 0) [] s u B h hB hs.1 hs.2 (by simp))
  have D2 : Hid (∀ v u B, Own u B v ([] ++ uenc s.toNat) → B ≤ u.heap.size → Calls Try.prog 47 #[v, .agg (bytesL r).toArray] u (AppO u B v ([] ++ uenc s.toNat ++ r))) := fun v u B h hB => rroot_any v _ r u B h hB hr (by simp only [List.length_append, List.length_nil]; omega)
  have D3 : Hid (∀ v u B, Own u B v ([] ++ uenc s.toNat ++ r) → B ≤ u.heap.size → Calls Try.prog 49 #[v, .agg c.cells.toArray] u (AppO u B v ([] ++ uenc s.toNat ++ r ++ (uenc c.n.toNat ++ c.r)))) := fun v u B h hB => rcheck_any v _ c.n c.r u B h hB hc.1 hc.2.1 hc.2.2 (by simp only [List.length_append, List.length_nil]; omega)
  have D4 := Lib.hid (fun (hv : vlE l 1024 = 0) v u B (h : Own u B v ([] ++ uenc s.toNat ++ r ++ (uenc c.n.toNat ++ c.r))) (hB : B ≤ u.heap.size) (hw : w.heap.size < B) (hbb : ∀ u', Below B u u' → Below w.heap.size w u') => rlst_any v (.slice lva lvl lvc) _ l u B h hB (fun u' hu' => hI.below (hbb u' hu')) (fun x a c e h0 => by
    obtain ⟨⟨_, _, _, e', _, _, hr⟩, _⟩ := hI
    cases e
    cases e'
    rcases hr with hr | ⟨bb, oo, e2, hlt, _⟩
    · omega
    · cases e2; simp only; omega) hv hl (by simp only [List.length_append, List.length_nil]; unfold CpD.enc at l2; rw [List.length_append] at l2; omega))
  have HE : Hid ([] ++ uenc s.toNat ++ r ++ (uenc c.n.toNat ++ c.r) ++ lenc l = uenc s.toNat ++ (r ++ (c.enc ++ lenc l))) := by show _ = _; simp [CpD.enc]
  have HLE : Hid (∀ h : vlE l 1024 = 0, ([] ++ uenc s.toNat ++ r ++ (uenc c.n.toNat ++ c.r) ++ lenc l).length ≤ 140737488355328) := fun h => by
    have := lenc_len h (Nat.le_refl _) hl
    simp only [List.length_append, List.length_nil]; unfold CpD.enc at l2; rw [List.length_append] at l2; unfold lenc; omega
  have HBY : Hid (∀ x ∈ [] ++ uenc s.toNat ++ r ++ (uenc c.n.toNat ++ c.r) ++ lenc l, 0 ≤ x ∧ x ≤ 255) := by
    intro x hx
    simp only [List.mem_append, List.nil_append, lenc, lencK] at hx
    rcases hx with ((hx | hx) | hx | hx) | hx | hx
    · exact uenc_byte _ x hx
    · exact isb_rng hr x hx
    · exact uenc_byte _ x hx
    · exact isb_rng hc.2.2 x hx
    · exact uenc_byte _ x hx
    · exact seqK_byte _ _ x hx
  have HBA := Lib.hid hba; clear hba hI hl l1 l2 l3 hr hc hs
  have HI32 : Hid ((Try.prog.info? 24).map (·.size) = some (bytesL r).length) := by show _ = _; rw [h32]; kernel_rfl
  have HI33 : Hid ((Try.prog.info? 26).map (·.size) = some c.cells.length) := by show _ = _; rw [h33]; kernel_rfl
  clear h32 h33
  obtain ⟨E, hE⟩ : ∃ E, vlE l 1024 = E := ⟨_, rfl⟩
  rw [hE] at HDV D4 HLE ⊢
  clear hE HX
  by_cases hE0 : E = 0
  case neg =>
    have hne : (E != 0) = true := by simpa using hE0
    go_enter Try.func28, Try.ntmps28
    go_wp2_with (first
      | ((with_reducible refine at_load (.tmp 5) ?_); refine wpList_load_1 33 (.tmp 5) rfl w.heap.size 66 (.slice lva lvl lvc) (B0.out.cellAt q3.out o3.out) rfl _ Try.underlying33 rfl rfl ?_)
      | (go_at_call 51; refine HDV.out.mono ?_; rintro e w1 ⟨rfl, hb1⟩))
    go_ret2
    exact ⟨_, rfl, by rw [if_neg hE0]; exact byt_nil _, HBA.out.trans (hb1.mono HBA.out.size)⟩
  subst hE0
  have HD4 := Lib.hid (D4.out rfl); clear D4
  have HLE1 := Lib.hid (HLE.out rfl); clear HLE
  go_enter Try.func28, Try.ntmps28
  go_wp2_with (first
    | ((with_reducible refine at_load (.tmp 5) ?_); refine wpList_load_1 33 (.tmp 5) rfl w.heap.size 66 (.slice lva lvl lvc) (B0.out.cellAt q3.out o3.out) rfl _ Try.underlying33 rfl rfl ?_)
    | (go_at_call 51; refine HDV.out.mono ?_; rintro e w1 ⟨rfl, hb1⟩; have K1 := Lib.hid (B0.out.call hb1); have HB1 := Lib.hid (HBA.out.trans (hb1.mono HBA.out.size)); clear hb1))
  refine wp_region_held_drew (S := fun u' => Below w1.drew.heap.size w1.drew u') (by kernel_rfl) (Below.refl _ _) (fun _ => ?_)
  (try simp only [Act.put, List.setIfInBounds_toArray, List.set_cons_zero, List.set_cons_succ])
  obtain ⟨x, hx⟩ : ∃ x, w1.drew = x := ⟨_, rfl⟩
  have KX : Blk x w.heap.size (flatP ps) := by rw [← hx]; exact K1.out
  have HBX : Below w.heap.size w x := by rw [← hx]; exact Below.drewN (n := 1) HB1.out
  rw [hx]
  clear hx
  have hbx : w.heap.size < x.heap.size := KX.lt
  have r1 := KX.part q1.out
  have r2 := KX.part q2.out
  rw [o1.out] at r1
  rw [o2.out] at r2
  have c0 := KX.cellAt q0.out o0.out
  have c3 := KX.cellAt q3.out o3.out
  refine wpAnyH_take (i := 0) (oi := ⟨some 11, _, _, _, _, _⟩) (v := .pointer (some ⟨w.heap.size, 0, none⟩)) rfl (by kernel_rfl) (by kernel_rfl) (by kernel_rfl) (fun _ _ _ h => h) (Or.inl ⟨by rfl, fun wz hz => ?_⟩) (Below.refl _ _) ?_
  · clear hz; go_simp; first | done | with_reducible rfl | rfl
  (try simp only [Act.put, List.setIfInBounds_toArray, List.set_cons_zero, List.set_cons_succ])
  refine held_load1 1 rfl (by kernel_rfl) (by kernel_rfl) (by kernel_rfl) (fun _ _ _ _ h => h) rfl 22 (.tmp 11) rfl w.heap.size 0 rfl (.int .u64 s) _ (fun u' hu => (hu.cell (p := ⟨w.heap.size, 0, none⟩) hbx).trans c0) Try.underlying22 rfl (Below.refl _ _) ?_
  (try simp only [Act.put, List.setIfInBounds_toArray, List.set_cons_zero, List.set_cons_succ])
  refine wpAnyH_take (i := 3) (oi := ⟨some 14, _, _, _, _, _⟩) (v := .pointer (some ⟨w.heap.size, 1, none⟩)) rfl (by kernel_rfl) (by kernel_rfl) (by kernel_rfl) (fun _ _ _ h => h) (Or.inl ⟨by rfl, fun wz hz => ?_⟩) (Below.refl _ _) ?_
  · clear hz; go_simp; first | done | with_reducible rfl | rfl
  (try simp only [Act.put, List.setIfInBounds_toArray, List.set_cons_zero, List.set_cons_succ])
  refine held_load 4 rfl (by kernel_rfl) (by kernel_rfl) (by kernel_rfl) (fun _ _ _ _ h => h) rfl 24 (.tmp 14) rfl w.heap.size 1 rfl (bytesL r) _ (fun u' hu => Below.rng hu hbx r1) Try.underlying24 rfl (HI32.out) (Below.refl _ _) ?_
  (try simp only [Act.put, List.setIfInBounds_toArray, List.set_cons_zero, List.set_cons_succ])
  refine wpAnyH_take (i := 6) (oi := ⟨some 17, _, _, _, _, _⟩) (v := .pointer (some ⟨w.heap.size, 33, none⟩)) rfl (by kernel_rfl) (by kernel_rfl) (by kernel_rfl) (fun _ _ _ h => h) (Or.inl ⟨by rfl, fun wz hz => ?_⟩) (Below.refl _ _) ?_
  · clear hz; go_simp; first | done | with_reducible rfl | rfl
  (try simp only [Act.put, List.setIfInBounds_toArray, List.set_cons_zero, List.set_cons_succ])
  refine held_load 7 rfl (by kernel_rfl) (by kernel_rfl) (by kernel_rfl) (fun _ _ _ _ h => h) rfl 26 (.tmp 17) rfl w.heap.size 33 rfl c.cells _ (fun u' hu => Below.rng hu hbx r2) Try.underlying26 rfl (HI33.out) (Below.refl _ _) ?_
  (try simp only [Act.put, List.setIfInBounds_toArray, List.set_cons_zero, List.set_cons_succ])
  refine wpAnyH_take (i := 9) (oi := ⟨some 20, _, _, _, _, _⟩) (v := .pointer (some ⟨w.heap.size, 66, none⟩)) rfl (by kernel_rfl) (by kernel_rfl) (by kernel_rfl) (fun _ _ _ h => h) (Or.inl ⟨by rfl, fun wz hz => ?_⟩) (Below.refl _ _) ?_
  · clear hz; go_simp; first | done | with_reducible rfl | rfl
  (try simp only [Act.put, List.setIfInBounds_toArray, List.set_cons_zero, List.set_cons_succ])
  refine held_load1 10 rfl (by kernel_rfl) (by kernel_rfl) (by kernel_rfl) (fun _ _ _ _ h => h) rfl 33 (.tmp 20) rfl w.heap.size 66 rfl (.slice lva lvl lvc) _ (fun u' hu => (hu.cell (p := ⟨w.heap.size, 66, none⟩) hbx).trans c3) Try.underlying33 rfl (Below.refl _ _) ?_
  (try simp only [Act.put, List.setIfInBounds_toArray, List.set_cons_zero, List.set_cons_succ])
  refine wpAnyH_ready (rs := [2]) (by kernel_rfl) (by simp) ?_
  refine AllReadyH.cons rfl (fun K hK => ?_) AllReadyH.nil
  go_simp
  refine (D1.out _ _ (Own.nil x x.heap.size) (Nat.le_refl _)).mono ?_
  rintro e wa ⟨va, rfl, ha, hba, _⟩

  refine hK.out _ _ (hba) (fun _ => ?_)
  clear hK K
  (try simp only [Act.put, List.setIfInBounds_toArray, List.set_cons_zero, List.set_cons_succ])
  refine wpAnyH_ready (rs := [5]) (by kernel_rfl) (by simp) ?_
  refine AllReadyH.cons rfl (fun K hK => ?_) AllReadyH.nil
  go_simp
  refine (D2.out _ _ _ ha hba.size).mono ?_
  rintro e wb ⟨vb, rfl, hb, hbb0, _⟩
  have hbb := hba.trans hbb0
  refine hK.out _ _ (hbb) (fun _ => ?_)
  clear hK K
  (try simp only [Act.put, List.setIfInBounds_toArray, List.set_cons_zero, List.set_cons_succ])
  refine wpAnyH_ready (rs := [8]) (by kernel_rfl) (by simp) ?_
  refine AllReadyH.cons rfl (fun K hK => ?_) AllReadyH.nil
  go_simp
  refine (D3.out _ _ _ hb hbb.size).mono ?_
  rintro e wc ⟨vc, rfl, hc, hbc0, _⟩
  have hbc := hbb.trans hbc0
  refine hK.out _ _ (hbc) (fun _ => ?_)
  clear hK K
  (try simp only [Act.put, List.setIfInBounds_toArray, List.set_cons_zero, List.set_cons_succ])
  refine wpAnyH_ready (rs := [11]) (by kernel_rfl) (by simp) ?_
  refine AllReadyH.cons rfl (fun K hK => ?_) AllReadyH.nil
  go_simp
  refine (HD4.out _ _ _ hc hbc.size hbx (fun u hu => HBX.trans ((hbc.trans hu).mono (by omega)))).mono ?_
  rintro e wd ⟨vd, rfl, hd, hbd0, _⟩
  have hbd := hbc.trans hbd0
  refine hK.out _ _ (hbd) (fun _ => ?_)
  clear hK K
  (try simp only [Act.put, List.setIfInBounds_toArray, List.set_cons_zero, List.set_cons_succ])
  refine wpAnyH_ready (rs := [12]) (by kernel_rfl) (by simp) ?_
  refine AllReadyH.cons rfl (fun K hK => ?_) AllReadyH.nil
  go_simp
  refine hK.out _ _ (hbd) (fun _ => ?_)
  clear hK K
  (try simp only [Act.put, List.setIfInBounds_toArray, List.set_cons_zero, List.set_cons_succ])
  refine wpAnyH_ready (rs := [13]) (by kernel_rfl) (by simp) ?_
  refine AllReadyH.cons rfl (fun K hK => ?_) AllReadyH.nil
  go_simp
  refine hK.out _ _ (hbd) (fun _ => ?_)
  clear hK K
  (try simp only [Act.put, List.setIfInBounds_toArray, List.set_cons_zero, List.set_cons_succ])
  refine wpAnyH_done (by kernel_rfl) ?_ _
  go_wp2_with fail
  go_ret2
  refine ⟨vd, rfl, ?_, HBX.trans (hbd.mono (by omega))⟩
  rw [if_pos rfl, ← HE.out]
  exact hd.byt (Nat.le_trans HLE1.out (by unfold maxLen; omega)) HBY.out
end

/-! RcQ -/
section
set_option linter.unusedVariables false
open Go.RowKit

theorem ints_shape' {k : IntKind} {w : World} {v : Value} {l : List Int} (h : Ints k w v l) : ∃ a n c, v = .slice a n c := by obtain ⟨a, n, c, e, _⟩ := h; exact ⟨a, n, c, e⟩

theorem mapM_exists {α β : Type} (g : α → Option β) : ∀ (l : List α), (∀ x ∈ l, ∃ y, g x = some y) → ∃ ys, l.mapM g = some ys
  | [], _ => ⟨[], rfl⟩
  | x :: l, hall => by
    obtain ⟨y, hy⟩ := hall x (by simp)
    obtain ⟨ys, hys⟩ := mapM_exists g l (fun z hz => hall z (by simp [hz]))
    exact ⟨y :: ys, by rw [List.mapM_cons, hy, hys]; rfl⟩

theorem keyLits_struct {P : Program} {t : TypeId} {fs : Array Field} {d : Nat} {cs : List Value} (hu : P.underlying t = some (.struct fs)) (hl : cs.length = P.cellsOf t) (hn : fs.all (·.name != "_") = true)
    (h : ∀ f ∈ fs.toList, ∃ l, P.keyLits d f.type ((cs.drop f.offset).take (P.cellsOf f.type)) = some l) : ∃ ls, P.keyLits (d + 1) t cs = some ls := by
  obtain ⟨ys, hys⟩ := mapM_exists (fun f => P.keyLits d f.type ((cs.drop f.offset).take (P.cellsOf f.type))) fs.toList h
  unfold Program.keyLits
  simp only [hu, hl, hn, and_self, if_true, hys, Option.map_some]
  exact ⟨_, rfl⟩

theorem keyLits_int {P : Program} {t : TypeId} {k : IntKind} {d : Nat} {n : Int} (hu : P.underlying t = some (.int k)) (hw : (Lit.int k n).wf = true) : ∃ ls, P.keyLits (d + 1) t [.int k n] = some ls := by
  unfold Program.keyLits
  simp only [hu, hw, and_self, if_true]
  exact ⟨_, rfl⟩
theorem keyLits_bool {P : Program} {t : TypeId} {d : Nat} {b : Bool} (hu : P.underlying t = some .bool) : ∃ ls, P.keyLits (d + 1) t [.bool b] = some ls := by
  unfold Program.keyLits
  simp only [hu]
  exact ⟨_, rfl⟩

theorem keyLits_bytes {d : Nat} {t : TypeId} (hu : Try.prog.underlying t = some (.array 32 5)) (hc : Try.prog.cellsOf t = 32) {r : List Int} (h : IsBytes 32 r) : ∃ ls, Try.prog.keyLits (d + 2) t (bytesL r) = some ls :=
  ⟨_, keyLits_ints hu Try.underlying5 hc (by kernel_rfl) d r h.1 h.2⟩

theorem keyLits_cp {d : Nat} {c : CpD} (h : c.ok) : ∃ ls, Try.prog.keyLits (d + 3) 26 c.cells = some ls := by
  refine keyLits_struct Try.underlying26 (by rw [CpD.len h]; kernel_rfl) (by kernel_rfl) ?_
  intro f hf
  simp only [List.mem_cons, List.not_mem_nil, or_false] at hf
  rcases hf with rfl | rfl
  · have e : (c.cells.drop 0).take (Try.prog.cellsOf 22) = [.int .u64 c.n] := by
      rw [show Try.prog.cellsOf 22 = 1 by kernel_rfl]; rfl
    show ∃ l, Try.prog.keyLits (d + 2) 22 ((c.cells.drop 0).take (Try.prog.cellsOf 22)) = some l
    rw [e]
    exact keyLits_int Try.underlying22 (wf_of_u64 ⟨h.1, h.2.1⟩)
  · have e : (c.cells.drop 1).take (Try.prog.cellsOf 24) = bytesL c.r := by
      rw [show Try.prog.cellsOf 24 = 32 by kernel_rfl]
      show (bytesL c.r).take 32 = _
      rw [List.take_of_length_le (by rw [bytesL_len h.2.2]; omega)]
    show ∃ l, Try.prog.keyLits (d + 2) 24 ((c.cells.drop 1).take (Try.prog.cellsOf 24)) = some l
    rw [e]
    exact keyLits_bytes Try.underlying24 (by kernel_rfl) h.2.2
end

/-! RcK -/
section
set_option linter.unusedVariables false
set_option linter.unusedSimpArgs false
open Go.RowKit

def ClD.good (x : ClD) (l : List Int) (w : World) : Prop := x.ok ∧ IntsV w x.v l ∧ l.length ≤ 10000000

theorem ClD.encl {x : ClD} {l : List Int} (h : x.ok) (hv : vlE l 1024 = 0) (hl : l.length ≤ 1000000000) : (x.enc l).length ≤ 62 + 10 * l.length ∧ ∀ y ∈ x.enc l, 0 ≤ y ∧ y ≤ 255 := by
  have h1 := uenc_len10 (n := x.source.toNat) (by have := h.1; omega)
  have h2 := uenc_len10 (n := x.target.toNat) (by have := h.2.1; omega)
  have h3 := lenc_len hv (Nat.le_refl _) hl
  have h4 := h.2.2.1
  constructor
  · simp only [ClD.enc, List.length_append]
    unfold lenc
    omega
  · intro y hy
    simp only [ClD.enc, List.mem_append, lenc, lencK] at hy
    rcases hy with hy | hy | hy | hy | hy
    · exact uenc_byte _ y hy
    · exact uenc_byte _ y hy
    · exact isb_rng h.2.2 y hy
    · exact uenc_byte _ y hy
    · exact seqK_byte _ _ y hy

theorem ClD.one (x : ClD) (h : x.v.oneCell' = true) : ∀ v ∈ x.cells, v.oneCell' = true := by
  intro v hv
  simp only [ClD.cells, ClD.parts, List.flatten_cons, List.flatten_nil, List.mem_append, List.mem_singleton, List.not_mem_nil, or_false] at hv
  rcases hv with rfl | rfl | hv | rfl
  · rfl
  · rfl
  · exact bytesL_one _ v hv
  · exact h

theorem aclaim_d (x : ClD) (v : Value) (bs l : List Int) (w : World) (h : Byt w v bs) (hx : x.good l w) (hv : vlE l 1024 = 0) (hb : bs.length ≤ 1000000000) :
    Calls Try.prog 71 #[v, .agg x.cells.toArray] w (AppN w (bs ++ x.enc l)) :=
  aclaim_any v bs x.source x.target x.root x.v l w h hx.1.1 hx.1.2.1 hx.1.2.2 hx.2.1 hv (by have := hx.2.2; omega) hb

/-- A slashing's box: what its loads find. -/
structure SlB (w0 u : World) (x y : ClD) : Prop where
  blk : Blk u w0.heap.size (flatP [x.cells, y.cells])

theorem sla_box {w : World} {x y : ClD} {u : World} (hx : x.ok) (hy : y.ok) (h : Blk u w.heap.size (flatP [x.cells, y.cells])) :
    u.cell? ⟨w.heap.size, 34, none⟩ = some x.v ∧ u.cell? ⟨w.heap.size, 69, none⟩ = some y.v ∧ u.rangeAt w.heap.size 0 x.cells ∧ u.rangeAt w.heap.size 35 y.cells := by
  have h35 := ClD.len hx
  have k35 := ClD.len hy
  have b32 := bytesL_len hx.2.2
  have c32 := bytesL_len hy.2.2
  have p0 := h.part (k := 0) rfl
  have p1 := h.part (k := 1) rfl
  have o1 : offP [x.cells, y.cells] 1 = 35 := by simp [offP, h35]
  rw [o1] at p1
  have ex : x.cells[34]? = some x.v := by
    have : x.cells = ([[Value.int .u64 x.source], [Value.int .u64 x.target], bytesL x.root].flatten) ++ [x.v] := by simp [ClD.cells, ClD.parts]
    rw [this, List.getElem?_append_right (by simp [b32])]
    simp [b32]
  have ey : y.cells[34]? = some y.v := by
    have : y.cells = ([[Value.int .u64 y.source], [Value.int .u64 y.target], bytesL y.root].flatten) ++ [y.v] := by simp [ClD.cells, ClD.parts]
    rw [this, List.getElem?_append_right (by simp [c32])]
    simp [c32]
  have q0 := p0 34 _ ex
  have q1 := p1 34 _ ey
  rw [show offP [x.cells, y.cells] 0 + 34 = 34 from rfl] at q0
  exact ⟨q0, q1, p0, p1⟩

set_option maxRecDepth 100000 in
set_option maxHeartbeats 8000000 in
theorem esla_any (x y : ClD) (l m : List Int) (w : World) (hx : x.good l w) (hy : y.good m w) :
    Calls Try.prog 39 #[.agg (flatP [x.cells, y.cells])] w (EncR w (vlsE [l, m]) (x.enc l ++ y.enc m)) := by
  obtain ⟨xa, xl, xc, hxv⟩ := ints_shape' hx.2.1.1
  obtain ⟨ya, yl, yc, hyv⟩ := ints_shape' hy.2.1.1
  have HBX := Lib.hid (fun u => sla_box (u := u) (w := w) hx.1 hy.1)
  rw [hxv, hyv] at HBX
  have HGX := Lib.hid (fun u (hu : Below w.heap.size w u) => (⟨hx.1, hx.2.1.below hu, hx.2.2⟩ : x.good l u))
  have HGY := Lib.hid (fun u (hu : Below w.heap.size w u) => (⟨hy.1, hy.2.1.below hu, hy.2.2⟩ : y.good m u))
  have HIXv := Lib.hid (fun u (hu : Below w.heap.size w u) => hx.2.1.below hu)
  have HIYv := Lib.hid (fun u (hu : Below w.heap.size w u) => hy.2.1.below hu)
  rw [hxv] at HIXv
  rw [hyv] at HIYv
  have HLX := Lib.hid (fun hv => ClD.encl hx.1 (l := l) hv (by have := hx.2.2; omega))
  have HLY := Lib.hid (fun hv => ClD.encl hy.1 (l := m) hv (by have := hy.2.2; omega))
  have hll := hx.2.2
  have hlm := hy.2.2
  have hcx : x.cells.length = 35 := ClD.len hx.1
  have hcy : y.cells.length = 35 := ClD.len hy.1
  have HI1 : Hid ((Try.prog.info? 37).map (·.size) = some x.cells.length) := by show _ = _; rw [hcx]; kernel_rfl
  have HI2 : Hid ((Try.prog.info? 37).map (·.size) = some y.cells.length) := by show _ = _; rw [hcy]; kernel_rfl
  have hX0 : (flatP [x.cells, y.cells]).size = 70 := by rw [flatP_size]; simp [hcx, hcy]
  have K0X : Blk (w.alloc (.cells (flatP [x.cells, y.cells]) 39)) w.heap.size (flatP [x.cells, y.cells]) := Blk.new rfl
  obtain ⟨X, hX⟩ : ∃ X, flatP [x.cells, y.cells] = X := ⟨_, rfl⟩
  have HBXX := Lib.hid (fun u (h : Blk u w.heap.size X) => HBX.out u (by rw [hX]; exact h))
  rw [hX] at hX0 K0X ⊢
  clear hX HBX hcx hcy hx hy
  have HB0 := Lib.hid ((Below.refl w.heap.size w).alloc (Nat.le_refl _) (.cells X 39))
  have HK0 := Lib.hid K0X; clear K0X
  have HXV := Lib.hid hxv; clear hxv
  have HYV := Lib.hid hyv; clear hyv
  have DV := vlists_any (w.heap.size + 1) 2 _ _ _ (lists2 (t := 33) (n := w.heap.size + 1) (by simp) (HIXv.out _ HB0.out) (HIYv.out _ HB0.out)) (by omega)
  have HDV := Lib.hid DV; clear DV
  have HVV := Lib.hid (vlsE_two l m)
  obtain ⟨E, hE⟩ : ∃ E, Hid (vlsE [l, m] = E) := ⟨_, rfl⟩
  rw [hE.out] at HDV ⊢
  by_cases hE0 : E = 0
  case neg =>
    have hne : (E != 0) = true := by simpa using hE0
    have b0 := (HBXX.out _ HK0.out).1
    go_enter Try.func39, Try.ntmps39
    go_wp2_with (first
      | ((with_reducible refine at_load (.tmp 6) ?_); refine wpList_load_1 33 (.tmp 6) rfl w.heap.size 34 (.slice xa xl xc) (HBXX.out _ HK0.out).1 rfl _ Try.underlying33 rfl rfl ?_)
      | ((with_reducible refine at_load (.tmp 9) ?_); refine wpList_load_1 33 (.tmp 9) rfl w.heap.size 69 (.slice ya yl yc) (HBXX.out _ HK0.out).2.1 rfl _ Try.underlying33 rfl rfl ?_)
      | (go_at_call 69; refine HDV.out.mono ?_; rintro e w1 ⟨rfl, rfl⟩))
    go_ret2
    exact ⟨_, rfl, by rw [if_neg hE0]; exact byt_nil _, HB0.out.alloc (by simp) _⟩
  subst hE0
  have hvl : vlE l 1024 = 0 ∧ vlE m 1024 = 0 := by
    have h1 := HVV.out
    rw [hE.out] at h1
    by_cases h0 : vlE l 1024 = 0
    · rw [if_neg (by simpa using h0)] at h1; exact ⟨h0, h1.symm⟩
    · rw [if_pos h0] at h1; exact absurd h1.symm h0
  have HV1 := Lib.hid hvl.1
  have HV2 := Lib.hid hvl.2
  have hl1 := (HLX.out hvl.1).1
  have hl2 := (HLY.out hvl.2).1
  clear hvl
  have HK1 := Lib.hid (HK0.out.alloc (.cells #[Value.slice xa xl xc, .slice ya yl yc] 33))
  have HB1 := Lib.hid (HB0.out.alloc (by simp) (.cells #[Value.slice xa xl xc, .slice ya yl yc] 33))
  go_enter Try.func39, Try.ntmps39
  go_wp2_with (first
    | ((with_reducible refine at_load (.tmp 6) ?_); refine wpList_load_1 33 (.tmp 6) rfl w.heap.size 34 (.slice xa xl xc) (HBXX.out _ HK0.out).1 rfl _ Try.underlying33 rfl rfl ?_)
    | ((with_reducible refine at_load (.tmp 9) ?_); refine wpList_load_1 33 (.tmp 9) rfl w.heap.size 69 (.slice ya yl yc) (HBXX.out _ HK0.out).2.1 rfl _ Try.underlying33 rfl rfl ?_)
    | (go_at_call 69; refine HDV.out.mono ?_; rintro e w1 ⟨rfl, rfl⟩))
  refine wp_region_held_drew (S := fun u' => Below ((w.alloc (.cells X 39)).alloc (.cells #[Value.slice xa xl xc, .slice ya yl yc] 33)).drew.heap.size ((w.alloc (.cells X 39)).alloc (.cells #[Value.slice xa xl xc, .slice ya yl yc] 33)).drew u') (by kernel_rfl) (Below.refl _ _) (fun _ => ?_)
  (try simp only [Act.put, List.setIfInBounds_toArray, List.set_cons_zero, List.set_cons_succ])
  obtain ⟨q, hq⟩ : ∃ q, ((w.alloc (.cells X 39)).alloc (.cells #[Value.slice xa xl xc, .slice ya yl yc] 33)).drew = q := ⟨_, rfl⟩
  have hKq : Blk q w.heap.size X := by rw [← hq]; exact HK1.out
  have hBq : Below w.heap.size w q := by rw [← hq]; exact Below.drewN (n := 1) HB1.out
  rw [hq]
  clear hq
  have HLD := Lib.hid (fun u (hu : Below q.heap.size q u) => HBXX.out u (hKq.call hu))
  refine wpAnyH_take (i := 0) (oi := ⟨some 16, _, _, _, _, _⟩) (v := .pointer (some ⟨w.heap.size, 0, none⟩)) rfl (by kernel_rfl) (by kernel_rfl) (by kernel_rfl) (fun _ _ _ h => h) (Or.inl ⟨by rfl, fun wz hz => ?_⟩) (Below.refl _ _) ?_
  · clear hz; go_simp; first | done | with_reducible rfl | rfl
  (try simp only [Act.put, List.setIfInBounds_toArray, List.set_cons_zero, List.set_cons_succ])
  refine held_load 1 rfl (by kernel_rfl) (by kernel_rfl) (by kernel_rfl) (fun _ _ _ _ h => h) rfl 37 (.tmp 16) rfl w.heap.size 0 rfl x.cells _ (fun u' hu => (HLD.out u' hu).2.2.1) Try.underlying37 rfl (HI1.out) (Below.refl _ _) ?_
  (try simp only [Act.put, List.setIfInBounds_toArray, List.set_cons_zero, List.set_cons_succ])
  refine wpAnyH_take (i := 3) (oi := ⟨some 19, _, _, _, _, _⟩) (v := .pointer (some ⟨w.heap.size, 35, none⟩)) rfl (by kernel_rfl) (by kernel_rfl) (by kernel_rfl) (fun _ _ _ h => h) (Or.inl ⟨by rfl, fun wz hz => ?_⟩) (Below.refl _ _) ?_
  · clear hz; go_simp; first | done | with_reducible rfl | rfl
  (try simp only [Act.put, List.setIfInBounds_toArray, List.set_cons_zero, List.set_cons_succ])
  refine held_load 4 rfl (by kernel_rfl) (by kernel_rfl) (by kernel_rfl) (fun _ _ _ _ h => h) rfl 37 (.tmp 19) rfl w.heap.size 35 rfl y.cells _ (fun u' hu => (HLD.out u' hu).2.2.2) Try.underlying37 rfl (HI2.out) (Below.refl _ _) ?_
  (try simp only [Act.put, List.setIfInBounds_toArray, List.set_cons_zero, List.set_cons_succ])
  refine wpAnyH_ready (rs := [2]) (by kernel_rfl) (by simp) ?_
  refine AllReadyH.cons rfl (fun K hK => ?_) AllReadyH.nil
  go_simp
  refine (aclaim_d x _ [] l _ (byt_nil _) (HGX.out _ hBq) HV1.out (by simp)).mono ?_
  rintro e ua ⟨va, rfl, oa, ba⟩
  have hla := HLX.out HV1.out
  refine hK.out _ _ (ba) (fun _ => ?_)
  clear hK K
  (try simp only [Act.put, List.setIfInBounds_toArray, List.set_cons_zero, List.set_cons_succ])
  refine wpAnyH_ready (rs := [5]) (by kernel_rfl) (by simp) ?_
  refine AllReadyH.cons rfl (fun K hK => ?_) AllReadyH.nil
  go_simp
  refine (aclaim_d y _ ([] ++ x.enc l) m _ (oa.byt (by rw [List.nil_append]; unfold maxLen; omega) (by rw [List.nil_append]; exact hla.2)) (HGY.out _ (hBq.trans (ba.mono hBq.size))) HV2.out (by rw [List.nil_append]; omega)).mono ?_
  rintro e ub ⟨vb, rfl, ob, bb0⟩
  have bb := bel0 ba bb0
  refine hK.out _ _ (bb) (fun _ => ?_)
  clear hK K
  (try simp only [Act.put, List.setIfInBounds_toArray, List.set_cons_zero, List.set_cons_succ])
  refine wpAnyH_ready (rs := [6]) (by kernel_rfl) (by simp) ?_
  refine AllReadyH.cons rfl (fun K hK => ?_) AllReadyH.nil
  go_simp
  refine hK.out _ _ (bb) (fun _ => ?_)
  clear hK K
  (try simp only [Act.put, List.setIfInBounds_toArray, List.set_cons_zero, List.set_cons_succ])
  refine wpAnyH_ready (rs := [7]) (by kernel_rfl) (by simp) ?_
  refine AllReadyH.cons rfl (fun K hK => ?_) AllReadyH.nil
  go_simp
  refine hK.out _ _ (bb) (fun _ => ?_)
  clear hK K
  (try simp only [Act.put, List.setIfInBounds_toArray, List.set_cons_zero, List.set_cons_succ])
  refine wpAnyH_done (by kernel_rfl) ?_ _
  go_wp2_with fail
  go_ret2
  refine ⟨vb, rfl, ?_, hBq.trans (bb.mono hBq.size)⟩
  rw [if_pos rfl]
  rw [List.nil_append] at ob
  have hlb := HLY.out HV2.out
  exact ob.byt (by rw [List.length_append]; unfold maxLen; omega) (fun z hz => by rcases List.mem_append.1 hz with hz | hz; exact hla.2 z hz; exact hlb.2 z hz)
end

/-! RcO -/
section
set_option linter.unusedVariables false
set_option linter.unusedSimpArgs false
open Go.RowKit

theorem clD_ok {s : RS} (h : byteL s.r) (lv : Value) : (clD s lv).ok := by
  have b1 : byteL (nU mxU s).r := nU_byte h
  exact ⟨vU_rng h (by unfold mxU; omega), vU_rng b1 (by unfold mxU; omega), vW_is (nU_byte b1)⟩
theorem clS_byte {s : RS} (h : byteL s.r) : byteL (clS s).r := lsN_byte (nW_byte (nU_byte (nU_byte h)))
theorem clS_len (s : RS) : (clS s).r.length ≤ s.r.length :=
  Nat.le_trans (lsN_len _) (Nat.le_trans (nW_len _) (Nat.le_trans (nU_len mxU _) (nU_len mxU _)))
theorem clL_rng {s : RS} (h : byteL s.r) : ∀ x ∈ clL s, -9223372036854775808 ≤ x ∧ x ≤ 9223372036854775807 := lsV_rng (nW_byte (nU_byte (nU_byte h)))
theorem ClD.at34 {x : ClD} (h : x.ok) : x.cells[34]? = some x.v := by
  have b32 := bytesL_len h.2.2
  have : x.cells = ([[Value.int .u64 x.source], [Value.int .u64 x.target], bytesL x.root].flatten) ++ [x.v] := by simp [ClD.cells, ClD.parts]
  rw [this, List.getElem?_append_right (by simp [b32])]
  simp [b32]

/-- A slashing that is read. -/
def SlaR (w : World) (n : Int) (d1 d2 : Value → ClD) (l m : List Int) (en : Ending) (w' : World) : Prop :=
  ∃ lv mv, en = .returned (.tuple #[.agg (flatP [(d1 lv).cells, (d2 mv).cells]), .int .i64 n, .int .i64 0]) ∧ Ints .i64 w' lv l ∧ Ints .i64 w' mv m ∧ Below w.heap.size w w'
end

/-! RcT -/
section
set_option linter.unusedVariables false
open Go.RowKit

theorem tenc_len {l : List Int} (h : ∀ x ∈ l, 0 ≤ x ∧ x ≤ 18446744073709551615) {k : Nat} (hk : k ≤ l.length) (hl : l.length ≤ 1000000000) : (tencK l k).length ≤ 10 + 10 * k := by
  have h1 := uenc_len10 (n := l.length) (by omega)
  have h2 := seqK_len (f := fun i => l.getD i 0) (n := l.length) (fun i hi => (h _ (getD_mem hi)).2) k hk
  rw [tencK, List.length_append]; omega

def TI (w : World) (B : Nat) (p l : List Int) (b i : Value) (wr : World) : Prop :=
  ∃ k : Nat, k ≤ l.length ∧ i = .int .i64 k ∧ Own wr B b (p ++ tencK l k) ∧ Below B w wr

set_option maxRecDepth 100000 in
set_option maxHeartbeats 4000000 in
theorem etab_any (c : CpD) (lv : Value) (l : List Int) (w : World) (hc : c.ok) (hI : NumsV w lv l) (hl : l.length ≤ 1000000000) :
    Calls Try.prog 40 #[.agg (flatP [c.cells, [lv]])] w (EncR w (if 1024 < l.length then 3 else 0) (c.enc ++ tenc l)) := by
  obtain ⟨lva, lvl, lvc, rfl⟩ : ∃ a l c, lv = .slice a l c := by obtain ⟨⟨a, l, c, e, _⟩, _⟩ := hI; exact ⟨a, l, c, e⟩
  obtain ⟨_, _, _, e', hll, _, _⟩ := hI.1
  cases e'
  have h33 := CpD.len hc
  have l2 := CpD.encl hc
  obtain ⟨ps, hps⟩ : ∃ ps, ps = [c.cells, [Value.slice lva lvl lvc]] := ⟨_, rfl⟩
  rw [← hps]
  have o0 : Hid (offP ps 0 = 0) := rfl
  have o1 : Hid (offP ps 1 = 33) := by show _ = _; rw [hps]; simp [offP, h33]
  have q0 : Hid (ps[0]? = some c.cells) := by show _ = _; rw [hps]; rfl
  have q1 : Hid (ps[1]? = some [Value.slice lva lvl lvc]) := by show _ = _; rw [hps]; rfl
  have hX0 : (flatP ps).size = 34 := by rw [flatP_size, hps]; simp [h33]
  clear hps
  obtain ⟨X, HX⟩ : ∃ X, Hid (flatP ps = X) := ⟨_, rfl⟩
  rw [HX.out] at hX0 ⊢
  have B0 : Hid (Blk (w.alloc (.cells X 42)) w.heap.size (flatP ps)) := Blk.to (Blk.new rfl) HX.out.symm
  have hba := (Below.refl w.heap.size w).alloc (Nat.le_refl _) (.cells X 42)
  have HIU := Lib.hid (fun u (hu : Below w.heap.size w u) => hI.below hu)
  have HR := Lib.hid hI.2
  have D3 : Hid (∀ u, Calls Try.prog 67 #[.slice none 0 0, .agg c.cells.toArray] u (AppN u ([] ++ (uenc c.n.toNat ++ c.r)))) := fun u => acheck_own _ [] c.n c.r u (byt_nil u) hc.1 hc.2.1 hc.2.2 (by simp)
  have e0 : [] ++ (uenc c.n.toNat ++ c.r) = c.enc := rfl
  rw [e0] at D3
  have HBY : Hid (∀ x ∈ c.enc ++ tenc l, 0 ≤ x ∧ x ≤ 255) := by
    intro x hx
    simp only [List.mem_append, CpD.enc, tenc, tencK] at hx
    rcases hx with (hx | hx) | hx | hx
    · exact uenc_byte _ x hx
    · exact isb_rng hc.2.2 x hx
    · exact uenc_byte _ x hx
    · exact seqK_byte _ _ x hx
  have HLE : Hid ((c.enc ++ tenc l).length ≤ 140737488355328) := by
    have := tenc_len hI.2 (Nat.le_refl _) hl
    show _ ≤ _
    rw [List.length_append]; unfold tenc; omega
  have HTL := Lib.hid (fun k (hk : k ≤ l.length) => tenc_len hI.2 hk hl)
  have HI33 : Hid ((Try.prog.info? 26).map (·.size) = some c.cells.length) := by show _ = _; rw [h33]; kernel_rfl
  have HBA := Lib.hid hba; clear hba hI hc h33
  have HLL := Lib.hid hll
  have hl2 : lvl ≤ 1000000000 := by omega
  rw [hll]
  clear hll hl e0
  by_cases hbig : 1024 < lvl
  · rw [if_pos hbig]
    go_enter Try.func40, Try.ntmps40
    go_wp2_with ((with_reducible refine at_load (.tmp 7) ?_); refine wpList_load_1 40 (.tmp 7) rfl w.heap.size 33 (.slice lva lvl lvc) (B0.out.cellAt q1.out o1.out) rfl _ Try.underlying40 rfl rfl ?_)
    go_ret2
    exact ⟨_, rfl, by rw [if_neg (by omega)]; exact byt_nil _, HBA.out⟩
  · rw [if_neg hbig]
    go_enter Try.func40, Try.ntmps40
    go_wp2_with (first
      | ((with_reducible refine at_load (.tmp 7) ?_); refine wpList_load_1 40 (.tmp 7) rfl w.heap.size 33 (.slice lva lvl lvc) (B0.out.cellAt q1.out o1.out) rfl _ Try.underlying40 rfl rfl ?_)
      | ((with_reducible refine at_load (.tmp 11) ?_); refine wpList_load_part 26 (.tmp 11) rfl w.heap.size ps 0 0 c.cells B0.out q0.out o0.out rfl _ Try.underlying26 rfl HI33.out rfl ?_)
      | (go_at_call 67; refine (D3.out _).mono ?_; rintro e w3 ⟨v3, rfl, ho3, hb3⟩; have HB3 := Lib.hid (HBA.out.trans (hb3.mono HBA.out.size)); have HO3 := Lib.hid (ho3.mono (C := w.heap.size + 1) (by simp)); clear ho3; have hs3 : w.heap.size + 1 ≤ w3.heap.size := by (have := hb3.size; simpa using this)
         have K3 := Lib.hid (B0.out.call hb3); clear hb3)
      | ((with_reducible refine at_load (.tmp 15) ?_); refine wpList_load_1 40 (.tmp 15) rfl w.heap.size 33 (.slice lva lvl lvc) (K3.out.cellAt q1.out o1.out) rfl _ Try.underlying40 rfl rfl ?_)
      | (go_at_call 72; refine (anum_any _ _ _ _ (w.heap.size + 1) HO3.out hs3 (by omega) (by omega) (by omega)).mono ?_; rintro e w4 ⟨v4, rfl, ho4, hb4, hg4⟩; rw [Int.toNat_natCast] at ho4; have HO4 := Lib.hid ho4; clear ho4; have HB4 := Lib.hid (HB3.out.trans (hb4.mono (by omega))); have K4 := Lib.hid (K3.out.below hb4 (by omega)); have hs4 := Nat.le_trans hs3 hb4.size; clear hb4 hg4)
      | ((with_reducible refine at_load (.tmp 20) ?_); refine wpList_load_1 40 (.tmp 20) rfl w.heap.size 33 (.slice lva lvl lvc) (K4.out.cellAt q1.out o1.out) rfl _ Try.underlying40 rfl rfl ?_))
    go_loopw [4, 23] (fun b i wr => TI w4 (w.heap.size + 1) c.enc l b i wr) (fun _ i _ => lvl - (intOf i).toNat)
    case atStart => exact ⟨0, Nat.zero_le _, rfl, by rw [show tencK l 0 = uenc lvl by rw [tencK, HLL.out]; simp [seqK]]; exact HO4.out, Below.refl _ _⟩
    case round =>
      obtain ⟨k, hk, rfl, ho, hbl⟩ := hrel
      rw [HLL.out] at hk
      have HO := Lib.hid ho; clear ho
      have hsr := Nat.le_trans hs4 hbl.size
      have HBL := Lib.hid hbl; clear hbl
      by_cases hlt : k < lvl
      · obtain ⟨⟨_, _, _, e', _, _, hr⟩, _⟩ := HIU.out wr (HB4.out.trans (HBL.out.mono (by omega)))
        cases e'
        rcases hr with hr | ⟨b, off, rfl, hbb, hcl⟩
        · omega
        have hcell := hcl k hlt
        clear hcl
        have hkl : k < l.length := by rw [HLL.out]; exact hlt
        have hx := HR.out _ (getD_mem hkl)
        have hln := HTL.out k (by omega)
        have D := fun b u h hB => anum_any b (c.enc ++ tencK l k) (l.getD k 0) u (w.heap.size + 1) h hB hx.1 hx.2 (by rw [List.length_append]; omega)
        rw [List.append_assoc, ← tencK_next] at D
        have HKL := Lib.hid hkl; clear hkl
        clear hln
        obtain ⟨x, HX⟩ : ∃ x, Hid (x = l.getD k 0) := ⟨_, rfl⟩
        rw [← HX.out] at D hx hcell
        have HD := Lib.hid D; clear D
        go_wp2_with (go_at_call 72; refine (HD.out _ _ HO.out hsr).mono ?_; rintro e w6 ⟨v6, rfl, ho6, hb6, hg6⟩; have HO6 := Lib.hid ho6; clear ho6; have HB6 := Lib.hid hb6; clear hb6 hg6)
        go_roundw
        case rel => exact ⟨k + 1, by rw [HLL.out]; omega, by go_num, HO6.out, HBL.out.trans HB6.out⟩
        case measure => simp [intOf]; omega
      · obtain rfl : k = lvl := by omega
        go_wp2_with fail
        go_ret2
        refine ⟨_, rfl, ?_, HB4.out.trans (HBL.out.mono (by omega))⟩
        rw [if_pos rfl]
        have := HO.out
        rw [show tencK l k = tenc l by unfold tenc; rw [HLL.out]] at this
        exact this.byt (Nat.le_trans HLE.out (by unfold maxLen; omega)) HBY.out
end

/-! RcU -/
section
set_option linter.unusedVariables false
set_option maxRecDepth 100000
open Go.RowKit

theorem offP_lens' {ps : List (List Value)} {ls : List Nat} (h : ps.map List.length = ls) (k : Nat) : offP ps k = (ls.take k).sum := by
  subst h
  unfold offP
  rw [List.length_flatten, List.map_take]

theorem part_cut {ps : List (List Value)} {k o n : Nat} {p : List Value} (hk : ps[k]? = some p) (ho : offP ps k = o) (hn : p.length = n) : (ps.flatten.drop o).take n = p := by
  rw [flatP_split hk, ← ho, ← hn]
  unfold offP
  rw [List.drop_left, List.take_left]

theorem keyLits_pair {d : Nat} {c e : CpD} (h : c.ok) (k : e.ok) : ∃ ls, Try.prog.keyLits (d + 4) 28 (c.cells ++ e.cells) = some ls := by
  refine keyLits_struct Try.underlying28 (by rw [List.length_append, CpD.len h, CpD.len k]; kernel_rfl) (by kernel_rfl) ?_
  intro f hf
  have hc33 : Try.prog.cellsOf 26 = 33 := by kernel_rfl
  simp only [List.mem_cons, List.not_mem_nil, or_false] at hf
  rcases hf with rfl | rfl
  · show ∃ l, Try.prog.keyLits (d + 3) 26 (((c.cells ++ e.cells).drop 0).take (Try.prog.cellsOf 26)) = some l
    rw [hc33, List.drop_zero, ← CpD.len h, List.take_left]
    exact keyLits_cp h
  · show ∃ l, Try.prog.keyLits (d + 3) 26 (((c.cells ++ e.cells).drop 33).take (Try.prog.cellsOf 26)) = some l
    rw [hc33]
    have : (c.cells ++ e.cells).drop 33 = e.cells := by rw [← CpD.len h, List.drop_left]
    rw [this, ← CpD.len k, List.take_length]
    exact keyLits_cp k

theorem keyLits_wide {d : Nat} (n : Int) : ∃ ls, Try.prog.keyLits (d + 2) 30 (wideL n) = some ls := by
  have hr : ∀ x ∈ [l0 n, l1 n, l2 n, l3 n], (Lit.int .u64 x).wf = true := by
    obtain ⟨p0, p1, p2, p3⟩ := limbs_rng n
    intro x hx
    simp at hx
    rcases hx with rfl | rfl | rfl | rfl <;> exact wf_of_u64 (by assumption)
  exact ⟨_, keyLits_ints Try.underlying30 Try.underlying22 (by kernel_rfl) (by kernel_rfl) d [l0 n, l1 n, l2 n, l3 n] rfl hr⟩

theorem keyLits_blk {x : BkD} (h : x.ok) : ∃ ls, Try.prog.keyLits 5 32 x.parts.flatten = some ls := by
  obtain ⟨h1, h2, hs, h3, h4, h5, _, _, h6, h7⟩ := h
  obtain ⟨ps, hps⟩ : ∃ ps, ps = [x.pj.cells ++ x.pf.cells, [Value.int .u64 x.slot], bytesL x.root, bytesL x.parent, bytesL x.payload, wideL x.d, wideL x.pd, x.j.cells, x.f.cells, [Value.bool x.t]] := ⟨_, rfl⟩
  have hl : ps.map List.length = [66, 1, 32, 32, 32, 4, 4, 33, 33, 1] := by rw [hps]; simp [CpD.len h1, CpD.len h2, bytesL_len h3, bytesL_len h4, bytesL_len h5, wideL, CpD.len h6, CpD.len h7]
  have e : x.parts.flatten = ps.flatten := by rw [hps]; simp [BkD.parts]
  have ho : ∀ k, offP ps k = ([66, 1, 32, 32, 32, 4, 4, 33, 33, 1].take k).sum := fun k => offP_lens' hl k
  have c66 : Try.prog.cellsOf 28 = 66 := by kernel_rfl
  have c1 : Try.prog.cellsOf 22 = 1 := by kernel_rfl
  have c32 : Try.prog.cellsOf 24 = 32 := by kernel_rfl
  have c4 : Try.prog.cellsOf 30 = 4 := by kernel_rfl
  have c33 : Try.prog.cellsOf 26 = 33 := by kernel_rfl
  have cb : Try.prog.cellsOf 4 = 1 := by kernel_rfl
  rw [e]
  refine keyLits_struct Try.underlying32 (by rw [List.length_flatten, hl]; kernel_rfl) (by kernel_rfl) ?_
  intro f hf
  simp only [List.mem_cons, List.not_mem_nil, or_false] at hf
  rcases hf with rfl | rfl | rfl | rfl | rfl | rfl | rfl | rfl | rfl | rfl
  · show ∃ l, Try.prog.keyLits 4 28 ((ps.flatten.drop 0).take (Try.prog.cellsOf 28)) = some l
    rw [c66, part_cut (k := 0) (o := 0) (n := 66) (by rw [hps]; rfl) (ho 0) (by rw [List.length_append, CpD.len h1, CpD.len h2])]
    exact keyLits_pair h1 h2
  · show ∃ l, Try.prog.keyLits 4 22 ((ps.flatten.drop 66).take (Try.prog.cellsOf 22)) = some l
    rw [c1, part_cut (k := 1) (o := 66) (n := 1) (by rw [hps]; rfl) (ho 1) rfl]
    exact keyLits_int Try.underlying22 (wf_of_u64 hs)
  · show ∃ l, Try.prog.keyLits 4 24 ((ps.flatten.drop 67).take (Try.prog.cellsOf 24)) = some l
    rw [c32, part_cut (k := 2) (o := 67) (n := 32) (by rw [hps]; rfl) (ho 2) (bytesL_len h3)]
    exact keyLits_bytes Try.underlying24 (by kernel_rfl) h3
  · show ∃ l, Try.prog.keyLits 4 24 ((ps.flatten.drop 99).take (Try.prog.cellsOf 24)) = some l
    rw [c32, part_cut (k := 3) (o := 99) (n := 32) (by rw [hps]; rfl) (ho 3) (bytesL_len h4)]
    exact keyLits_bytes Try.underlying24 (by kernel_rfl) h4
  · show ∃ l, Try.prog.keyLits 4 24 ((ps.flatten.drop 131).take (Try.prog.cellsOf 24)) = some l
    rw [c32, part_cut (k := 4) (o := 131) (n := 32) (by rw [hps]; rfl) (ho 4) (bytesL_len h5)]
    exact keyLits_bytes Try.underlying24 (by kernel_rfl) h5
  · show ∃ l, Try.prog.keyLits 4 30 ((ps.flatten.drop 163).take (Try.prog.cellsOf 30)) = some l
    rw [c4, part_cut (k := 5) (o := 163) (n := 4) (by rw [hps]; rfl) (ho 5) rfl]
    exact keyLits_wide _
  · show ∃ l, Try.prog.keyLits 4 30 ((ps.flatten.drop 167).take (Try.prog.cellsOf 30)) = some l
    rw [c4, part_cut (k := 6) (o := 167) (n := 4) (by rw [hps]; rfl) (ho 6) rfl]
    exact keyLits_wide _
  · show ∃ l, Try.prog.keyLits 4 26 ((ps.flatten.drop 171).take (Try.prog.cellsOf 26)) = some l
    rw [c33, part_cut (k := 7) (o := 171) (n := 33) (by rw [hps]; rfl) (ho 7) (CpD.len h6)]
    exact keyLits_cp h6
  · show ∃ l, Try.prog.keyLits 4 26 ((ps.flatten.drop 204).take (Try.prog.cellsOf 26)) = some l
    rw [c33, part_cut (k := 8) (o := 204) (n := 33) (by rw [hps]; rfl) (ho 8) (CpD.len h7)]
    exact keyLits_cp h7
  · show ∃ l, Try.prog.keyLits 4 4 ((ps.flatten.drop 237).take (Try.prog.cellsOf 4)) = some l
    rw [cb, part_cut (k := 9) (o := 237) (n := 1) (by rw [hps]; rfl) (ho 9) rfl]
    exact keyLits_bool Try.underlying4
end

/-! HeldM -/
section
set_option linter.unusedVariables false

end

/-! RcW -/
section
set_option linter.unusedVariables false
set_option linter.unusedSimpArgs false
open Go.RowKit

def bytes70 : List Int := 7 :: zeroR ++ (0 :: zeroR ++ [3, 3, 0, 4])
def l349 : List Int := [3, 4, 9]
end

end Go.Proofs.Ytmnojgdfbhdkhaa
