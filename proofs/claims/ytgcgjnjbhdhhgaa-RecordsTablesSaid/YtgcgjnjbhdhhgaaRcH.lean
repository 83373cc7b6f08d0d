/- EncodeBlock and DecodeBlock. -/
import Derived.Test.YtgcgjnjbhdhhgaaRcG
set_option linter.unusedVariables false
set_option linter.unusedSimpArgs false
namespace Go.Proofs.Ytgcgjnjbhdhhgaa
open Go.RowKit

theorem BkD.lens {x : BkD} (h : x.ok) : x.parts.map List.length = [33, 33, 1, 32, 32, 32, 4, 4, 33, 33, 1] := by
  obtain ⟨h1, h2, _, h3, h4, h5, _, _, h6, h7⟩ := h
  simp [BkD.parts, CpD.len h1, CpD.len h2, bytesL_len h3, bytesL_len h4, bytesL_len h5, wideL, CpD.len h6, CpD.len h7]

theorem byt_encs {x : BkD} (h : x.ok) : (∀ y ∈ x.enc, 0 ≤ y ∧ y ≤ 255) ∧ x.enc.length ≤ 400 := by
  obtain ⟨h1, h2, hs, h3, h4, h5, _, _, h6, h7⟩ := h
  have c : ∀ c : CpD, c.ok → ∀ y ∈ c.enc, 0 ≤ y ∧ y ≤ 255 := fun c hc y hy => by
    simp only [CpD.enc, List.mem_append] at hy
    rcases hy with hy | hy
    · exact uenc_byte _ y hy
    · exact isb_rng hc.2.2 y hy
  constructor
  · intro y hy
    simp only [BkD.enc, List.mem_append] at hy
    rcases hy with hy | hy | hy | hy | hy | hy | hy | hy | hy | hy | hy
    · exact uenc_byte _ y hy
    · exact isb_rng h3 y hy
    · exact isb_rng h4 y hy
    · exact isb_rng h5 y hy
    · exact isb_rng (bytesN_is _) y hy
    · exact isb_rng (bytesN_is _) y hy
    · exact c _ h6 y hy
    · exact c _ h7 y hy
    · exact c _ h1 y hy
    · exact c _ h2 y hy
    · rw [List.mem_singleton.1 hy]; split <;> omega
  · have l0 := uenc_len10 (n := x.slot.toNat) (by omega)
    have l1 := CpD.encl h1
    have l2 := CpD.encl h2
    have l6 := CpD.encl h6
    have l7 := CpD.encl h7
    have l3 := h3.1
    have l4 := h4.1
    have l5 := h5.1
    have i1 := (bytesN_is x.d).1
    have i2 := (bytesN_is x.pd).1
    simp only [BkD.enc, List.length_append, List.length_cons, List.length_nil]
    omega

set_option maxRecDepth 100000 in
set_option maxHeartbeats 8000000 in
theorem eblk_any (x : BkD) (w : World) (h : x.ok) : Calls Try.prog 13 #[.agg (flatP x.parts)] w (App w x.enc) := by
  have hlens := BkD.lens h
  obtain ⟨h1, h2, hs, h3, h4, h5, hd, hpd, h6, h7⟩ := h
  have l0 := uenc_len10 (n := x.slot.toNat) (by omega)
  have l1 := CpD.encl h1
  have l2 := CpD.encl h2
  have l6 := CpD.encl h6
  have l7 := CpD.encl h7
  unfold CpD.enc at l1 l2 l6 l7
  have l3 := h3.1
  have l4 := h4.1
  have l5 := h5.1
  have i1 := (bytesN_is x.d).1
  have i2 := (bytesN_is x.pd).1
  obtain ⟨A1, hA1⟩ : ∃ A, ([] : List Int) ++ uenc x.slot.toNat = A := ⟨_, rfl⟩
  have L1 : A1.length ≤ 50 := by rw [← hA1]; simp only [List.length_append, List.length_nil, List.length_cons] at *; omega
  have D1 : Hid (∀ u, Calls Try.prog 37 #[.slice none 0 0, .int .u64 x.slot] u (App u A1)) := fun u => by rw [← hA1]; exact auint_any _ [] x.slot u (byt_nil u) hs.1 hs.2 (by simp)
  obtain ⟨A2, hA2⟩ : ∃ A, A1 ++ x.root = A := ⟨_, rfl⟩
  have L2 : A2.length ≤ 100 := by rw [← hA2]; simp only [List.length_append, List.length_nil, List.length_cons] at *; omega
  have D2 : Hid (∀ v u, Byt u v A1 → Calls Try.prog 38 #[v, .agg (bytesL x.root).toArray] u (App u A2)) := fun v u h => by rw [← hA2]; exact aroot_any v _ x.root u h h3 (by omega)
  obtain ⟨A3, hA3⟩ : ∃ A, A2 ++ x.parent = A := ⟨_, rfl⟩
  have L3 : A3.length ≤ 150 := by rw [← hA3]; simp only [List.length_append, List.length_nil, List.length_cons] at *; omega
  have D3 : Hid (∀ v u, Byt u v A2 → Calls Try.prog 38 #[v, .agg (bytesL x.parent).toArray] u (App u A3)) := fun v u h => by rw [← hA3]; exact aroot_any v _ x.parent u h h4 (by omega)
  obtain ⟨A4, hA4⟩ : ∃ A, A3 ++ x.payload = A := ⟨_, rfl⟩
  have L4 : A4.length ≤ 200 := by rw [← hA4]; simp only [List.length_append, List.length_nil, List.length_cons] at *; omega
  have D4 : Hid (∀ v u, Byt u v A3 → Calls Try.prog 38 #[v, .agg (bytesL x.payload).toArray] u (App u A4)) := fun v u h => by rw [← hA4]; exact aroot_any v _ x.payload u h h5 (by omega)
  obtain ⟨A5, hA5⟩ : ∃ A, A4 ++ bytesN x.d = A := ⟨_, rfl⟩
  have L5 : A5.length ≤ 250 := by rw [← hA5]; simp only [List.length_append, List.length_nil, List.length_cons] at *; omega
  have D5 : Hid (∀ v u, Byt u v A4 → Calls Try.prog 39 #[v, .agg (wideL x.d).toArray] u (App u A5)) := fun v u h => by rw [← hA5]; exact awide_any v _ x.d u h hd (by omega)
  obtain ⟨A6, hA6⟩ : ∃ A, A5 ++ bytesN x.pd = A := ⟨_, rfl⟩
  have L6 : A6.length ≤ 300 := by rw [← hA6]; simp only [List.length_append, List.length_nil, List.length_cons] at *; omega
  have D6 : Hid (∀ v u, Byt u v A5 → Calls Try.prog 39 #[v, .agg (wideL x.pd).toArray] u (App u A6)) := fun v u h => by rw [← hA6]; exact awide_any v _ x.pd u h hpd (by omega)
  obtain ⟨A7, hA7⟩ : ∃ A, A6 ++ (uenc x.j.n.toNat ++ x.j.r) = A := ⟨_, rfl⟩
  have L7 : A7.length ≤ 350 := by rw [← hA7]; simp only [List.length_append, List.length_nil, List.length_cons] at *; omega
  have D7 : Hid (∀ v u, Byt u v A6 → Calls Try.prog 40 #[v, .agg x.j.cells.toArray] u (App u A7)) := fun v u h => by rw [← hA7]; exact acheck_any v _ x.j.n x.j.r u h h6.1 h6.2.1 h6.2.2 (by omega)
  obtain ⟨A8, hA8⟩ : ∃ A, A7 ++ (uenc x.f.n.toNat ++ x.f.r) = A := ⟨_, rfl⟩
  have L8 : A8.length ≤ 400 := by rw [← hA8]; simp only [List.length_append, List.length_nil, List.length_cons] at *; omega
  have D8 : Hid (∀ v u, Byt u v A7 → Calls Try.prog 40 #[v, .agg x.f.cells.toArray] u (App u A8)) := fun v u h => by rw [← hA8]; exact acheck_any v _ x.f.n x.f.r u h h7.1 h7.2.1 h7.2.2 (by omega)
  obtain ⟨A9, hA9⟩ : ∃ A, A8 ++ (uenc x.pj.n.toNat ++ x.pj.r) = A := ⟨_, rfl⟩
  have L9 : A9.length ≤ 450 := by rw [← hA9]; simp only [List.length_append, List.length_nil, List.length_cons] at *; omega
  have D9 : Hid (∀ v u, Byt u v A8 → Calls Try.prog 40 #[v, .agg x.pj.cells.toArray] u (App u A9)) := fun v u h => by rw [← hA9]; exact acheck_any v _ x.pj.n x.pj.r u h h1.1 h1.2.1 h1.2.2 (by omega)
  obtain ⟨A10, hA10⟩ : ∃ A, A9 ++ (uenc x.pf.n.toNat ++ x.pf.r) = A := ⟨_, rfl⟩
  have L10 : A10.length ≤ 500 := by rw [← hA10]; simp only [List.length_append, List.length_nil, List.length_cons] at *; omega
  have D10 : Hid (∀ v u, Byt u v A9 → Calls Try.prog 40 #[v, .agg x.pf.cells.toArray] u (App u A10)) := fun v u h => by rw [← hA10]; exact acheck_any v _ x.pf.n x.pf.r u h h2.1 h2.2.1 h2.2.2 (by omega)
  obtain ⟨A11, hA11⟩ : ∃ A, A10 ++ [if x.t then 1 else 0] = A := ⟨_, rfl⟩
  have L11 : A11.length ≤ 550 := by rw [← hA11]; simp only [List.length_append, List.length_nil, List.length_cons] at *; omega
  have D11 : Hid (∀ v u, Byt u v A10 → Calls Try.prog 41 #[v, .bool x.t] u (App u A11)) := fun v u h => by rw [← hA11]; exact abool_any v _ x.t u h (by omega)
  have HE : Hid (A11 = x.enc) := by
    show _ = _
    rw [← hA11, ← hA10, ← hA9, ← hA8, ← hA7, ← hA6, ← hA5, ← hA4, ← hA3, ← hA2, ← hA1]
    simp [BkD.enc, CpD.enc]
  clear hA1 L1 hA2 L2 hA3 L3 hA4 L4 hA5 L5 hA6 L6 hA7 L7 hA8 L8 hA9 L9 hA10 L10 hA11 L11 l0 l1 l2 l3 l4 l5 l6 l7 i1 i2
  have q0 : Hid (x.parts[0]? = some (x.pj.cells)) := rfl
  have o0 : Hid (offP x.parts 0 = 0) := by show _ = _; rw [offP_lens hlens]; rfl
  have hi0 : Hid ((Try.prog.info? 31).map (·.size) = some (x.pj.cells).length) := by show _ = _; rw [CpD.len h1]; kernel_rfl
  have q1 : Hid (x.parts[1]? = some (x.pf.cells)) := rfl
  have o1 : Hid (offP x.parts 1 = 33) := by show _ = _; rw [offP_lens hlens]; rfl
  have hi1 : Hid ((Try.prog.info? 31).map (·.size) = some (x.pf.cells).length) := by show _ = _; rw [CpD.len h2]; kernel_rfl
  have q2 : Hid (x.parts[2]? = some ([Value.int .u64 x.slot])) := rfl
  have o2 : Hid (offP x.parts 2 = 66) := by show _ = _; rw [offP_lens hlens]; rfl
  have q3 : Hid (x.parts[3]? = some (bytesL x.root)) := rfl
  have o3 : Hid (offP x.parts 3 = 67) := by show _ = _; rw [offP_lens hlens]; rfl
  have hi3 : Hid ((Try.prog.info? 29).map (·.size) = some (bytesL x.root).length) := by show _ = _; rw [bytesL_len h3]; kernel_rfl
  have q4 : Hid (x.parts[4]? = some (bytesL x.parent)) := rfl
  have o4 : Hid (offP x.parts 4 = 99) := by show _ = _; rw [offP_lens hlens]; rfl
  have hi4 : Hid ((Try.prog.info? 29).map (·.size) = some (bytesL x.parent).length) := by show _ = _; rw [bytesL_len h4]; kernel_rfl
  have q5 : Hid (x.parts[5]? = some (bytesL x.payload)) := rfl
  have o5 : Hid (offP x.parts 5 = 131) := by show _ = _; rw [offP_lens hlens]; rfl
  have hi5 : Hid ((Try.prog.info? 29).map (·.size) = some (bytesL x.payload).length) := by show _ = _; rw [bytesL_len h5]; kernel_rfl
  have q6 : Hid (x.parts[6]? = some (wideL x.d)) := rfl
  have o6 : Hid (offP x.parts 6 = 163) := by show _ = _; rw [offP_lens hlens]; rfl
  have hi6 : Hid ((Try.prog.info? 35).map (·.size) = some (wideL x.d).length) := by show _ = _; kernel_rfl
  have q7 : Hid (x.parts[7]? = some (wideL x.pd)) := rfl
  have o7 : Hid (offP x.parts 7 = 167) := by show _ = _; rw [offP_lens hlens]; rfl
  have hi7 : Hid ((Try.prog.info? 35).map (·.size) = some (wideL x.pd).length) := by show _ = _; kernel_rfl
  have q8 : Hid (x.parts[8]? = some (x.j.cells)) := rfl
  have o8 : Hid (offP x.parts 8 = 171) := by show _ = _; rw [offP_lens hlens]; rfl
  have hi8 : Hid ((Try.prog.info? 31).map (·.size) = some (x.j.cells).length) := by show _ = _; rw [CpD.len h6]; kernel_rfl
  have q9 : Hid (x.parts[9]? = some (x.f.cells)) := rfl
  have o9 : Hid (offP x.parts 9 = 204) := by show _ = _; rw [offP_lens hlens]; rfl
  have hi9 : Hid ((Try.prog.info? 31).map (·.size) = some (x.f.cells).length) := by show _ = _; rw [CpD.len h7]; kernel_rfl
  have q10 : Hid (x.parts[10]? = some ([Value.bool x.t])) := rfl
  have o10 : Hid (offP x.parts 10 = 237) := by show _ = _; rw [offP_lens hlens]; rfl
  have hX0 : (flatP x.parts).size = 238 := by rw [flatP_size, List.length_flatten, hlens]; rfl
  obtain ⟨ps, hps⟩ : ∃ ps, x.parts = ps := ⟨_, rfl⟩
  rw [hps] at hX0 q0 o0 q1 o1 q2 o2 q3 o3 q4 o4 q5 o5 q6 o6 q7 o7 q8 o8 q9 o9 q10 o10 ⊢
  clear hps hlens h1 h2 h3 h4 h5 h6 h7 hd hpd hs
  obtain ⟨X, HX⟩ : ∃ X, Hid (flatP ps = X) := ⟨_, rfl⟩
  rw [HX.out] at hX0 ⊢
  have K0 : Hid (Blk (w.alloc (.cells X 37)) w.heap.size (flatP ps)) := Blk.to (Blk.new rfl) HX.out.symm
  have HB0 := Lib.hid ((Below.refl w.heap.size w).alloc (Nat.le_refl _) (.cells X 37))
  go_enter Try.func13, Try.ntmps13
  go_wp2_with (first
    | (go_at_call 41; refine (D11.out _ _ HY10.out).mono ?_; rintro e w11 ⟨v11, rfl, hy11, hb11⟩; obtain ⟨a11, n11, c11, rfl⟩ := hy11.shape; have HY11 := Lib.hid hy11; have K11 := Lib.hid (K10.out.call hb11); have HB11 := Lib.hid (HB10.out.trans (hb11.mono HB10.out.size)); clear hy11 hb11)
    | ((with_reducible refine at_load (.tmp 46) ?_); refine wpList_load_1 4 (.tmp 46) rfl w.heap.size 237 (.bool x.t) (K10.out.cellAt q10.out o10.out) rfl _ Try.underlying4 rfl rfl ?_)
    | (go_at_call 40; refine (D10.out _ _ HY9.out).mono ?_; rintro e w10 ⟨v10, rfl, hy10, hb10⟩; obtain ⟨a10, n10, c10, rfl⟩ := hy10.shape; have HY10 := Lib.hid hy10; have K10 := Lib.hid (K9.out.call hb10); have HB10 := Lib.hid (HB9.out.trans (hb10.mono HB9.out.size)); clear hy10 hb10)
    | ((with_reducible refine at_load (.tmp 42) ?_); refine wpList_load_part 31 (.tmp 42) rfl w.heap.size ps 1 33 (x.pf.cells) K9.out q1.out o1.out rfl _ Try.underlying31 rfl hi1.out rfl ?_)
    | (go_at_call 40; refine (D9.out _ _ HY8.out).mono ?_; rintro e w9 ⟨v9, rfl, hy9, hb9⟩; obtain ⟨a9, n9, c9, rfl⟩ := hy9.shape; have HY9 := Lib.hid hy9; have K9 := Lib.hid (K8.out.call hb9); have HB9 := Lib.hid (HB8.out.trans (hb9.mono HB8.out.size)); clear hy9 hb9)
    | ((with_reducible refine at_load (.tmp 37) ?_); refine wpList_load_part 31 (.tmp 37) rfl w.heap.size ps 0 0 (x.pj.cells) K8.out q0.out o0.out rfl _ Try.underlying31 rfl hi0.out rfl ?_)
    | (go_at_call 40; refine (D8.out _ _ HY7.out).mono ?_; rintro e w8 ⟨v8, rfl, hy8, hb8⟩; obtain ⟨a8, n8, c8, rfl⟩ := hy8.shape; have HY8 := Lib.hid hy8; have K8 := Lib.hid (K7.out.call hb8); have HB8 := Lib.hid (HB7.out.trans (hb8.mono HB7.out.size)); clear hy8 hb8)
    | ((with_reducible refine at_load (.tmp 32) ?_); refine wpList_load_part 31 (.tmp 32) rfl w.heap.size ps 9 204 (x.f.cells) K7.out q9.out o9.out rfl _ Try.underlying31 rfl hi9.out rfl ?_)
    | (go_at_call 40; refine (D7.out _ _ HY6.out).mono ?_; rintro e w7 ⟨v7, rfl, hy7, hb7⟩; obtain ⟨a7, n7, c7, rfl⟩ := hy7.shape; have HY7 := Lib.hid hy7; have K7 := Lib.hid (K6.out.call hb7); have HB7 := Lib.hid (HB6.out.trans (hb7.mono HB6.out.size)); clear hy7 hb7)
    | ((with_reducible refine at_load (.tmp 28) ?_); refine wpList_load_part 31 (.tmp 28) rfl w.heap.size ps 8 171 (x.j.cells) K6.out q8.out o8.out rfl _ Try.underlying31 rfl hi8.out rfl ?_)
    | (go_at_call 39; refine (D6.out _ _ HY5.out).mono ?_; rintro e w6 ⟨v6, rfl, hy6, hb6⟩; obtain ⟨a6, n6, c6, rfl⟩ := hy6.shape; have HY6 := Lib.hid hy6; have K6 := Lib.hid (K5.out.call hb6); have HB6 := Lib.hid (HB5.out.trans (hb6.mono HB5.out.size)); clear hy6 hb6)
    | ((with_reducible refine at_load (.tmp 24) ?_); refine wpList_load_part 35 (.tmp 24) rfl w.heap.size ps 7 167 (wideL x.pd) K5.out q7.out o7.out rfl _ Try.underlying35 rfl hi7.out rfl ?_)
    | (go_at_call 39; refine (D5.out _ _ HY4.out).mono ?_; rintro e w5 ⟨v5, rfl, hy5, hb5⟩; obtain ⟨a5, n5, c5, rfl⟩ := hy5.shape; have HY5 := Lib.hid hy5; have K5 := Lib.hid (K4.out.call hb5); have HB5 := Lib.hid (HB4.out.trans (hb5.mono HB4.out.size)); clear hy5 hb5)
    | ((with_reducible refine at_load (.tmp 20) ?_); refine wpList_load_part 35 (.tmp 20) rfl w.heap.size ps 6 163 (wideL x.d) K4.out q6.out o6.out rfl _ Try.underlying35 rfl hi6.out rfl ?_)
    | (go_at_call 38; refine (D4.out _ _ HY3.out).mono ?_; rintro e w4 ⟨v4, rfl, hy4, hb4⟩; obtain ⟨a4, n4, c4, rfl⟩ := hy4.shape; have HY4 := Lib.hid hy4; have K4 := Lib.hid (K3.out.call hb4); have HB4 := Lib.hid (HB3.out.trans (hb4.mono HB3.out.size)); clear hy4 hb4)
    | ((with_reducible refine at_load (.tmp 16) ?_); refine wpList_load_part 29 (.tmp 16) rfl w.heap.size ps 5 131 (bytesL x.payload) K3.out q5.out o5.out rfl _ Try.underlying29 rfl hi5.out rfl ?_)
    | (go_at_call 38; refine (D3.out _ _ HY2.out).mono ?_; rintro e w3 ⟨v3, rfl, hy3, hb3⟩; obtain ⟨a3, n3, c3, rfl⟩ := hy3.shape; have HY3 := Lib.hid hy3; have K3 := Lib.hid (K2.out.call hb3); have HB3 := Lib.hid (HB2.out.trans (hb3.mono HB2.out.size)); clear hy3 hb3)
    | ((with_reducible refine at_load (.tmp 12) ?_); refine wpList_load_part 29 (.tmp 12) rfl w.heap.size ps 4 99 (bytesL x.parent) K2.out q4.out o4.out rfl _ Try.underlying29 rfl hi4.out rfl ?_)
    | (go_at_call 38; refine (D2.out _ _ HY1.out).mono ?_; rintro e w2 ⟨v2, rfl, hy2, hb2⟩; obtain ⟨a2, n2, c2, rfl⟩ := hy2.shape; have HY2 := Lib.hid hy2; have K2 := Lib.hid (K1.out.call hb2); have HB2 := Lib.hid (HB1.out.trans (hb2.mono HB1.out.size)); clear hy2 hb2)
    | ((with_reducible refine at_load (.tmp 8) ?_); refine wpList_load_part 29 (.tmp 8) rfl w.heap.size ps 3 67 (bytesL x.root) K1.out q3.out o3.out rfl _ Try.underlying29 rfl hi3.out rfl ?_)
    | (go_at_call 37; refine (D1.out _).mono ?_; rintro e w1 ⟨v1, rfl, hy1, hb1⟩; obtain ⟨a1, n1, c1, rfl⟩ := hy1.shape; have HY1 := Lib.hid hy1; have K1 := Lib.hid (K0.out.call hb1); have HB1 := Lib.hid (HB0.out.trans (hb1.mono HB0.out.size)); clear hy1 hb1)
    | ((with_reducible refine at_load (.tmp 4) ?_); refine wpList_load_1 27 (.tmp 4) rfl w.heap.size 66 (.int .u64 x.slot) (K0.out.cellAt q2.out o2.out) rfl _ Try.underlying27 rfl rfl ?_))
  go_ret
  exact ⟨.slice a11 n11 c11, rfl, by rw [← HE.out]; exact HY11.out, HB11.out⟩

end Go.Proofs.Ytgcgjnjbhdhhgaa
