/- The reference's Block. -/
import Derived.Test.YtgcgjnjbhdhhgaaRcH
import Derived.Test.YtgcgjnjbhdhhgaaHeld4
import Derived.Test.YtgcgjnjbhdhhgaaCdG
set_option linter.unusedVariables false
set_option linter.unusedSimpArgs false
namespace Go.Proofs.Ytgcgjnjbhdhhgaa
open Go.RowKit

set_option maxRecDepth 100000 in
set_option maxHeartbeats 16000000 in
theorem rblk_any (x : BkD) (w : World) (h : x.ok) : Calls Try.prog 15 #[.slice none 0 0, .agg (flatP x.parts)] w (App w x.enc) := by
  have hlens := BkD.lens h
  obtain ⟨hby, hbl⟩ := byt_encs h
  obtain ⟨h1, h2, hs, h3, h4, h5, hd, hpd, h6, h7⟩ := h
  have l0 := uenc_len10 (n := x.slot.toNat) (by omega)
  have l1 := CpD.encl h1
  have l2 := CpD.encl h2
  have l6 := CpD.encl h6
  have l7 := CpD.encl h7
  unfold CpD.enc at l1 l2 l6 l7
  have l3 := h3.1
  have l4 := h4.1
  have l5 := h5.1
  have i1 := (bytesN_is x.d).1
  have i2 := (bytesN_is x.pd).1
  obtain ⟨A1, hA1⟩ : ∃ A, ([] : List Int) ++ uenc x.slot.toNat = A := ⟨_, rfl⟩
  have L1 : A1.length ≤ 50 := by rw [← hA1]; simp only [List.length_append, List.length_nil, List.length_cons] at *; omega
  have D1 : Hid (∀ v u B, Own u B v ([] : List Int) → B ≤ u.heap.size → Calls Try.prog 50 #[v, .int .u64 x.slot] u (AppO u B v A1)) := fun v u B h hB => by rw [← hA1]; exact ruint_any v _ x.slot u B h hB hs.1 hs.2 (by simp)
  obtain ⟨A2, hA2⟩ : ∃ A, A1 ++ x.root = A := ⟨_, rfl⟩
  have L2 : A2.length ≤ 100 := by rw [← hA2]; simp only [List.length_append, List.length_nil, List.length_cons] at *; omega
  have D2 : Hid (∀ v u B, Own u B v A1 → B ≤ u.heap.size → Calls Try.prog 49 #[v, .agg (bytesL x.root).toArray] u (AppO u B v A2)) := fun v u B h hB => by rw [← hA2]; exact rroot_any v _ x.root u B h hB h3 (by omega)
  obtain ⟨A3, hA3⟩ : ∃ A, A2 ++ x.parent = A := ⟨_, rfl⟩
  have L3 : A3.length ≤ 150 := by rw [← hA3]; simp only [List.length_append, List.length_nil, List.length_cons] at *; omega
  have D3 : Hid (∀ v u B, Own u B v A2 → B ≤ u.heap.size → Calls Try.prog 49 #[v, .agg (bytesL x.parent).toArray] u (AppO u B v A3)) := fun v u B h hB => by rw [← hA3]; exact rroot_any v _ x.parent u B h hB h4 (by omega)
  obtain ⟨A4, hA4⟩ : ∃ A, A3 ++ x.payload = A := ⟨_, rfl⟩
  have L4 : A4.length ≤ 200 := by rw [← hA4]; simp only [List.length_append, List.length_nil, List.length_cons] at *; omega
  have D4 : Hid (∀ v u B, Own u B v A3 → B ≤ u.heap.size → Calls Try.prog 49 #[v, .agg (bytesL x.payload).toArray] u (AppO u B v A4)) := fun v u B h hB => by rw [← hA4]; exact rroot_any v _ x.payload u B h hB h5 (by omega)
  obtain ⟨A5, hA5⟩ : ∃ A, A4 ++ bytesN x.d = A := ⟨_, rfl⟩
  have L5 : A5.length ≤ 250 := by rw [← hA5]; simp only [List.length_append, List.length_nil, List.length_cons] at *; omega
  have D5 : Hid (∀ v u B, Own u B v A4 → B ≤ u.heap.size → Calls Try.prog 51 #[v, .agg (wideL x.d).toArray] u (AppO u B v A5)) := fun v u B h hB => by rw [← hA5]; exact rwide_any v _ x.d u B h hB hd (by omega)
  obtain ⟨A6, hA6⟩ : ∃ A, A5 ++ bytesN x.pd = A := ⟨_, rfl⟩
  have L6 : A6.length ≤ 300 := by rw [← hA6]; simp only [List.length_append, List.length_nil, List.length_cons] at *; omega
  have D6 : Hid (∀ v u B, Own u B v A5 → B ≤ u.heap.size → Calls Try.prog 51 #[v, .agg (wideL x.pd).toArray] u (AppO u B v A6)) := fun v u B h hB => by rw [← hA6]; exact rwide_any v _ x.pd u B h hB hpd (by omega)
  obtain ⟨A7, hA7⟩ : ∃ A, A6 ++ (uenc x.j.n.toNat ++ x.j.r) = A := ⟨_, rfl⟩
  have L7 : A7.length ≤ 350 := by rw [← hA7]; simp only [List.length_append, List.length_nil, List.length_cons] at *; omega
  have D7 : Hid (∀ v u B, Own u B v A6 → B ≤ u.heap.size → Calls Try.prog 52 #[v, .agg x.j.cells.toArray] u (AppO u B v A7)) := fun v u B h hB => by rw [← hA7]; exact rcheck_any v _ x.j.n x.j.r u B h hB h6.1 h6.2.1 h6.2.2 (by omega)
  obtain ⟨A8, hA8⟩ : ∃ A, A7 ++ (uenc x.f.n.toNat ++ x.f.r) = A := ⟨_, rfl⟩
  have L8 : A8.length ≤ 400 := by rw [← hA8]; simp only [List.length_append, List.length_nil, List.length_cons] at *; omega
  have D8 : Hid (∀ v u B, Own u B v A7 → B ≤ u.heap.size → Calls Try.prog 52 #[v, .agg x.f.cells.toArray] u (AppO u B v A8)) := fun v u B h hB => by rw [← hA8]; exact rcheck_any v _ x.f.n x.f.r u B h hB h7.1 h7.2.1 h7.2.2 (by omega)
  obtain ⟨A9, hA9⟩ : ∃ A, A8 ++ (uenc x.pj.n.toNat ++ x.pj.r) = A := ⟨_, rfl⟩
  have L9 : A9.length ≤ 450 := by rw [← hA9]; simp only [List.length_append, List.length_nil, List.length_cons] at *; omega
  have D9 : Hid (∀ v u B, Own u B v A8 → B ≤ u.heap.size → Calls Try.prog 52 #[v, .agg x.pj.cells.toArray] u (AppO u B v A9)) := fun v u B h hB => by rw [← hA9]; exact rcheck_any v _ x.pj.n x.pj.r u B h hB h1.1 h1.2.1 h1.2.2 (by omega)
  obtain ⟨A10, hA10⟩ : ∃ A, A9 ++ (uenc x.pf.n.toNat ++ x.pf.r) = A := ⟨_, rfl⟩
  have L10 : A10.length ≤ 500 := by rw [← hA10]; simp only [List.length_append, List.length_nil, List.length_cons] at *; omega
  have D10 : Hid (∀ v u B, Own u B v A9 → B ≤ u.heap.size → Calls Try.prog 52 #[v, .agg x.pf.cells.toArray] u (AppO u B v A10)) := fun v u B h hB => by rw [← hA10]; exact rcheck_any v _ x.pf.n x.pf.r u B h hB h2.1 h2.2.1 h2.2.2 (by omega)
  obtain ⟨A11, hA11⟩ : ∃ A, A10 ++ [if x.t then 1 else 0] = A := ⟨_, rfl⟩
  have L11 : A11.length ≤ 550 := by rw [← hA11]; simp only [List.length_append, List.length_nil, List.length_cons] at *; omega
  have D11 : Hid (∀ v u B, Own u B v A10 → B ≤ u.heap.size → Calls Try.prog 53 #[v, .bool x.t] u (AppO u B v A11)) := fun v u B h hB => by rw [← hA11]; exact rbool_any v _ x.t u B h hB (by omega)
  have HE : Hid (A11 = x.enc) := by
    show _ = _
    rw [← hA11, ← hA10, ← hA9, ← hA8, ← hA7, ← hA6, ← hA5, ← hA4, ← hA3, ← hA2, ← hA1]
    simp [BkD.enc, CpD.enc]
  clear hA1 L1 hA2 L2 hA3 L3 hA4 L4 hA5 L5 hA6 L6 hA7 L7 hA8 L8 hA9 L9 hA10 L10 hA11 L11 l0 l1 l2 l3 l4 l5 l6 l7 i1 i2
  have q0 : Hid (x.parts[0]? = some (x.pj.cells)) := rfl
  have o0 : Hid (offP x.parts 0 = 0) := by show _ = _; rw [offP_lens hlens]; rfl
  have hi0 : Hid ((Try.prog.info? 31).map (·.size) = some (x.pj.cells).length) := by show _ = _; rw [CpD.len h1]; kernel_rfl
  have q1 : Hid (x.parts[1]? = some (x.pf.cells)) := rfl
  have o1 : Hid (offP x.parts 1 = 33) := by show _ = _; rw [offP_lens hlens]; rfl
  have hi1 : Hid ((Try.prog.info? 31).map (·.size) = some (x.pf.cells).length) := by show _ = _; rw [CpD.len h2]; kernel_rfl
  have q2 : Hid (x.parts[2]? = some ([Value.int .u64 x.slot])) := rfl
  have o2 : Hid (offP x.parts 2 = 66) := by show _ = _; rw [offP_lens hlens]; rfl
  have q3 : Hid (x.parts[3]? = some (bytesL x.root)) := rfl
  have o3 : Hid (offP x.parts 3 = 67) := by show _ = _; rw [offP_lens hlens]; rfl
  have hi3 : Hid ((Try.prog.info? 29).map (·.size) = some (bytesL x.root).length) := by show _ = _; rw [bytesL_len h3]; kernel_rfl
  have q4 : Hid (x.parts[4]? = some (bytesL x.parent)) := rfl
  have o4 : Hid (offP x.parts 4 = 99) := by show _ = _; rw [offP_lens hlens]; rfl
  have hi4 : Hid ((Try.prog.info? 29).map (·.size) = some (bytesL x.parent).length) := by show _ = _; rw [bytesL_len h4]; kernel_rfl
  have q5 : Hid (x.parts[5]? = some (bytesL x.payload)) := rfl
  have o5 : Hid (offP x.parts 5 = 131) := by show _ = _; rw [offP_lens hlens]; rfl
  have hi5 : Hid ((Try.prog.info? 29).map (·.size) = some (bytesL x.payload).length) := by show _ = _; rw [bytesL_len h5]; kernel_rfl
  have q6 : Hid (x.parts[6]? = some (wideL x.d)) := rfl
  have o6 : Hid (offP x.parts 6 = 163) := by show _ = _; rw [offP_lens hlens]; rfl
  have hi6 : Hid ((Try.prog.info? 35).map (·.size) = some (wideL x.d).length) := by show _ = _; kernel_rfl
  have q7 : Hid (x.parts[7]? = some (wideL x.pd)) := rfl
  have o7 : Hid (offP x.parts 7 = 167) := by show _ = _; rw [offP_lens hlens]; rfl
  have hi7 : Hid ((Try.prog.info? 35).map (·.size) = some (wideL x.pd).length) := by show _ = _; kernel_rfl
  have q8 : Hid (x.parts[8]? = some (x.j.cells)) := rfl
  have o8 : Hid (offP x.parts 8 = 171) := by show _ = _; rw [offP_lens hlens]; rfl
  have hi8 : Hid ((Try.prog.info? 31).map (·.size) = some (x.j.cells).length) := by show _ = _; rw [CpD.len h6]; kernel_rfl
  have q9 : Hid (x.parts[9]? = some (x.f.cells)) := rfl
  have o9 : Hid (offP x.parts 9 = 204) := by show _ = _; rw [offP_lens hlens]; rfl
  have hi9 : Hid ((Try.prog.info? 31).map (·.size) = some (x.f.cells).length) := by show _ = _; rw [CpD.len h7]; kernel_rfl
  have q10 : Hid (x.parts[10]? = some ([Value.bool x.t])) := rfl
  have o10 : Hid (offP x.parts 10 = 237) := by show _ = _; rw [offP_lens hlens]; rfl
  have HBY := Lib.hid hby; clear hby
  have HBLn := Lib.hid hbl; clear hbl
  have hX0 : (flatP x.parts).size = 238 := by rw [flatP_size, List.length_flatten, hlens]; rfl
  obtain ⟨ps, hps⟩ : ∃ ps, x.parts = ps := ⟨_, rfl⟩
  rw [hps] at hX0 q0 o0 q1 o1 q2 o2 q3 o3 q4 o4 q5 o5 q6 o6 q7 o7 q8 o8 q9 o9 q10 o10 ⊢
  clear hps hlens h1 h2 h3 h4 h5 h6 h7 hd hpd hs
  have P0 : Hid (∀ u, Blk u w.heap.size (flatP ps) → u.rangeAt w.heap.size 0 (x.pj.cells)) := fun u hu => by have := hu.part q0.out; rwa [o0.out] at this
  have P1 : Hid (∀ u, Blk u w.heap.size (flatP ps) → u.rangeAt w.heap.size 33 (x.pf.cells)) := fun u hu => by have := hu.part q1.out; rwa [o1.out] at this
  have P2 : Hid (∀ u, Blk u w.heap.size (flatP ps) → u.cell? ⟨w.heap.size, 66, none⟩ = some (.int .u64 x.slot)) := fun u hu => hu.cellAt q2.out o2.out
  have P3 : Hid (∀ u, Blk u w.heap.size (flatP ps) → u.rangeAt w.heap.size 67 (bytesL x.root)) := fun u hu => by have := hu.part q3.out; rwa [o3.out] at this
  have P4 : Hid (∀ u, Blk u w.heap.size (flatP ps) → u.rangeAt w.heap.size 99 (bytesL x.parent)) := fun u hu => by have := hu.part q4.out; rwa [o4.out] at this
  have P5 : Hid (∀ u, Blk u w.heap.size (flatP ps) → u.rangeAt w.heap.size 131 (bytesL x.payload)) := fun u hu => by have := hu.part q5.out; rwa [o5.out] at this
  have P6 : Hid (∀ u, Blk u w.heap.size (flatP ps) → u.rangeAt w.heap.size 163 (wideL x.d)) := fun u hu => by have := hu.part q6.out; rwa [o6.out] at this
  have P7 : Hid (∀ u, Blk u w.heap.size (flatP ps) → u.rangeAt w.heap.size 167 (wideL x.pd)) := fun u hu => by have := hu.part q7.out; rwa [o7.out] at this
  have P8 : Hid (∀ u, Blk u w.heap.size (flatP ps) → u.rangeAt w.heap.size 171 (x.j.cells)) := fun u hu => by have := hu.part q8.out; rwa [o8.out] at this
  have P9 : Hid (∀ u, Blk u w.heap.size (flatP ps) → u.rangeAt w.heap.size 204 (x.f.cells)) := fun u hu => by have := hu.part q9.out; rwa [o9.out] at this
  have P10 : Hid (∀ u, Blk u w.heap.size (flatP ps) → u.cell? ⟨w.heap.size, 237, none⟩ = some (.bool x.t)) := fun u hu => hu.cellAt q10.out o10.out
  obtain ⟨X, HX⟩ : ∃ X, Hid (flatP ps = X) := ⟨_, rfl⟩
  rw [HX.out] at hX0 ⊢
  have K0 : Blk (w.alloc (.cells X 37)) w.heap.size (flatP ps) := Blk.to (Blk.new rfl) HX.out.symm
  have HB0 := (Below.refl w.heap.size w).alloc (Nat.le_refl _) (.cells X 37)
  have hsz0 : w.heap.size + 1 ≤ (w.alloc (.cells X 37)).heap.size := by simp
  have HK0 := Lib.hid K0; clear K0
  have HHB0 := Lib.hid HB0; clear HB0
  go_enter Try.func15, Try.ntmps15
  go_wp2_with fail
  refine wp_region_held_drew (S := fun u' => Blk u' w.heap.size (flatP ps)) (by kernel_rfl) (HK0.out) (fun _ => ?_)
  (try simp only [Act.put, List.setIfInBounds_toArray, List.set_cons_zero, List.set_cons_succ])
  obtain ⟨y0, hy0⟩ : ∃ y, (w.alloc (.cells X 37)).drew = y := ⟨_, rfl⟩
  have Ky0 : Blk y0 w.heap.size (flatP ps) := by rw [← hy0]; exact HK0.out
  have By0 : Below w.heap.size w y0 := by rw [← hy0]; exact Below.drewN (n := 1) HHB0.out
  have Zy0 : w.heap.size + 1 ≤ y0.heap.size := by rw [← hy0]; exact hsz0
  have Oy0 : Own y0 (w.heap.size + 1) (.slice none 0 0) [] := Own.nil _ _
  rw [hy0]
  clear hy0
  refine wpAnyH_take (i := 0) (oi := ⟨some 5, _, _, _, _, _⟩) (v := .slice none 0 0) rfl (by kernel_rfl) (by kernel_rfl) (by kernel_rfl) (fun _ _ _ h => h) (Or.inl ⟨by rfl, fun wz hz => ?_⟩) Ky0 ?_
  · clear hz; go_simp; first | done | with_reducible rfl | rfl
  (try simp only [Act.put, List.setIfInBounds_toArray, List.set_cons_zero, List.set_cons_succ])
  refine wpAnyH_take (i := 1) (oi := ⟨some 6, _, _, _, _, _⟩) (v := .pointer (some ⟨w.heap.size, 66, none⟩)) rfl (by kernel_rfl) (by kernel_rfl) (by kernel_rfl) (fun _ _ _ h => h) (Or.inl ⟨by rfl, fun wz hz => ?_⟩) Ky0 ?_
  · clear hz; go_simp; first | done | with_reducible rfl | rfl
  (try simp only [Act.put, List.setIfInBounds_toArray, List.set_cons_zero, List.set_cons_succ])
  refine held_load1 2 rfl (by kernel_rfl) (by kernel_rfl) (by kernel_rfl) (fun _ _ _ _ h => h) rfl 27 (.tmp 6) rfl w.heap.size 66 rfl (.int .u64 x.slot) _ (fun u' hu => P2.out u' hu) Try.underlying27 rfl Ky0 ?_
  (try simp only [Act.put, List.setIfInBounds_toArray, List.set_cons_zero, List.set_cons_succ])
  refine wpAnyH_take (i := 4) (oi := ⟨some 9, _, _, _, _, _⟩) (v := .pointer (some ⟨w.heap.size, 67, none⟩)) rfl (by kernel_rfl) (by kernel_rfl) (by kernel_rfl) (fun _ _ _ h => h) (Or.inl ⟨by rfl, fun wz hz => ?_⟩) Ky0 ?_
  · clear hz; go_simp; first | done | with_reducible rfl | rfl
  (try simp only [Act.put, List.setIfInBounds_toArray, List.set_cons_zero, List.set_cons_succ])
  refine held_load 5 rfl (by kernel_rfl) (by kernel_rfl) (by kernel_rfl) (fun _ _ _ _ h => h) rfl 29 (.tmp 9) rfl w.heap.size 67 rfl (bytesL x.root) _ (fun u' hu => P3.out u' hu) Try.underlying29 rfl (hi3.out) Ky0 ?_
  (try simp only [Act.put, List.setIfInBounds_toArray, List.set_cons_zero, List.set_cons_succ])
  refine wpAnyH_take (i := 7) (oi := ⟨some 12, _, _, _, _, _⟩) (v := .pointer (some ⟨w.heap.size, 99, none⟩)) rfl (by kernel_rfl) (by kernel_rfl) (by kernel_rfl) (fun _ _ _ h => h) (Or.inl ⟨by rfl, fun wz hz => ?_⟩) Ky0 ?_
  · clear hz; go_simp; first | done | with_reducible rfl | rfl
  (try simp only [Act.put, List.setIfInBounds_toArray, List.set_cons_zero, List.set_cons_succ])
  refine held_load 8 rfl (by kernel_rfl) (by kernel_rfl) (by kernel_rfl) (fun _ _ _ _ h => h) rfl 29 (.tmp 12) rfl w.heap.size 99 rfl (bytesL x.parent) _ (fun u' hu => P4.out u' hu) Try.underlying29 rfl (hi4.out) Ky0 ?_
  (try simp only [Act.put, List.setIfInBounds_toArray, List.set_cons_zero, List.set_cons_succ])
  refine wpAnyH_take (i := 10) (oi := ⟨some 15, _, _, _, _, _⟩) (v := .pointer (some ⟨w.heap.size, 131, none⟩)) rfl (by kernel_rfl) (by kernel_rfl) (by kernel_rfl) (fun _ _ _ h => h) (Or.inl ⟨by rfl, fun wz hz => ?_⟩) Ky0 ?_
  · clear hz; go_simp; first | done | with_reducible rfl | rfl
  (try simp only [Act.put, List.setIfInBounds_toArray, List.set_cons_zero, List.set_cons_succ])
  refine held_load 11 rfl (by kernel_rfl) (by kernel_rfl) (by kernel_rfl) (fun _ _ _ _ h => h) rfl 29 (.tmp 15) rfl w.heap.size 131 rfl (bytesL x.payload) _ (fun u' hu => P5.out u' hu) Try.underlying29 rfl (hi5.out) Ky0 ?_
  (try simp only [Act.put, List.setIfInBounds_toArray, List.set_cons_zero, List.set_cons_succ])
  refine wpAnyH_ready (rs := [3]) (by kernel_rfl) (by simp) ?_
  refine AllReadyH.cons rfl (fun K hK => ?_) AllReadyH.nil
  go_simp
  refine (D1.out _ _ _ Oy0 Zy0).mono ?_
  rintro e u1 ⟨v1, rfl, O1, t1, _⟩
  have K1 := Ky0.below t1 (by omega)
  have B1 := By0.trans (t1.mono (by omega))
  have Z1 := Nat.le_trans Zy0 t1.size
  refine hK.out _ _ (K1) (fun _ => ?_)
  clear hK K
  (try simp only [Act.put, List.setIfInBounds_toArray, List.set_cons_zero, List.set_cons_succ])
  refine wpAnyH_ready (rs := [6]) (by kernel_rfl) (by simp) ?_
  refine AllReadyH.cons rfl (fun K hK => ?_) AllReadyH.nil
  go_simp
  refine (D2.out _ _ _ O1 Z1).mono ?_
  rintro e u2 ⟨v2, rfl, O2, t2, _⟩
  have K2 := K1.below t2 (by omega)
  have B2 := B1.trans (t2.mono (by omega))
  have Z2 := Nat.le_trans Z1 t2.size
  refine hK.out _ _ (K2) (fun _ => ?_)
  clear hK K
  (try simp only [Act.put, List.setIfInBounds_toArray, List.set_cons_zero, List.set_cons_succ])
  refine wpAnyH_ready (rs := [9]) (by kernel_rfl) (by simp) ?_
  refine AllReadyH.cons rfl (fun K hK => ?_) AllReadyH.nil
  go_simp
  refine (D3.out _ _ _ O2 Z2).mono ?_
  rintro e u3 ⟨v3, rfl, O3, t3, _⟩
  have K3 := K2.below t3 (by omega)
  have B3 := B2.trans (t3.mono (by omega))
  have Z3 := Nat.le_trans Z2 t3.size
  refine hK.out _ _ (K3) (fun _ => ?_)
  clear hK K
  (try simp only [Act.put, List.setIfInBounds_toArray, List.set_cons_zero, List.set_cons_succ])
  refine wpAnyH_ready (rs := [12]) (by kernel_rfl) (by simp) ?_
  refine AllReadyH.cons rfl (fun K hK => ?_) AllReadyH.nil
  go_simp
  refine (D4.out _ _ _ O3 Z3).mono ?_
  rintro e u4 ⟨v4, rfl, O4, t4, _⟩
  have K4 := K3.below t4 (by omega)
  have B4 := B3.trans (t4.mono (by omega))
  have Z4 := Nat.le_trans Z3 t4.size
  refine hK.out _ _ (K4) (fun _ => ?_)
  clear hK K
  (try simp only [Act.put, List.setIfInBounds_toArray, List.set_cons_zero, List.set_cons_succ])
  refine wpAnyH_ready (rs := [13]) (by kernel_rfl) (by simp) ?_
  refine AllReadyH.cons rfl (fun K hK => ?_) AllReadyH.nil
  go_simp
  refine hK.out _ _ (K4) (fun _ => ?_)
  clear hK K
  (try simp only [Act.put, List.setIfInBounds_toArray, List.set_cons_zero, List.set_cons_succ])
  refine wpAnyH_done (by kernel_rfl) ?_ _
  clear Ky0 By0 Oy0
  have HK4 := Lib.hid K4; have HHB4 := Lib.hid B4; have HO4 := Lib.hid O4
  clear K1 B1 O1 t1 K2 B2 O2 t2 K3 B3 O3 t3 K4 B4 O4 t4
  go_wp2_with fail
  refine wp_region_held_drew (S := fun u' => Blk u' w.heap.size (flatP ps)) (by kernel_rfl) (HK4.out) (fun _ => ?_)
  (try simp only [Act.put, List.setIfInBounds_toArray, List.set_cons_zero, List.set_cons_succ])
  obtain ⟨y1, hy1⟩ : ∃ y, (u4).drew = y := ⟨_, rfl⟩
  have Ky1 : Blk y1 w.heap.size (flatP ps) := by rw [← hy1]; exact HK4.out
  have By1 : Below w.heap.size w y1 := by rw [← hy1]; exact Below.drewN (n := 1) HHB4.out
  have Zy1 : w.heap.size + 1 ≤ y1.heap.size := by rw [← hy1]; exact Z4
  have Oy1 : Own y1 (w.heap.size + 1) (v4) A4 := by rw [← hy1]; exact HO4.out
  rw [hy1]
  clear hy1
  refine wpAnyH_take (i := 0) (oi := ⟨some 18, _, _, _, _, _⟩) (v := v4) rfl (by kernel_rfl) (by kernel_rfl) (by kernel_rfl) (fun _ _ _ h => h) (Or.inl ⟨by rfl, fun wz hz => ?_⟩) Ky1 ?_
  · clear hz; go_simp; first | done | with_reducible rfl | rfl
  (try simp only [Act.put, List.setIfInBounds_toArray, List.set_cons_zero, List.set_cons_succ])
  refine wpAnyH_take (i := 1) (oi := ⟨some 19, _, _, _, _, _⟩) (v := .pointer (some ⟨w.heap.size, 163, none⟩)) rfl (by kernel_rfl) (by kernel_rfl) (by kernel_rfl) (fun _ _ _ h => h) (Or.inl ⟨by rfl, fun wz hz => ?_⟩) Ky1 ?_
  · clear hz; go_simp; first | done | with_reducible rfl | rfl
  (try simp only [Act.put, List.setIfInBounds_toArray, List.set_cons_zero, List.set_cons_succ])
  refine held_load 2 rfl (by kernel_rfl) (by kernel_rfl) (by kernel_rfl) (fun _ _ _ _ h => h) rfl 35 (.tmp 19) rfl w.heap.size 163 rfl (wideL x.d) _ (fun u' hu => P6.out u' hu) Try.underlying35 rfl (hi6.out) Ky1 ?_
  (try simp only [Act.put, List.setIfInBounds_toArray, List.set_cons_zero, List.set_cons_succ])
  refine wpAnyH_take (i := 4) (oi := ⟨some 22, _, _, _, _, _⟩) (v := .pointer (some ⟨w.heap.size, 167, none⟩)) rfl (by kernel_rfl) (by kernel_rfl) (by kernel_rfl) (fun _ _ _ h => h) (Or.inl ⟨by rfl, fun wz hz => ?_⟩) Ky1 ?_
  · clear hz; go_simp; first | done | with_reducible rfl | rfl
  (try simp only [Act.put, List.setIfInBounds_toArray, List.set_cons_zero, List.set_cons_succ])
  refine held_load 5 rfl (by kernel_rfl) (by kernel_rfl) (by kernel_rfl) (fun _ _ _ _ h => h) rfl 35 (.tmp 22) rfl w.heap.size 167 rfl (wideL x.pd) _ (fun u' hu => P7.out u' hu) Try.underlying35 rfl (hi7.out) Ky1 ?_
  (try simp only [Act.put, List.setIfInBounds_toArray, List.set_cons_zero, List.set_cons_succ])
  refine wpAnyH_ready (rs := [3]) (by kernel_rfl) (by simp) ?_
  refine AllReadyH.cons rfl (fun K hK => ?_) AllReadyH.nil
  go_simp
  refine (D5.out _ _ _ Oy1 Zy1).mono ?_
  rintro e u5 ⟨v5, rfl, O5, t5, _⟩
  have K5 := Ky1.below t5 (by omega)
  have B5 := By1.trans (t5.mono (by omega))
  have Z5 := Nat.le_trans Zy1 t5.size
  refine hK.out _ _ (K5) (fun _ => ?_)
  clear hK K
  (try simp only [Act.put, List.setIfInBounds_toArray, List.set_cons_zero, List.set_cons_succ])
  refine wpAnyH_ready (rs := [6]) (by kernel_rfl) (by simp) ?_
  refine AllReadyH.cons rfl (fun K hK => ?_) AllReadyH.nil
  go_simp
  refine (D6.out _ _ _ O5 Z5).mono ?_
  rintro e u6 ⟨v6, rfl, O6, t6, _⟩
  have K6 := K5.below t6 (by omega)
  have B6 := B5.trans (t6.mono (by omega))
  have Z6 := Nat.le_trans Z5 t6.size
  refine hK.out _ _ (K6) (fun _ => ?_)
  clear hK K
  (try simp only [Act.put, List.setIfInBounds_toArray, List.set_cons_zero, List.set_cons_succ])
  refine wpAnyH_ready (rs := [7]) (by kernel_rfl) (by simp) ?_
  refine AllReadyH.cons rfl (fun K hK => ?_) AllReadyH.nil
  go_simp
  refine hK.out _ _ (K6) (fun _ => ?_)
  clear hK K
  (try simp only [Act.put, List.setIfInBounds_toArray, List.set_cons_zero, List.set_cons_succ])
  refine wpAnyH_done (by kernel_rfl) ?_ _
  clear Ky1 By1 Oy1
  have HK6 := Lib.hid K6; have HHB6 := Lib.hid B6; have HO6 := Lib.hid O6
  clear K5 B5 O5 t5 K6 B6 O6 t6
  go_wp2_with fail
  refine wp_region_held_drew (S := fun u' => Blk u' w.heap.size (flatP ps)) (by kernel_rfl) (HK6.out) (fun _ => ?_)
  (try simp only [Act.put, List.setIfInBounds_toArray, List.set_cons_zero, List.set_cons_succ])
  obtain ⟨y2, hy2⟩ : ∃ y, (u6).drew = y := ⟨_, rfl⟩
  have Ky2 : Blk y2 w.heap.size (flatP ps) := by rw [← hy2]; exact HK6.out
  have By2 : Below w.heap.size w y2 := by rw [← hy2]; exact Below.drewN (n := 1) HHB6.out
  have Zy2 : w.heap.size + 1 ≤ y2.heap.size := by rw [← hy2]; exact Z6
  have Oy2 : Own y2 (w.heap.size + 1) (v6) A6 := by rw [← hy2]; exact HO6.out
  rw [hy2]
  clear hy2
  refine wpAnyH_take (i := 0) (oi := ⟨some 25, _, _, _, _, _⟩) (v := v6) rfl (by kernel_rfl) (by kernel_rfl) (by kernel_rfl) (fun _ _ _ h => h) (Or.inl ⟨by rfl, fun wz hz => ?_⟩) Ky2 ?_
  · clear hz; go_simp; first | done | with_reducible rfl | rfl
  (try simp only [Act.put, List.setIfInBounds_toArray, List.set_cons_zero, List.set_cons_succ])
  refine wpAnyH_take (i := 1) (oi := ⟨some 26, _, _, _, _, _⟩) (v := .pointer (some ⟨w.heap.size, 171, none⟩)) rfl (by kernel_rfl) (by kernel_rfl) (by kernel_rfl) (fun _ _ _ h => h) (Or.inl ⟨by rfl, fun wz hz => ?_⟩) Ky2 ?_
  · clear hz; go_simp; first | done | with_reducible rfl | rfl
  (try simp only [Act.put, List.setIfInBounds_toArray, List.set_cons_zero, List.set_cons_succ])
  refine held_load 2 rfl (by kernel_rfl) (by kernel_rfl) (by kernel_rfl) (fun _ _ _ _ h => h) rfl 31 (.tmp 26) rfl w.heap.size 171 rfl (x.j.cells) _ (fun u' hu => P8.out u' hu) Try.underlying31 rfl (hi8.out) Ky2 ?_
  (try simp only [Act.put, List.setIfInBounds_toArray, List.set_cons_zero, List.set_cons_succ])
  refine wpAnyH_take (i := 4) (oi := ⟨some 29, _, _, _, _, _⟩) (v := .pointer (some ⟨w.heap.size, 204, none⟩)) rfl (by kernel_rfl) (by kernel_rfl) (by kernel_rfl) (fun _ _ _ h => h) (Or.inl ⟨by rfl, fun wz hz => ?_⟩) Ky2 ?_
  · clear hz; go_simp; first | done | with_reducible rfl | rfl
  (try simp only [Act.put, List.setIfInBounds_toArray, List.set_cons_zero, List.set_cons_succ])
  refine held_load 5 rfl (by kernel_rfl) (by kernel_rfl) (by kernel_rfl) (fun _ _ _ _ h => h) rfl 31 (.tmp 29) rfl w.heap.size 204 rfl (x.f.cells) _ (fun u' hu => P9.out u' hu) Try.underlying31 rfl (hi9.out) Ky2 ?_
  (try simp only [Act.put, List.setIfInBounds_toArray, List.set_cons_zero, List.set_cons_succ])
  refine wpAnyH_ready (rs := [3]) (by kernel_rfl) (by simp) ?_
  refine AllReadyH.cons rfl (fun K hK => ?_) AllReadyH.nil
  go_simp
  refine (D7.out _ _ _ Oy2 Zy2).mono ?_
  rintro e u7 ⟨v7, rfl, O7, t7, _⟩
  have K7 := Ky2.below t7 (by omega)
  have B7 := By2.trans (t7.mono (by omega))
  have Z7 := Nat.le_trans Zy2 t7.size
  refine hK.out _ _ (K7) (fun _ => ?_)
  clear hK K
  (try simp only [Act.put, List.setIfInBounds_toArray, List.set_cons_zero, List.set_cons_succ])
  refine wpAnyH_ready (rs := [6]) (by kernel_rfl) (by simp) ?_
  refine AllReadyH.cons rfl (fun K hK => ?_) AllReadyH.nil
  go_simp
  refine (D8.out _ _ _ O7 Z7).mono ?_
  rintro e u8 ⟨v8, rfl, O8, t8, _⟩
  have K8 := K7.below t8 (by omega)
  have B8 := B7.trans (t8.mono (by omega))
  have Z8 := Nat.le_trans Z7 t8.size
  refine hK.out _ _ (K8) (fun _ => ?_)
  clear hK K
  (try simp only [Act.put, List.setIfInBounds_toArray, List.set_cons_zero, List.set_cons_succ])
  refine wpAnyH_ready (rs := [7]) (by kernel_rfl) (by simp) ?_
  refine AllReadyH.cons rfl (fun K hK => ?_) AllReadyH.nil
  go_simp
  refine hK.out _ _ (K8) (fun _ => ?_)
  clear hK K
  (try simp only [Act.put, List.setIfInBounds_toArray, List.set_cons_zero, List.set_cons_succ])
  refine wpAnyH_done (by kernel_rfl) ?_ _
  clear Ky2 By2 Oy2
  have HK8 := Lib.hid K8; have HHB8 := Lib.hid B8; have HO8 := Lib.hid O8
  clear K7 B7 O7 t7 K8 B8 O8 t8
  go_wp2_with fail
  refine wp_region_held_drew (S := fun u' => Blk u' w.heap.size (flatP ps)) (by kernel_rfl) (HK8.out) (fun _ => ?_)
  (try simp only [Act.put, List.setIfInBounds_toArray, List.set_cons_zero, List.set_cons_succ])
  obtain ⟨y3, hy3⟩ : ∃ y, (u8).drew = y := ⟨_, rfl⟩
  have Ky3 : Blk y3 w.heap.size (flatP ps) := by rw [← hy3]; exact HK8.out
  have By3 : Below w.heap.size w y3 := by rw [← hy3]; exact Below.drewN (n := 1) HHB8.out
  have Zy3 : w.heap.size + 1 ≤ y3.heap.size := by rw [← hy3]; exact Z8
  have Oy3 : Own y3 (w.heap.size + 1) (v8) A8 := by rw [← hy3]; exact HO8.out
  rw [hy3]
  clear hy3
  refine wpAnyH_take (i := 0) (oi := ⟨some 32, _, _, _, _, _⟩) (v := v8) rfl (by kernel_rfl) (by kernel_rfl) (by kernel_rfl) (fun _ _ _ h => h) (Or.inl ⟨by rfl, fun wz hz => ?_⟩) Ky3 ?_
  · clear hz; go_simp; first | done | with_reducible rfl | rfl
  (try simp only [Act.put, List.setIfInBounds_toArray, List.set_cons_zero, List.set_cons_succ])
  refine wpAnyH_take (i := 1) (oi := ⟨some 33, _, _, _, _, _⟩) (v := .pointer (some ⟨w.heap.size, 0, none⟩)) rfl (by kernel_rfl) (by kernel_rfl) (by kernel_rfl) (fun _ _ _ h => h) (Or.inl ⟨by rfl, fun wz hz => ?_⟩) Ky3 ?_
  · clear hz; go_simp; first | done | with_reducible rfl | rfl
  (try simp only [Act.put, List.setIfInBounds_toArray, List.set_cons_zero, List.set_cons_succ])
  refine wpAnyH_take (i := 2) (oi := ⟨some 34, _, _, _, _, _⟩) (v := .pointer (some ⟨w.heap.size, 0, none⟩)) rfl (by kernel_rfl) (by kernel_rfl) (by kernel_rfl) (fun _ _ _ h => h) (Or.inl ⟨by rfl, fun wz hz => ?_⟩) Ky3 ?_
  · clear hz; go_simp; first | done | with_reducible rfl | rfl
  (try simp only [Act.put, List.setIfInBounds_toArray, List.set_cons_zero, List.set_cons_succ])
  refine held_load 3 rfl (by kernel_rfl) (by kernel_rfl) (by kernel_rfl) (fun _ _ _ _ h => h) rfl 31 (.tmp 34) rfl w.heap.size 0 rfl (x.pj.cells) _ (fun u' hu => P0.out u' hu) Try.underlying31 rfl (hi0.out) Ky3 ?_
  (try simp only [Act.put, List.setIfInBounds_toArray, List.set_cons_zero, List.set_cons_succ])
  refine wpAnyH_take (i := 5) (oi := ⟨some 37, _, _, _, _, _⟩) (v := .pointer (some ⟨w.heap.size, 0, none⟩)) rfl (by kernel_rfl) (by kernel_rfl) (by kernel_rfl) (fun _ _ _ h => h) (Or.inl ⟨by rfl, fun wz hz => ?_⟩) Ky3 ?_
  · clear hz; go_simp; first | done | with_reducible rfl | rfl
  (try simp only [Act.put, List.setIfInBounds_toArray, List.set_cons_zero, List.set_cons_succ])
  refine wpAnyH_take (i := 6) (oi := ⟨some 38, _, _, _, _, _⟩) (v := .pointer (some ⟨w.heap.size, 33, none⟩)) rfl (by kernel_rfl) (by kernel_rfl) (by kernel_rfl) (fun _ _ _ h => h) (Or.inl ⟨by rfl, fun wz hz => ?_⟩) Ky3 ?_
  · clear hz; go_simp; first | done | with_reducible rfl | rfl
  (try simp only [Act.put, List.setIfInBounds_toArray, List.set_cons_zero, List.set_cons_succ])
  refine held_load 7 rfl (by kernel_rfl) (by kernel_rfl) (by kernel_rfl) (fun _ _ _ _ h => h) rfl 31 (.tmp 38) rfl w.heap.size 33 rfl (x.pf.cells) _ (fun u' hu => P1.out u' hu) Try.underlying31 rfl (hi1.out) Ky3 ?_
  (try simp only [Act.put, List.setIfInBounds_toArray, List.set_cons_zero, List.set_cons_succ])
  refine wpAnyH_take (i := 9) (oi := ⟨some 41, _, _, _, _, _⟩) (v := .pointer (some ⟨w.heap.size, 237, none⟩)) rfl (by kernel_rfl) (by kernel_rfl) (by kernel_rfl) (fun _ _ _ h => h) (Or.inl ⟨by rfl, fun wz hz => ?_⟩) Ky3 ?_
  · clear hz; go_simp; first | done | with_reducible rfl | rfl
  (try simp only [Act.put, List.setIfInBounds_toArray, List.set_cons_zero, List.set_cons_succ])
  refine held_load1 10 rfl (by kernel_rfl) (by kernel_rfl) (by kernel_rfl) (fun _ _ _ _ h => h) rfl 4 (.tmp 41) rfl w.heap.size 237 rfl (.bool x.t) _ (fun u' hu => P10.out u' hu) Try.underlying4 rfl Ky3 ?_
  (try simp only [Act.put, List.setIfInBounds_toArray, List.set_cons_zero, List.set_cons_succ])
  refine wpAnyH_ready (rs := [4]) (by kernel_rfl) (by simp) ?_
  refine AllReadyH.cons rfl (fun K hK => ?_) AllReadyH.nil
  go_simp
  refine (D9.out _ _ _ Oy3 Zy3).mono ?_
  rintro e u9 ⟨v9, rfl, O9, t9, _⟩
  have K9 := Ky3.below t9 (by omega)
  have B9 := By3.trans (t9.mono (by omega))
  have Z9 := Nat.le_trans Zy3 t9.size
  refine hK.out _ _ (K9) (fun _ => ?_)
  clear hK K
  (try simp only [Act.put, List.setIfInBounds_toArray, List.set_cons_zero, List.set_cons_succ])
  refine wpAnyH_ready (rs := [8]) (by kernel_rfl) (by simp) ?_
  refine AllReadyH.cons rfl (fun K hK => ?_) AllReadyH.nil
  go_simp
  refine (D10.out _ _ _ O9 Z9).mono ?_
  rintro e u10 ⟨v10, rfl, O10, t10, _⟩
  have K10 := K9.below t10 (by omega)
  have B10 := B9.trans (t10.mono (by omega))
  have Z10 := Nat.le_trans Z9 t10.size
  refine hK.out _ _ (K10) (fun _ => ?_)
  clear hK K
  (try simp only [Act.put, List.setIfInBounds_toArray, List.set_cons_zero, List.set_cons_succ])
  refine wpAnyH_ready (rs := [11]) (by kernel_rfl) (by simp) ?_
  refine AllReadyH.cons rfl (fun K hK => ?_) AllReadyH.nil
  go_simp
  refine (D11.out _ _ _ O10 Z10).mono ?_
  rintro e u11 ⟨v11, rfl, O11, t11, _⟩
  have K11 := K10.below t11 (by omega)
  have B11 := B10.trans (t11.mono (by omega))
  have Z11 := Nat.le_trans Z10 t11.size
  refine hK.out _ _ (K11) (fun _ => ?_)
  clear hK K
  (try simp only [Act.put, List.setIfInBounds_toArray, List.set_cons_zero, List.set_cons_succ])
  refine wpAnyH_ready (rs := [12]) (by kernel_rfl) (by simp) ?_
  refine AllReadyH.cons rfl (fun K hK => ?_) AllReadyH.nil
  go_simp
  refine hK.out _ _ (K11) (fun _ => ?_)
  clear hK K
  (try simp only [Act.put, List.setIfInBounds_toArray, List.set_cons_zero, List.set_cons_succ])
  refine wpAnyH_done (by kernel_rfl) ?_ _
  clear Ky3 By3 Oy3
  have HK11 := Lib.hid K11; have HHB11 := Lib.hid B11; have HO11 := Lib.hid O11
  clear K9 B9 O9 t9 K10 B10 O10 t10 K11 B11 O11 t11
  go_wp2_with fail
  go_ret
  exact ⟨v11, rfl, by rw [← HE.out]; exact HO11.out.byt (Nat.le_trans (by rw [HE.out]; exact HBLn.out) (by unfold maxLen; omega)) (by rw [HE.out]; exact HBY.out), HHB11.out⟩

end Go.Proofs.Ytgcgjnjbhdhhgaa
