/- Several texts as one: New, L5v, L5s, HeldK, RcX, RcY. -/
import Derived.Test.YtmnojgdfbhdkhaaBase
import Derived.Deep.AppendLies
import Derived.Test.YtmnojgdfbhdkhaaY2
import Derived.Test.YtmnojgdfbhdkhaaY1
namespace Go.Proofs.Ytmnojgdfbhdkhaa

/-! New -/
section
set_option linter.unusedVariables false
open Go.RowKit

/-- The row of this slice, if it has elements, lies in a block from N on. -/
def New (N : Nat) (v : Value) : Prop := ∀ z l c, v = .slice (some z) l c → 0 < l → N ≤ z.block
/-- .. in another block than g. -/
def Off (g : Nat) (v : Value) : Prop := ∀ z l c, v = .slice (some z) l c → 0 < l → z.block ≠ g
theorem New.nil (N : Nat) : New N (.slice none 0 0) := fun z l c e => by cases e
theorem New.mono {N M : Nat} {v : Value} (h : New N v) (hM : M ≤ N) : New M v := fun z l c e h0 => Nat.le_trans hM (h z l c e h0)
theorem New.off {N g : Nat} {v : Value} (h : New N v) (hg : g < N) : Off g v := fun z l c e h0 => by have := h z l c e h0; omega
theorem Off.nil (g : Nat) : Off g (.slice none 0 0) := fun z l c e => by cases e
/-- A row that is there lies in another block than one that is not there yet. -/
theorem Ints.off {k : IntKind} {w : World} {v : Value} {xs : List Int} (h : Ints k w v xs) {g : Nat} (hg : w.heap.size ≤ g) : Off g v := by
  obtain ⟨a, len, cap, rfl, hl, hm, hr⟩ := h
  intro z l c e h0
  cases e
  rcases hr with rfl | ⟨b, off, e, hb, _⟩
  · omega
  · cases e; simp only; omega
/-- Another row than g has grown. -/
theorem Ints.grownOff {k : IntKind} {w w' : World} {v : Value} {xs : List Int} {row : Option Nat} (h : Ints k w v xs) (hg : w.grownBy w' row) (ho : ∀ g, row = some g → Off g v) : Ints k w' v xs := by
  obtain ⟨a, len, cap, rfl, hl, hm, hr⟩ := h
  refine ⟨a, len, cap, rfl, hl, hm, ?_⟩
  by_cases h0 : len = 0
  · exact .inl h0
  rcases hr with h1 | ⟨b, off, rfl, hb, hc⟩
  · exact absurd h1 h0
  · have hne : some b ≠ row := fun e => ho b e.symm _ _ _ rfl (by omega) rfl
    refine .inr ⟨b, off, rfl, Nat.lt_of_lt_of_le hb hg.size, fun i hi => ?_⟩
    rw [hg.cell_far ⟨b, off + i, none⟩ hb hne]
    exact hc i hi
end

/-! L5v -/
section
set_option linter.unusedVariables false
set_option linter.unusedSimpArgs false
open Go.RowKit

theorem vd_box {s k : Int} {r : List Int} {u : World} {b : Nat} (h : Blk u b (flatP [[Value.int .u64 s], [.int .i64 k], bytesL r])) :
    u.cell? ⟨b, 0, none⟩ = some (.int .u64 s) ∧ u.cell? ⟨b, 1, none⟩ = some (.int .i64 k) ∧ u.rangeAt b 2 (bytesL r) :=
  ⟨h.cellAt (k := 0) rfl rfl, h.cellAt (k := 1) rfl rfl, h.part (k := 2) rfl⟩

set_option maxRecDepth 100000 in
set_option maxHeartbeats 4000000 in
theorem evd_any (x : VdD) (w : World) (hx : x.ok) :
    Calls Try.prog 41 #[.agg (flatP x.parts)] w (EncR w (if x.kind < 1 ∨ 4 < x.kind then 3 else 0) x.enc) := by
  obtain ⟨s, k, r⟩ := x
  have hs : 0 ≤ s ∧ s ≤ 18446744073709551615 := hx.1
  have hkr : -9223372036854775808 ≤ k ∧ k ≤ 9223372036854775807 := hx.2.1
  have hr : IsBytes 32 r := hx.2.2
  clear hx
  show Calls Try.prog 41 #[.agg (flatP [[.int .u64 s], [.int .i64 k], bytesL r])] w (EncR w (if k < 1 ∨ 4 < k then 3 else 0) (uenc s.toNat ++ (uenc k.toNat ++ r)))
  have HBX := Lib.hid (fun u => vd_box (u := u) (b := w.heap.size) (s := s) (k := k) (r := r))
  have h32 := bytesL_len hr
  have HI32 : Hid ((Try.prog.info? 24).map (·.size) = some (bytesL r).length) := by show _ = _; rw [h32]; kernel_rfl
  have hX0 : (flatP [[Value.int .u64 s], [.int .i64 k], bytesL r]).size = 34 := by rw [flatP_size]; simp [h32]
  obtain ⟨X, hX⟩ : ∃ X, flatP [[Value.int .u64 s], [.int .i64 k], bytesL r] = X := ⟨_, rfl⟩
  have HBXX := Lib.hid (fun u (h : Blk u w.heap.size X) => HBX.out u (by rw [hX]; exact h))
  rw [hX] at hX0 ⊢
  clear hX HBX h32
  have HBA := Lib.hid ((Below.refl w.heap.size w).alloc (Nat.le_refl _) (.cells X 46))
  have HK0 : Hid (Blk (w.alloc (.cells X 46)) w.heap.size X) := Blk.new rfl
  have l1 := uenc_len10 (n := s.toNat) (by omega)
  have l2 := uenc_len10 (n := k.toNat) (by omega)
  have HBY : Hid (∀ z ∈ [] ++ uenc s.toNat ++ uenc k.toNat ++ r, 0 ≤ z ∧ z ≤ 255) := by
    intro z hz
    simp only [List.mem_append, List.nil_append] at hz
    rcases hz with (hz | hz) | hz
    · exact uenc_byte _ z hz
    · exact uenc_byte _ z hz
    · exact isb_rng hr z hz
  have HLE : Hid (([] ++ uenc s.toNat ++ uenc k.toNat ++ r).length ≤ 140737488355328) := by show _ ≤ _; simp only [List.length_append, List.length_nil, hr.1]; omega
  have HEE : Hid (uenc s.toNat ++ (uenc k.toNat ++ r) = [] ++ uenc s.toNat ++ uenc k.toNat ++ r) := by show _ = _; simp
  rw [HEE.out]
  by_cases hc5 : k < 1
  · rw [if_pos (.inl hc5)]
    go_enter Try.func41, Try.ntmps41
    go_wp2_with (first
      | ((with_reducible refine at_load (.tmp 5) ?_); refine wpList_load_1 3 (.tmp 5) rfl w.heap.size 1 (.int .i64 k) (HBXX.out _ HK0.out).2.1 rfl _ Try.underlying3 rfl rfl ?_)
      | ((with_reducible refine at_load (.tmp 9) ?_); refine wpList_load_1 3 (.tmp 9) rfl w.heap.size 1 (.int .i64 k) (HBXX.out _ HK0.out).2.1 rfl _ Try.underlying3 rfl rfl ?_))
    go_ret2
    exact ⟨_, rfl, by rw [if_neg (by omega)]; exact byt_nil _, HBA.out⟩
  by_cases hc9 : 4 < k
  · rw [if_pos (.inr hc9)]
    go_enter Try.func41, Try.ntmps41
    go_wp2_with (first
      | ((with_reducible refine at_load (.tmp 5) ?_); refine wpList_load_1 3 (.tmp 5) rfl w.heap.size 1 (.int .i64 k) (HBXX.out _ HK0.out).2.1 rfl _ Try.underlying3 rfl rfl ?_)
      | ((with_reducible refine at_load (.tmp 9) ?_); refine wpList_load_1 3 (.tmp 9) rfl w.heap.size 1 (.int .i64 k) (HBXX.out _ HK0.out).2.1 rfl _ Try.underlying3 rfl rfl ?_))
    go_ret2
    exact ⟨_, rfl, by rw [if_neg (by omega)]; exact byt_nil _, HBA.out⟩
  rw [if_neg (by omega)]
  have hk1 : 1 ≤ k := by omega
  have hwk : IntKind.u64.wrap k = k := u64_wrap (by omega) (by omega)
  have hk4 : k ≤ 4 := by omega
  have D1 := Lib.hid (fun u => auint_any (.slice none 0 0) [] s u (byt_nil _) hs.1 hs.2 (by simp))
  have D2 := Lib.hid (fun v u (h : Byt u v ([] ++ uenc s.toNat)) => auint_any v ([] ++ uenc s.toNat) k u h (by omega) (by omega) (by simp only [List.length_append, List.length_nil]; omega))
  have D3 : Hid (∀ v u, Byt u v ([] ++ uenc s.toNat ++ uenc k.toNat) → Calls Try.prog 65 #[v, .agg (bytesL r).toArray] u (App u ([] ++ uenc s.toNat ++ uenc k.toNat ++ r))) := fun v u h => aroot_any v _ r u h hr (by simp only [List.length_append, List.length_nil]; omega)
  clear hs hr
  go_enter Try.func41, Try.ntmps41
  go_wp2_with (first
    | ((with_reducible refine at_load (.tmp 5) ?_); refine wpList_load_1 3 (.tmp 5) rfl w.heap.size 1 (.int .i64 k) (HBXX.out _ HK0.out).2.1 rfl _ Try.underlying3 rfl rfl ?_)
    | ((with_reducible refine at_load (.tmp 9) ?_); refine wpList_load_1 3 (.tmp 9) rfl w.heap.size 1 (.int .i64 k) (HBXX.out _ HK0.out).2.1 rfl _ Try.underlying3 rfl rfl ?_)
    | ((with_reducible refine at_load (.tmp 14) ?_); refine wpList_load_1 22 (.tmp 14) rfl w.heap.size 0 (.int .u64 s) (HBXX.out _ HK0.out).1 rfl _ Try.underlying22 rfl rfl ?_)
    | ((with_reducible refine at_load (.tmp 18) ?_); refine wpList_load_1 3 (.tmp 18) rfl w.heap.size 1 (.int .i64 k) (HBXX.out _ K1.out).2.1 rfl _ Try.underlying3 rfl rfl ?_)
    | ((with_reducible refine at_load (.tmp 23) ?_); refine wpList_load_mid rfl 24 (.tmp 23) rfl w.heap.size 2 rfl (bytesL r) _ (HBXX.out _ K2.out).2.2 Try.underlying24 rfl HI32.out ?_)
    | (go_at_call 26; refine (D2.out _ _ HY1.out).mono ?_; rintro e w2 ⟨v2, rfl, hy2, hb2⟩; obtain ⟨a2, n2, c2, rfl⟩ := hy2.shape; have HY2 := Lib.hid hy2; have K2 := Lib.hid (K1.out.call hb2); have HB2 := Lib.hid (HB1.out.trans (hb2.mono HB1.out.size)); clear hy2 hb2)
    | (go_at_call 26; refine (D1.out _).mono ?_; rintro e w1 ⟨v1, rfl, hy1, hb1⟩; obtain ⟨a1, n1, c1, rfl⟩ := hy1.shape; have HY1 := Lib.hid hy1; have K1 := Lib.hid (HK0.out.call hb1); have HB1 := Lib.hid (HBA.out.trans (hb1.mono HBA.out.size)); clear hy1 hb1)
    | (go_at_call 65; refine (D3.out _ _ HY2.out).mono ?_; rintro e w3 ⟨v3, rfl, hy3, hb3⟩; have HY3 := Lib.hid hy3; have HB3 := Lib.hid (HB2.out.trans (hb3.mono HB2.out.size)); clear hy3 hb3))
  go_ret2
  exact ⟨v3, rfl, by rw [if_pos rfl]; exact HY3.out, HB3.out⟩

set_option maxRecDepth 100000 in
set_option maxHeartbeats 4000000 in
theorem revd_any (x : VdD) (w : World) (hx : x.ok) :
    Calls Try.prog 31 #[.agg (flatP x.parts)] w (EncR w (if x.kind < 1 ∨ 4 < x.kind then 3 else 0) x.enc) := by
  obtain ⟨s, k, r⟩ := x
  have hs : 0 ≤ s ∧ s ≤ 18446744073709551615 := hx.1
  have hkr : -9223372036854775808 ≤ k ∧ k ≤ 9223372036854775807 := hx.2.1
  have hr : IsBytes 32 r := hx.2.2
  clear hx
  show Calls Try.prog 31 #[.agg (flatP [[.int .u64 s], [.int .i64 k], bytesL r])] w (EncR w (if k < 1 ∨ 4 < k then 3 else 0) (uenc s.toNat ++ (uenc k.toNat ++ r)))
  have HBX := Lib.hid (fun u => vd_box (u := u) (b := w.heap.size) (s := s) (k := k) (r := r))
  have h32 := bytesL_len hr
  have HI32 : Hid ((Try.prog.info? 24).map (·.size) = some (bytesL r).length) := by show _ = _; rw [h32]; kernel_rfl
  have hX0 : (flatP [[Value.int .u64 s], [.int .i64 k], bytesL r]).size = 34 := by rw [flatP_size]; simp [h32]
  obtain ⟨X, hX⟩ : ∃ X, flatP [[Value.int .u64 s], [.int .i64 k], bytesL r] = X := ⟨_, rfl⟩
  have HBXX := Lib.hid (fun u (h : Blk u w.heap.size X) => HBX.out u (by rw [hX]; exact h))
  rw [hX] at hX0 ⊢
  clear hX HBX h32
  have HBA := Lib.hid ((Below.refl w.heap.size w).alloc (Nat.le_refl _) (.cells X 46))
  have HK0 : Hid (Blk (w.alloc (.cells X 46)) w.heap.size X) := Blk.new rfl
  have l1 := uenc_len10 (n := s.toNat) (by omega)
  have l2 := uenc_len10 (n := k.toNat) (by omega)
  have HBY : Hid (∀ z ∈ [] ++ uenc s.toNat ++ uenc k.toNat ++ r, 0 ≤ z ∧ z ≤ 255) := by
    intro z hz
    simp only [List.mem_append, List.nil_append] at hz
    rcases hz with (hz | hz) | hz
    · exact uenc_byte _ z hz
    · exact uenc_byte _ z hz
    · exact isb_rng hr z hz
  have HLE : Hid (([] ++ uenc s.toNat ++ uenc k.toNat ++ r).length ≤ 140737488355328) := by show _ ≤ _; simp only [List.length_append, List.length_nil, hr.1]; omega
  have HEE : Hid (uenc s.toNat ++ (uenc k.toNat ++ r) = [] ++ uenc s.toNat ++ uenc k.toNat ++ r) := by show _ = _; simp
  rw [HEE.out]
  by_cases hc4 : k < 1
  · rw [if_pos (.inl hc4)]
    go_enter Try.func31, Try.ntmps31
    go_wp2_with (first
      | ((with_reducible refine at_load (.tmp 4) ?_); refine wpList_load_1 3 (.tmp 4) rfl w.heap.size 1 (.int .i64 k) (HBXX.out _ HK0.out).2.1 rfl _ Try.underlying3 rfl rfl ?_)
      | ((with_reducible refine at_load (.tmp 8) ?_); refine wpList_load_1 3 (.tmp 8) rfl w.heap.size 1 (.int .i64 k) (HBXX.out _ HK0.out).2.1 rfl _ Try.underlying3 rfl rfl ?_))
    go_ret2
    exact ⟨_, rfl, by rw [if_neg (by omega)]; exact byt_nil _, HBA.out⟩
  by_cases hc8 : 4 < k
  · rw [if_pos (.inr hc8)]
    go_enter Try.func31, Try.ntmps31
    go_wp2_with (first
      | ((with_reducible refine at_load (.tmp 4) ?_); refine wpList_load_1 3 (.tmp 4) rfl w.heap.size 1 (.int .i64 k) (HBXX.out _ HK0.out).2.1 rfl _ Try.underlying3 rfl rfl ?_)
      | ((with_reducible refine at_load (.tmp 8) ?_); refine wpList_load_1 3 (.tmp 8) rfl w.heap.size 1 (.int .i64 k) (HBXX.out _ HK0.out).2.1 rfl _ Try.underlying3 rfl rfl ?_))
    go_ret2
    exact ⟨_, rfl, by rw [if_neg (by omega)]; exact byt_nil _, HBA.out⟩
  rw [if_neg (by omega)]
  have hk1 : 1 ≤ k := by omega
  have hwk : IntKind.u64.wrap k = k := u64_wrap (by omega) (by omega)
  have hk4 : k ≤ 4 := by omega
  go_enter Try.func31, Try.ntmps31
  go_wp2_with (first
    | ((with_reducible refine at_load (.tmp 4) ?_); refine wpList_load_1 3 (.tmp 4) rfl w.heap.size 1 (.int .i64 k) (HBXX.out _ HK0.out).2.1 rfl _ Try.underlying3 rfl rfl ?_)
    | ((with_reducible refine at_load (.tmp 8) ?_); refine wpList_load_1 3 (.tmp 8) rfl w.heap.size 1 (.int .i64 k) (HBXX.out _ HK0.out).2.1 rfl _ Try.underlying3 rfl rfl ?_))
  refine wp_region_held_drew (S := fun u' => Below (w.alloc (.cells X 46)).drew.heap.size (w.alloc (.cells X 46)).drew u') (by kernel_rfl) (Below.refl _ _) (fun _ => ?_)
  (try simp only [Act.put, List.setIfInBounds_toArray, List.set_cons_zero, List.set_cons_succ])
  obtain ⟨q, hq⟩ : ∃ q, (w.alloc (.cells X 46)).drew = q := ⟨_, rfl⟩
  have hKq : Blk q w.heap.size X := by rw [← hq]; exact HK0.out
  have hBq : Below w.heap.size w q := by rw [← hq]; exact Below.drewN (n := 1) HBA.out
  rw [hq]
  clear hq
  have HLD := Lib.hid (fun u (hu : Below q.heap.size q u) => HBXX.out u (hKq.call hu))
  refine wpAnyH_take (i := 0) (oi := ⟨some 12, _, _, _, _, _⟩) (v := .pointer (some ⟨w.heap.size, 0, none⟩)) rfl (by kernel_rfl) (by kernel_rfl) (by kernel_rfl) (fun _ _ _ h => h) (Or.inl ⟨by rfl, fun wz hz => ?_⟩) (Below.refl _ _) ?_
  · clear hz; go_simp; first | done | with_reducible rfl | rfl
  (try simp only [Act.put, List.setIfInBounds_toArray, List.set_cons_zero, List.set_cons_succ])
  refine wpAnyH_take (i := 1) (oi := ⟨some 13, _, _, _, _, _⟩) (v := .pointer (some ⟨w.heap.size, 0, none⟩)) rfl (by kernel_rfl) (by kernel_rfl) (by kernel_rfl) (fun _ _ _ h => h) (Or.inl ⟨by rfl, fun wz hz => ?_⟩) (Below.refl _ _) ?_
  · clear hz; go_simp; first | done | with_reducible rfl | rfl
  (try simp only [Act.put, List.setIfInBounds_toArray, List.set_cons_zero, List.set_cons_succ])
  refine held_load1 2 rfl (by kernel_rfl) (by kernel_rfl) (by kernel_rfl) (fun _ _ _ _ h => h) rfl 22 (.tmp 13) rfl w.heap.size 0 rfl (.int .u64 s) _ (fun u' hu => (HLD.out u' hu).1) Try.underlying22 rfl (Below.refl _ _) ?_
  (try simp only [Act.put, List.setIfInBounds_toArray, List.set_cons_zero, List.set_cons_succ])
  refine wpAnyH_take (i := 4) (oi := ⟨some 16, _, _, _, _, _⟩) (v := .pointer (some ⟨w.heap.size, 1, none⟩)) rfl (by kernel_rfl) (by kernel_rfl) (by kernel_rfl) (fun _ _ _ h => h) (Or.inl ⟨by rfl, fun wz hz => ?_⟩) (Below.refl _ _) ?_
  · clear hz; go_simp; first | done | with_reducible rfl | rfl
  (try simp only [Act.put, List.setIfInBounds_toArray, List.set_cons_zero, List.set_cons_succ])
  refine held_load1 5 rfl (by kernel_rfl) (by kernel_rfl) (by kernel_rfl) (fun _ _ _ _ h => h) rfl 3 (.tmp 16) rfl w.heap.size 1 rfl (.int .i64 k) _ (fun u' hu => (HLD.out u' hu).2.1) Try.underlying3 rfl (Below.refl _ _) ?_
  (try simp only [Act.put, List.setIfInBounds_toArray, List.set_cons_zero, List.set_cons_succ])
  refine wpAnyH_take (i := 6) (oi := ⟨some 18, _, _, _, _, _⟩) (v := .int .u64 k) rfl (by kernel_rfl) (by kernel_rfl) (by kernel_rfl) (fun _ _ _ h => h) (Or.inl ⟨by rfl, fun wz hz => ?_⟩) (Below.refl _ _) ?_
  · clear hz; go_simp; first | done | with_reducible rfl | rfl
  (try simp only [Act.put, List.setIfInBounds_toArray, List.set_cons_zero, List.set_cons_succ])
  refine wpAnyH_take (i := 8) (oi := ⟨some 20, _, _, _, _, _⟩) (v := .pointer (some ⟨w.heap.size, 2, none⟩)) rfl (by kernel_rfl) (by kernel_rfl) (by kernel_rfl) (fun _ _ _ h => h) (Or.inl ⟨by rfl, fun wz hz => ?_⟩) (Below.refl _ _) ?_
  · clear hz; go_simp; first | done | with_reducible rfl | rfl
  (try simp only [Act.put, List.setIfInBounds_toArray, List.set_cons_zero, List.set_cons_succ])
  refine held_load 9 rfl (by kernel_rfl) (by kernel_rfl) (by kernel_rfl) (fun _ _ _ _ h => h) rfl 24 (.tmp 20) rfl w.heap.size 2 rfl (bytesL r) _ (fun u' hu => (HLD.out u' hu).2.2) Try.underlying24 rfl (HI32.out) (Below.refl _ _) ?_
  (try simp only [Act.put, List.setIfInBounds_toArray, List.set_cons_zero, List.set_cons_succ])
  refine wpAnyH_ready (rs := [3]) (by kernel_rfl) (by simp) ?_
  refine AllReadyH.cons rfl (fun K hK => ?_) AllReadyH.nil
  go_simp
  refine (ruint_any _ [] s q q.heap.size (Own.nil q q.heap.size) (Nat.le_refl _) hs.1 hs.2 (by simp)).mono ?_
  rintro e w1 ⟨v1, rfl, o1, b1, _⟩
  skip
  refine hK.out _ _ (b1) (fun _ => ?_)
  clear hK K
  (try simp only [Act.put, List.setIfInBounds_toArray, List.set_cons_zero, List.set_cons_succ])
  refine wpAnyH_ready (rs := [7]) (by kernel_rfl) (by simp) ?_
  refine AllReadyH.cons rfl (fun K hK => ?_) AllReadyH.nil
  go_simp
  refine (ruint_any _ ([] ++ uenc s.toNat) k w1 q.heap.size o1 b1.size (by omega) (by omega) (by rw [List.length_append, List.length_nil]; omega)).mono ?_
  rintro e w2 ⟨v2, rfl, o2, b2, _⟩
  have b12 := b1.trans b2
  refine hK.out _ _ (b12) (fun _ => ?_)
  clear hK K
  (try simp only [Act.put, List.setIfInBounds_toArray, List.set_cons_zero, List.set_cons_succ])
  refine wpAnyH_ready (rs := [10]) (by kernel_rfl) (by simp) ?_
  refine AllReadyH.cons rfl (fun K hK => ?_) AllReadyH.nil
  go_simp
  refine (rroot_any _ ([] ++ uenc s.toNat ++ uenc k.toNat) r w2 q.heap.size o2 b12.size hr (by simp only [List.length_append, List.length_nil]; omega)).mono ?_
  rintro e w3 ⟨v3, rfl, o3, b3, _⟩
  have b13 := b12.trans b3
  refine hK.out _ _ (b13) (fun _ => ?_)
  clear hK K
  (try simp only [Act.put, List.setIfInBounds_toArray, List.set_cons_zero, List.set_cons_succ])
  refine wpAnyH_ready (rs := [11]) (by kernel_rfl) (by simp) ?_
  refine AllReadyH.cons rfl (fun K hK => ?_) AllReadyH.nil
  go_simp
  refine hK.out _ _ (b13) (fun _ => ?_)
  clear hK K
  (try simp only [Act.put, List.setIfInBounds_toArray, List.set_cons_zero, List.set_cons_succ])
  refine wpAnyH_ready (rs := [12]) (by kernel_rfl) (by simp) ?_
  refine AllReadyH.cons rfl (fun K hK => ?_) AllReadyH.nil
  go_simp
  refine hK.out _ _ (b13) (fun _ => ?_)
  clear hK K
  (try simp only [Act.put, List.setIfInBounds_toArray, List.set_cons_zero, List.set_cons_succ])
  refine wpAnyH_done (by kernel_rfl) ?_ _
  go_wp2_with fail
  go_ret2
  exact ⟨v3, rfl, by rw [if_pos rfl]; exact o3.byt (Nat.le_trans HLE.out (by unfold maxLen; omega)) HBY.out, hBq.trans (b13.mono hBq.size)⟩

set_option maxRecDepth 100000 in
theorem keyLits_vd {x : VdD} (h : x.ok) : ∃ ls, Try.prog.keyLits 5 46 x.parts.flatten = some ls := by
  obtain ⟨hs, hk, hr⟩ := h
  have hl : x.parts.map List.length = [1, 1, 32] := by simp [VdD.parts, bytesL_len hr]
  obtain ⟨ps, hps⟩ : ∃ ps, ps = x.parts := ⟨_, rfl⟩
  rw [← hps] at hl ⊢
  have ho : ∀ k, offP ps k = ([1, 1, 32].take k).sum := fun k => offP_lens' hl k
  have ct : Try.prog.cellsOf 44 = 1 := by kernel_rfl
  have c1 : Try.prog.cellsOf 22 = 1 := by kernel_rfl
  have ci : Try.prog.cellsOf 3 = 1 := by kernel_rfl
  have c32 : Try.prog.cellsOf 24 = 32 := by kernel_rfl
  refine keyLits_struct Try.underlying46 (by rw [List.length_flatten, hl]; kernel_rfl) (by kernel_rfl) ?_
  intro f hf
  simp only [List.mem_cons, List.not_mem_nil, or_false] at hf
  rcases hf with rfl | rfl | rfl
  · show ∃ l, Try.prog.keyLits 4 44 ((ps.flatten.drop 0).take (Try.prog.cellsOf 44)) = some l
    rw [ct, part_cut (k := 0) (o := 0) (n := 1) (p := [Value.int .u64 x.tag]) (by rw [hps]; rfl) (ho 0) rfl]
    refine keyLits_struct Try.underlying44 (by kernel_rfl) (by kernel_rfl) ?_
    intro f hf
    simp only [List.mem_cons, List.not_mem_nil, or_false] at hf
    subst hf
    show ∃ l, Try.prog.keyLits 3 22 (([Value.int .u64 x.tag].drop 0).take (Try.prog.cellsOf 22)) = some l
    rw [c1]
    exact keyLits_int Try.underlying22 (wf_of_u64 hs)
  · show ∃ l, Try.prog.keyLits 4 3 ((ps.flatten.drop 1).take (Try.prog.cellsOf 3)) = some l
    rw [ci, part_cut (k := 1) (o := 1) (n := 1) (p := [Value.int .i64 x.kind]) (by rw [hps]; rfl) (ho 1) rfl]
    exact keyLits_int Try.underlying3 (by simpa [Lit.wf, IntKind.min, IntKind.max, IntKind.signed, IntKind.bits] using hk)
  · show ∃ l, Try.prog.keyLits 4 24 ((ps.flatten.drop 2).take (Try.prog.cellsOf 24)) = some l
    rw [c32, part_cut (k := 2) (o := 2) (n := 32) (p := bytesL x.latest) (by rw [hps]; rfl) (ho 2) (bytesL_len hr)]
    exact keyLits_bytes Try.underlying24 (by kernel_rfl) hr

theorem tb_box {c : CpD} {v : Value} {u : World} {b : Nat} (h : Blk u b (flatP [c.cells, [v]])) (hr : c.r.length = 32) :
    u.cell? ⟨b, 0, none⟩ = some (.int .u64 c.n) ∧ u.rangeAt b 1 (bytesL c.r) ∧ u.cell? ⟨b, 33, none⟩ = some v := by
  have h' : Blk u b (flatP [[.int .u64 c.n], bytesL c.r, [v]]) := h
  exact ⟨h'.cellAt (k := 0) rfl rfl, h'.part (k := 1) rfl, h'.cellAt (k := 2) rfl (by simp [offP, bytesL, hr])⟩

set_option maxRecDepth 100000 in
set_option maxHeartbeats 4000000 in
theorem retab_any (c : CpD) (lv : Value) (l : List Int) (w : World) (hc : c.ok) (hI : NumsV w lv l) (hl : l.length ≤ 1000000000) :
    Calls Try.prog 30 #[.agg (flatP [c.cells, [lv]])] w (EncR w (if 1024 < l.length then 3 else 0) (c.enc ++ tenc l)) := by
  obtain ⟨lva, lvl, lvc, rfl⟩ : ∃ a l c, lv = .slice a l c := by obtain ⟨⟨a, l, c, e, _⟩, _⟩ := hI; exact ⟨a, l, c, e⟩
  obtain ⟨_, _, _, e', hll, _, _⟩ := hI.1
  cases e'
  have h33 := CpD.len hc
  have l2 := CpD.encl hc
  obtain ⟨ps, hps⟩ : ∃ ps, ps = [c.cells, [Value.slice lva lvl lvc]] := ⟨_, rfl⟩
  rw [← hps]
  have o0 : Hid (offP ps 0 = 0) := rfl
  have o1 : Hid (offP ps 1 = 33) := by show _ = _; rw [hps]; simp [offP, h33]
  have q0 : Hid (ps[0]? = some c.cells) := by show _ = _; rw [hps]; rfl
  have q1 : Hid (ps[1]? = some [Value.slice lva lvl lvc]) := by show _ = _; rw [hps]; rfl
  have hX0 : (flatP ps).size = 34 := by rw [flatP_size, hps]; simp [h33]
  have HPS := Lib.hid hps; clear hps
  obtain ⟨X, HX⟩ : ∃ X, Hid (flatP ps = X) := ⟨_, rfl⟩
  rw [HX.out] at hX0 ⊢
  have B0 : Hid (Blk (w.alloc (.cells X 42)) w.heap.size (flatP ps)) := Blk.to (Blk.new rfl) HX.out.symm
  have hba := (Below.refl w.heap.size w).alloc (Nat.le_refl _) (.cells X 42)
  have HIU := Lib.hid (fun u (hu : Below w.heap.size w u) => hI.below hu)
  have HR := Lib.hid hI.2
  have HBX := Lib.hid (fun u => tb_box (u := u) (b := w.heap.size) (c := c) (v := .slice lva lvl lvc))
  have h32 := bytesL_len hc.2.2
  have HI32 : Hid ((Try.prog.info? 24).map (·.size) = some (bytesL c.r).length) := by show _ = _; rw [h32]; kernel_rfl
  clear h32
  have l1 := uenc_len10 (n := c.n.toNat) (by have := hc.1; have := hc.2.1; omega)
  have l3 := hc.2.2.1
  have HC := Lib.hid hc
  have HBY : Hid (∀ x ∈ c.enc ++ tenc l, 0 ≤ x ∧ x ≤ 255) := by
    intro x hx
    simp only [List.mem_append, CpD.enc, tenc, tencK] at hx
    rcases hx with (hx | hx) | hx | hx
    · exact uenc_byte _ x hx
    · exact isb_rng hc.2.2 x hx
    · exact uenc_byte _ x hx
    · exact seqK_byte _ _ x hx
  have HLE : Hid ((c.enc ++ tenc l).length ≤ 140737488355328) := by
    have := tenc_len hI.2 (Nat.le_refl _) hl
    show _ ≤ _
    rw [List.length_append]; unfold tenc; omega
  have HTL := Lib.hid (fun k (hk : k ≤ l.length) => tenc_len hI.2 hk hl)
  have HI33 : Hid ((Try.prog.info? 26).map (·.size) = some c.cells.length) := by show _ = _; rw [h33]; kernel_rfl
  have HBA := Lib.hid hba; clear hba hI hc h33
  have HLL := Lib.hid hll
  have hl2 : lvl ≤ 1000000000 := by omega
  rw [hll]
  clear hll hl
  have HBXX := Lib.hid (fun u (h : Blk u w.heap.size X) => HBX.out u (h.to (by rw [← HX.out, HPS.out])) l3)
  have HK0 : Hid (Blk (w.alloc (.cells X 42)) w.heap.size X) := Blk.new rfl
  clear HBX B0
  by_cases hbig : 1024 < lvl
  · rw [if_pos hbig]
    go_enter Try.func30, Try.ntmps30
    go_wp2_with ((with_reducible refine at_load (.tmp 6) ?_); refine wpList_load_1 40 (.tmp 6) rfl w.heap.size 33 (.slice lva lvl lvc) (HBXX.out _ HK0.out).2.2 rfl _ Try.underlying40 rfl rfl ?_)
    go_ret2
    exact ⟨_, rfl, by rw [if_neg (by omega)]; exact byt_nil _, HBA.out⟩
  rw [if_neg hbig]
  have hwk : IntKind.u64.wrap (lvl : Int) = lvl := u64_wrap (by omega) (by omega)
  go_enter Try.func30, Try.ntmps30
  go_wp2_with ((with_reducible refine at_load (.tmp 6) ?_); refine wpList_load_1 40 (.tmp 6) rfl w.heap.size 33 (.slice lva lvl lvc) (HBXX.out _ HK0.out).2.2 rfl _ Try.underlying40 rfl rfl ?_)
  refine wp_region_held_drew (S := fun u' => Blk u' w.heap.size X) (by kernel_rfl) (HK0.out) (fun _ => ?_)
  (try simp only [Act.put, List.setIfInBounds_toArray, List.set_cons_zero, List.set_cons_succ])
  obtain ⟨q, hq⟩ : ∃ q, (w.alloc (.cells X 42)).drew = q := ⟨_, rfl⟩
  have hKq : Blk q w.heap.size X := by rw [← hq]; exact HK0.out
  have hBq : Below w.heap.size w q := by rw [← hq]; exact Below.drewN (n := 1) HBA.out
  have hSz : w.heap.size + 1 ≤ q.heap.size := hKq.lt
  rw [hq]
  clear hq
  refine wpAnyH_take (i := 0) (oi := ⟨some 10, _, _, _, _, _⟩) (v := .pointer (some ⟨w.heap.size, 0, none⟩)) rfl (by kernel_rfl) (by kernel_rfl) (by kernel_rfl) (fun _ _ _ h => h) (Or.inl ⟨by rfl, fun wz hz => ?_⟩) hKq ?_
  · clear hz; go_simp; first | done | with_reducible rfl | rfl
  (try simp only [Act.put, List.setIfInBounds_toArray, List.set_cons_zero, List.set_cons_succ])
  refine wpAnyH_take (i := 1) (oi := ⟨some 11, _, _, _, _, _⟩) (v := .pointer (some ⟨w.heap.size, 0, none⟩)) rfl (by kernel_rfl) (by kernel_rfl) (by kernel_rfl) (fun _ _ _ h => h) (Or.inl ⟨by rfl, fun wz hz => ?_⟩) hKq ?_
  · clear hz; go_simp; first | done | with_reducible rfl | rfl
  (try simp only [Act.put, List.setIfInBounds_toArray, List.set_cons_zero, List.set_cons_succ])
  refine held_load1 2 rfl (by kernel_rfl) (by kernel_rfl) (by kernel_rfl) (fun _ _ _ _ h => h) rfl 22 (.tmp 11) rfl w.heap.size 0 rfl (.int .u64 c.n) _ (fun u' hu => (HBXX.out u' hu).1) Try.underlying22 rfl hKq ?_
  (try simp only [Act.put, List.setIfInBounds_toArray, List.set_cons_zero, List.set_cons_succ])
  refine wpAnyH_take (i := 4) (oi := ⟨some 14, _, _, _, _, _⟩) (v := .pointer (some ⟨w.heap.size, 0, none⟩)) rfl (by kernel_rfl) (by kernel_rfl) (by kernel_rfl) (fun _ _ _ h => h) (Or.inl ⟨by rfl, fun wz hz => ?_⟩) hKq ?_
  · clear hz; go_simp; first | done | with_reducible rfl | rfl
  (try simp only [Act.put, List.setIfInBounds_toArray, List.set_cons_zero, List.set_cons_succ])
  refine wpAnyH_take (i := 5) (oi := ⟨some 15, _, _, _, _, _⟩) (v := .pointer (some ⟨w.heap.size, 1, none⟩)) rfl (by kernel_rfl) (by kernel_rfl) (by kernel_rfl) (fun _ _ _ h => h) (Or.inl ⟨by rfl, fun wz hz => ?_⟩) hKq ?_
  · clear hz; go_simp; first | done | with_reducible rfl | rfl
  (try simp only [Act.put, List.setIfInBounds_toArray, List.set_cons_zero, List.set_cons_succ])
  refine held_load 6 rfl (by kernel_rfl) (by kernel_rfl) (by kernel_rfl) (fun _ _ _ _ h => h) rfl 24 (.tmp 15) rfl w.heap.size 1 rfl (bytesL c.r) _ (fun u' hu => (HBXX.out u' hu).2.1) Try.underlying24 rfl (HI32.out) hKq ?_
  (try simp only [Act.put, List.setIfInBounds_toArray, List.set_cons_zero, List.set_cons_succ])
  refine wpAnyH_take (i := 8) (oi := ⟨some 18, _, _, _, _, _⟩) (v := .pointer (some ⟨w.heap.size, 33, none⟩)) rfl (by kernel_rfl) (by kernel_rfl) (by kernel_rfl) (fun _ _ _ h => h) (Or.inl ⟨by rfl, fun wz hz => ?_⟩) hKq ?_
  · clear hz; go_simp; first | done | with_reducible rfl | rfl
  (try simp only [Act.put, List.setIfInBounds_toArray, List.set_cons_zero, List.set_cons_succ])
  refine held_load1 9 rfl (by kernel_rfl) (by kernel_rfl) (by kernel_rfl) (fun _ _ _ _ h => h) rfl 40 (.tmp 18) rfl w.heap.size 33 rfl (.slice lva lvl lvc) _ (fun u' hu => (HBXX.out u' hu).2.2) Try.underlying40 rfl hKq ?_
  (try simp only [Act.put, List.setIfInBounds_toArray, List.set_cons_zero, List.set_cons_succ])
  refine wpAnyH_take (i := 10) (oi := ⟨some 20, _, _, _, _, _⟩) (v := .int .i64 lvl) rfl (by kernel_rfl) (by kernel_rfl) (by kernel_rfl) (fun _ _ _ h => h) (Or.inl ⟨by rfl, fun wz hz => ?_⟩) hKq ?_
  · clear hz; go_simp; first | done | with_reducible rfl | rfl
  (try simp only [Act.put, List.setIfInBounds_toArray, List.set_cons_zero, List.set_cons_succ])
  refine wpAnyH_take (i := 11) (oi := ⟨some 21, _, _, _, _, _⟩) (v := .int .u64 lvl) rfl (by kernel_rfl) (by kernel_rfl) (by kernel_rfl) (fun _ _ _ h => h) (Or.inl ⟨by rfl, fun wz hz => ?_⟩) hKq ?_
  · clear hz; go_simp; first | done | with_reducible rfl | rfl
  (try simp only [Act.put, List.setIfInBounds_toArray, List.set_cons_zero, List.set_cons_succ])
  refine wpAnyH_ready (rs := [3]) (by kernel_rfl) (by simp) ?_
  refine AllReadyH.cons rfl (fun K hK => ?_) AllReadyH.nil
  go_simp
  refine (ruint_any _ [] c.n q (w.heap.size + 1) (Own.nil q _) hSz HC.out.1 HC.out.2.1 (by simp)).mono ?_
  rintro e w1 ⟨v1, rfl, o1, b1, _⟩
  have k1 := hKq.below b1 (by omega)
  refine hK.out _ _ (k1) (fun _ => ?_)
  clear hK K
  (try simp only [Act.put, List.setIfInBounds_toArray, List.set_cons_zero, List.set_cons_succ])
  refine wpAnyH_ready (rs := [7]) (by kernel_rfl) (by simp) ?_
  refine AllReadyH.cons rfl (fun K hK => ?_) AllReadyH.nil
  go_simp
  refine (rroot_any _ ([] ++ uenc c.n.toNat) c.r w1 (w.heap.size + 1) o1 (Nat.le_trans hSz b1.size) HC.out.2.2 (by simp only [List.length_append, List.length_nil]; omega)).mono ?_
  rintro e w2 ⟨v2, rfl, o2, b2, _⟩
  have b12 := b1.trans b2; have k2 := hKq.below b12 (by omega)
  refine hK.out _ _ (k2) (fun _ => ?_)
  clear hK K
  (try simp only [Act.put, List.setIfInBounds_toArray, List.set_cons_zero, List.set_cons_succ])
  refine wpAnyH_ready (rs := [12]) (by kernel_rfl) (by simp) ?_
  refine AllReadyH.cons rfl (fun K hK => ?_) AllReadyH.nil
  go_simp
  refine (ruint_any _ ([] ++ uenc c.n.toNat ++ c.r) (lvl : Int) w2 (w.heap.size + 1) o2 (Nat.le_trans hSz b12.size) (by omega) (by omega) (by simp only [List.length_append, List.length_nil]; omega)).mono ?_
  rintro e w4 ⟨v4, rfl, o4, b4, _⟩
  have b14 := b12.trans b4; have k4 := hKq.below b14 (by omega)
  refine hK.out _ _ (k4) (fun _ => ?_)
  clear hK K
  (try simp only [Act.put, List.setIfInBounds_toArray, List.set_cons_zero, List.set_cons_succ])
  refine wpAnyH_ready (rs := [13]) (by kernel_rfl) (by simp) ?_
  refine AllReadyH.cons rfl (fun K hK => ?_) AllReadyH.nil
  go_simp
  refine hK.out _ _ (k4) (fun _ => ?_)
  clear hK K
  (try simp only [Act.put, List.setIfInBounds_toArray, List.set_cons_zero, List.set_cons_succ])
  refine wpAnyH_done (by kernel_rfl) ?_ _
  rw [Int.toNat_natCast] at o4
  have HO4 : Hid (Own w4 (w.heap.size + 1) v4 (c.enc ++ uenc lvl)) := o4
  have HB4 := Lib.hid (hBq.trans (b14.mono (by omega)))
  have hs4 := Nat.le_trans hSz b14.size
  have K4 := Lib.hid k4
  clear o1 b1 k1 o2 b2 b12 k2 o4 b4 b14 k4 hBq hKq hSz
  go_wp2_with fail
  go_loopw [4, 5] (fun b i wr => TI w4 (w.heap.size + 1) c.enc l b i wr) (fun _ i _ => lvl - (intOf i).toNat)
  case atStart => exact ⟨0, Nat.zero_le _, rfl, by rw [show tencK l 0 = uenc lvl by rw [tencK, HLL.out]; simp [seqK]]; exact HO4.out, Below.refl _ _⟩
  case round =>
    obtain ⟨k, hk, rfl, ho, hbl⟩ := hrel
    rw [HLL.out] at hk
    have HO := Lib.hid ho; clear ho
    have hsr := Nat.le_trans hs4 hbl.size
    have HBL := Lib.hid hbl; clear hbl
    have KR := Lib.hid (K4.out.below HBL.out (by omega))
    by_cases hlt : k < lvl
    · obtain ⟨⟨_, _, _, e', _, _, hr⟩, _⟩ := HIU.out wr (HB4.out.trans (HBL.out.mono (by omega)))
      cases e'
      rcases hr with hr | ⟨b, off, rfl, hbb, hcl⟩
      · omega
      have hcell := hcl k hlt
      clear hcl
      have hkl : k < l.length := by rw [HLL.out]; exact hlt
      have hx := HR.out _ (getD_mem hkl)
      have hln := HTL.out k (by omega)
      have D := fun b u h hB => ruint_any b (c.enc ++ tencK l k) (l.getD k 0) u (w.heap.size + 1) h hB hx.1 hx.2 (by rw [List.length_append]; omega)
      rw [List.append_assoc, ← tencK_next] at D
      have HKL := Lib.hid hkl; clear hkl
      clear hln
      obtain ⟨x, HX⟩ : ∃ x, Hid (x = l.getD k 0) := ⟨_, rfl⟩
      rw [← HX.out] at D hx hcell
      have HD := Lib.hid D; clear D
      go_wp2_with (first | ((with_reducible refine at_load (.tmp 24) ?_); refine wpList_load_1 40 (.tmp 24) rfl w.heap.size 33 (.slice _ _ lvc) (HBXX.out _ KR.out).2.2 rfl _ Try.underlying40 rfl rfl ?_) | ((with_reducible refine at_load (.tmp 31) ?_); refine wpList_load_1 40 (.tmp 31) rfl w.heap.size 33 (.slice _ _ lvc) (HBXX.out _ KR.out).2.2 rfl _ Try.underlying40 rfl rfl ?_) | (go_at_call 19; refine (HD.out _ _ HO.out hsr).mono ?_; rintro e w6 ⟨v6, rfl, ho6, hb6, hg6⟩; have HO6 := Lib.hid ho6; clear ho6; have HB6 := Lib.hid hb6; clear hb6 hg6))
      go_roundw
      case rel => exact ⟨k + 1, by rw [HLL.out]; omega, by go_num, HO6.out, HBL.out.trans HB6.out⟩
      case measure => simp [intOf]; omega
    · obtain rfl : k = lvl := by omega
      go_wp2_with ((with_reducible refine at_load (.tmp 24) ?_); refine wpList_load_1 40 (.tmp 24) rfl w.heap.size 33 (.slice _ _ lvc) (HBXX.out _ KR.out).2.2 rfl _ Try.underlying40 rfl rfl ?_)
      go_ret2
      refine ⟨_, rfl, ?_, HB4.out.trans (HBL.out.mono (by omega))⟩
      rw [if_pos rfl]
      have := HO.out
      rw [show tencK l k = tenc l by unfold tenc; rw [HLL.out]] at this
      exact this.byt (Nat.le_trans HLE.out (by unfold maxLen; omega)) HBY.out

def vdD (s : RS) : VdD := ⟨vU mxU s, vU 4 (nU mxU s), vW (nU 4 (nU mxU s))⟩
def vdS (s : RS) : RS := nW (nU 4 (nU mxU s))

set_option maxRecDepth 100000 in
set_option maxHeartbeats 8000000 in
theorem dver_any (v : Value) (bs : List Int) (w : World) (h : Byt w v bs) (hb : bs.length ≤ 20604) :
    Calls Try.prog 83 #[v] w (Fin w (finX (vdS ⟨bs, 0⟩).e ((vdD ⟨bs, 0⟩).kind != 0) (flatP (vdD ⟨bs, 0⟩).parts) (flatP zVd.parts)) (finU (vdS ⟨bs, 0⟩).e ((vdD ⟨bs, 0⟩).kind != 0) ((bs.length : Int) - ((vdS ⟨bs, 0⟩).r.length : Nat))) (finE (vdS ⟨bs, 0⟩).e ((vdD ⟨bs, 0⟩).kind != 0))) := by
  obtain ⟨va, vl, vc, rfl⟩ := h.shape
  have hby : byteL bs := h.rng
  obtain ⟨s0, hs0⟩ : ∃ s0 : RS, s0 = ⟨bs, 0⟩ := ⟨_, rfl⟩
  have hby0 : byteL s0.r := by rw [hs0]; exact hby
  rw [← hs0]
  obtain ⟨s1, hs1⟩ : ∃ s1, nU mxU s0 = s1 := ⟨_, rfl⟩
  obtain ⟨s2, hs2⟩ : ∃ s2, nU 4 s1 = s2 := ⟨_, rfl⟩
  obtain ⟨s3, hs3⟩ : ∃ s3, nW s2 = s3 := ⟨_, rfl⟩
  have hby1 : byteL s1.r := hs1 ▸ nU_byte hby0
  have hby2 : byteL s2.r := hs2 ▸ nU_byte hby1
  have hlen : s3.r.length ≤ bs.length := by
    have h1 := nU_len mxU s0
    have h2 := nU_len 4 s1
    have h3 := nW_len s2
    rw [hs1] at h1; rw [hs2] at h2; rw [hs3] at h3
    rw [hs0] at h1
    simp only at h1
    omega
  have eS : vdS s0 = s3 := by unfold vdS; rw [hs1, hs2, hs3]
  have eD : vdD s0 = ⟨vU mxU s0, vU 4 s1, vW s2⟩ := by unfold vdD; rw [hs1, hs2]
  rw [eS, eD]
  show Calls _ _ _ _ (Fin w (finX s3.e (vU 4 s1 != 0) (flatP [[.int .u64 (vU mxU s0)], [.int .i64 (vU 4 s1)], bytesL (vW s2)]) (flatP zVd.parts)) (finU s3.e (vU 4 s1 != 0) ((bs.length : Int) - (s3.r.length : Nat))) (finE s3.e (vU 4 s1 != 0)))
  have D1 : Hid (∀ lo g (sz : Int) u, Rdr lo u g bs 0 → Calls Try.prog 98 #[.agg #[.pointer (some ⟨g, 0, none⟩), .int .i64 sz]] u (Reads lo u g (.int .u64 (vU mxU s0)) s1.r s1.e)) := fun lo g sz u hr => by
    have := num_any g sz bs 0 u hr
    rw [← hs1, hs0]; exact this
  have D2 : Hid (∀ lo g u, Rdr lo u g s1.r s1.e → Calls Try.prog 76 #[.pointer (some ⟨g, 0, none⟩), .int .u64 4] u (Reads lo u g (.int .u64 (vU 4 s1)) s2.r s2.e)) := fun lo g u hr => by
    have := uint_any g s1.r s1.e 4 u hr (by omega) (by omega)
    rw [← hs2]; exact this
  have D3 : Hid (∀ lo g u, Rdr lo u g s2.r s2.e → Calls Try.prog 99 #[.pointer (some ⟨g, 0, none⟩)] u (Reads lo u g (.agg (bytesL (vW s2)).toArray) s3.r s3.e)) := fun lo g u hr => by
    have := root_any g s2.r s2.e u hr
    rw [← hs3]; exact this
  have h32 := Lib.hid (bytesL_len (vW_is hby2))
  have hk := vU_rng (m := 4) hby1 (by omega)
  have HLEN := Lib.hid hlen
  clear hs1 hs2 hs3 hby hby0 hby1 hby2 hlen eS eD
  generalize vU mxU s0 = v1 at *
  generalize vU 4 s1 = k1 at *
  generalize vW s2 = r1 at *
  have hwk : IntKind.i64.wrap k1 = k1 := IntWalk.i64_in _ (by omega)
  obtain ⟨ec, hec⟩ : ∃ ec, (k1 != 0) = ec := ⟨_, rfl⟩
  rw [hec]
  obtain ⟨X, HX⟩ : ∃ X, Hid (flatP [[Value.int .u64 v1], [.int .i64 k1], bytesL r1] = X) := ⟨_, rfl⟩
  rw [HX.out]
  have hX0 : X.size = 34 := by rw [← HX.out, flatP_size]; simp [h32.out]
  have HX1 : Hid (∀ v ∈ X, v.oneCell' = true) := by
    show ∀ v ∈ X, v.oneCell' = true
    rw [← HX.out]
    refine flatP_one fun p hp v hv => ?_
    simp only [List.mem_cons, List.not_mem_nil, or_false] at hp
    rcases hp with rfl | rfl | rfl
    · rw [List.mem_singleton.1 hv]; rfl
    · rw [List.mem_singleton.1 hv]; rfl
    · exact bytesL_one _ v hv
  have HIX : Hid ((Try.prog.info? 46).map (·.size) = some X.size) := by show _ = _; rw [hX0]; kernel_rfl
  have DF : Hid (∀ lo g u (n0 : Nat), n0 = bs.length → Rdr lo u g s3.r s3.e → Calls Try.prog 109 #[.agg #[.pointer (some ⟨g, 0, none⟩), .int .i64 n0], .agg X, .bool ec] u (Fin u (finX s3.e ec X (flatP zVd.parts)) (finU s3.e ec ((n0 : Int) - (s3.r.length : Nat))) (finE s3.e ec))) := fun lo g u n0 hn hr => fin_ver g n0 s3.r s3.e X ec u hr hX0 HX1.out (by have := HLEN.out; omega) (by omega)
  have hF0 : (finX s3.e ec X (flatP zVd.parts)).size = 34 := by unfold finX; split; exact hX0; rfl
  have hF1 : ∀ v ∈ finX s3.e ec X (flatP zVd.parts), v.oneCell' = true := by
    unfold finX; split
    · exact HX1.out
    · decide +kernel
  obtain ⟨Y, hY⟩ : ∃ Y, finX s3.e ec X (flatP zVd.parts) = Y := ⟨_, rfl⟩
  rw [hY] at DF hF0 hF1 ⊢
  clear hY
  have HF1 := Lib.hid hF1; clear hF1
  obtain ⟨E, hE⟩ : ∃ E, finE s3.e ec = E := ⟨_, rfl⟩
  rw [hE] at DF ⊢
  clear hE
  have HIY : Hid ((Try.prog.info? 46).map (·.size) = some Y.size) := by show _ = _; rw [hF0]; kernel_rfl
  have hZ0 : (flatP zVd.parts).size = 34 := rfl
  obtain ⟨Z, hZ⟩ : ∃ Z, Z = flatP zVd.parts := ⟨_, rfl⟩
  rw [← hZ] at hZ0
  obtain ⟨hzz, hst⟩ := zero_array (P := Try.prog) (t := 46) (n := 34) Z (by rw [hZ]; kernel_rfl) hZ0 (by rw [hZ]; kernel_rfl)
  have HZ := Lib.hid hZ; clear hZ
  have hba := (Below.refl w.heap.size w).alloc (Nat.le_refl _) (.cells Z 46)
  have D0 := nrd_any (.slice va vl vc) bs _ (h.below hba) hb
  have hsz : (w.alloc (.cells Z 46)).heap.size = w.heap.size + 1 := by simp
  rw [hsz] at D0
  have HD0 := Lib.hid D0; clear D0 h hba hsz
  obtain ⟨n0, hn0⟩ : ∃ n0, bs.length = n0 := ⟨_, rfl⟩
  have DF2 : Hid (∀ lo g u, Rdr lo u g s3.r s3.e → _) := fun lo g u hr => DF.out lo g u n0 hn0.symm hr
  clear DF
  rw [hn0] at HD0 HLEN hb ⊢
  obtain ⟨U, hU⟩ : ∃ U, finU s3.e ec ((n0 : Int) - (s3.r.length : Nat)) = U := ⟨_, rfl⟩
  rw [hU] at DF2 ⊢
  clear hn0 hU
  have HS0 := Lib.hid hs0; clear hs0
  have HIR : Hid ((Try.prog.info? 24).map (·.size) = some (bytesL r1).length) := by show _ = _; rw [h32.out]; kernel_rfl
  go_enter Try.func83, Try.ntmps83
  go_wp2_with (first
    | ((with_reducible refine at_load (.tmp 2) ?_); (have hxv : Blk x10 w.heap.size X := S10.out.xv.to HX.out); have HXV := Lib.hid hxv; clear hxv; refine wpList_load_g 46 (.tmp 2) rfl w.heap.size rfl X _ HXV.out Try.underlying46 rfl HIX.out rfl ?_)
    | ((with_reducible refine at_load (.tmp 23) ?_); refine wpList_load_1 3 (.tmp 23) rfl w.heap.size 1 (.int .i64 k1) (S10.out.xv.cellAt (ps := [[Value.int .u64 v1], [.int .i64 k1], bytesL r1]) (k := 1) rfl rfl) rfl _ Try.underlying3 rfl rfl ?_)
    | (go_at_call 109; refine (DF2.out _ _ _ S10.out.rd).mono ?_; rintro e w90 ⟨rfl, hb90⟩; have K90 := Lib.hid (HXV.out.call hb90); have HB90 := Lib.hid ((S10.out.bel (by omega)).trans (hb90.mono (S10.out.bel (by omega)).size)); clear hb90)
    | ((with_reducible refine at_store (.tmp 2) ?_); refine wpList_store_blk rfl 46 (.tmp 2) _ rfl w.heap.size Y rfl rfl X K90.out (by rw [hX0, hF0]) HIY.out HF1.out ?_; intro w91 U91 B91)
    | (go_at_call 97; refine HD0.out.mono ?_; rintro e w1 ⟨g, rfl, hr1, hg1, hb1⟩; have HR1 := Lib.hid hr1; clear hr1; have HB1 := Lib.hid hb1; clear hb1)
    | ((with_reducible refine at_store (.tmp 5) ?_); refine wpList_store_blk rfl 141 (.tmp 5) _ rfl w1.heap.size #[.pointer (some ⟨g, 0, none⟩), .int .i64 n0] rfl rfl #[.pointer none, .int .i64 0] (Blk.new rfl) rfl (by kernel_rfl) (by intro v hv; simp at hv; rcases hv with rfl | rfl <;> rfl) ?_; intro w2 U2 B2
       have S2 := Lib.hid (DS.start (ps := zVd.parts) (ls := [1, 1, 32]) (size := (n0 : Int)) HR1.out hg1 (by rw [← HZ.out]; exact HB1.out) rfl U2 B2)
       clear U2 B2
       have k20 := S2.out.rv.cell 0
       have k21 := S2.out.rv.cell 1)
    | (go_at_call 98; refine (D1.out _ _ _ _ S2.out.rd).mono ?_; rintro e w3 ⟨rfl, hr3, hg3⟩; have S3 := Lib.hid (S2.out.read (s' := s1) hr3 hg3); clear hr3 hg3)
    | ((with_reducible refine at_store (.tmp 11) ?_); refine wpList_store_ds1 rfl 22 (.tmp 11) (.tmp 9) rfl S3.out 0 0 (.int .u64 v1) rfl rfl rfl rfl (by kernel_rfl) rfl rfl ?_; intro w4 Uw4 S4'; have S4 := Lib.hid S4'; clear S4' Uw4; have k40 := S4.out.rv.cell 0)
    | (go_at_call 76; refine (D2.out _ _ _ S4.out.rd).mono ?_; rintro e w5 ⟨rfl, hr5, hg5⟩; have S5 := Lib.hid (S4.out.read (s' := s2) hr5 hg5); clear hr5 hg5)
    | ((with_reducible refine at_store (.tmp 16) ?_); refine wpList_store_ds1 rfl 3 (.tmp 16) (.tmp 15) rfl S5.out 1 1 (.int .i64 k1) rfl rfl rfl rfl (by kernel_rfl) rfl rfl ?_; intro w6 Uw6 S6'; have S6 := Lib.hid S6'; clear S6' Uw6; have k60 := S6.out.rv.cell 0)
    | (go_at_call 99; refine (D3.out _ _ _ S6.out.rd).mono ?_; rintro e w7 ⟨rfl, hr7, hg7⟩; have S7 := Lib.hid (S6.out.read (s' := s3) hr7 hg7); clear hr7 hg7)
    | ((with_reducible refine at_store (.tmp 20) ?_); refine wpList_store_ds rfl 24 (.tmp 20) (.tmp 19) rfl S7.out 2 2 (bytesL r1) (by rw [h32.out]; rfl) rfl rfl rfl HIR.out (bytesL_one _) ?_; intro x10 Uw10 S10'; have S10 := Lib.hid S10'; clear S10' Uw10; have k100 := S10.out.rv.cell 0; have k101 := S10.out.rv.cell 1))
  refine bodyPost_ret (res_cell_tmp2 rfl rfl rfl rfl B91 Try.underlying46 rfl HIY.out) rfl ⟨rfl, ?_⟩
  exact U91.below HB90.out (Nat.le_refl _)

def tdS (s : RS) : RS := tbN (nC s)
def tdL (s : RS) : List Int := tbV (nC s)

/-- What stands at the loop's head of DecodeTable. -/
def TRI (lo g gr b n : Nat) (size : Int) (w0 : World) (ps : List (List Value)) (s2 : RS) (i : Value) (wr : World) : Prop :=
  ∃ k : Nat, k ≤ n ∧ i = .int .i64 k ∧ Blk wr b (rowK .u64 (fun i => vU mxU (stK mxU s2 i)) n k) ∧ DS lo g gr w0.heap.size size [33, 1] w0 wr ps (stK mxU s2 k)

theorem DS.drewN {ls : List Nat} {w0 w : World} {lo g gr hx n : Nat} {size : Int} {ps : List (List Value)} {s : RS} (h : DS lo g gr hx size ls w0 w ps s) : DS lo g gr hx size ls w0 (w.drewN n) ps s :=
  h.below (Below.drewN (Below.refl _ _))

/-- A row above is written. -/
theorem DS.updRow {ls : List Nat} {w0 w w' : World} {lo g gr hx b : Nat} {size : Int} {ps : List (List Value)} {s : RS} (h : DS lo g gr hx size ls w0 w ps s) (hU : Upd b w w') (hg : g < b) (h1 : hx ≠ b) (h2 : gr ≠ b) (hb : w0.heap.size ≤ b) : DS lo g gr hx size ls w0 w' ps s :=
  ⟨h.rd.updHi hU hg, hU.blk h.rv h2, hU.blk h.xv h1, h.len, grownBy_keep h.gro hU hb, h.hx0, h.gr0, h.xg, h.xr, h.rg, h.sep⟩

def TabR (w : World) (c : CpD) (l : List Int) (s : RS) (N : Int) (en : Ending) (w' : World) : Prop :=
  ∃ lv, en = .returned (.tuple #[.agg (finX s.e true (flatP [c.cells, [lv]]) (flatP zTb.parts)), .int .i64 (finU s.e true (N - (s.r.length : Nat))), .int .i64 (finE s.e true)]) ∧ (Ints .u64 w' lv l ∧ New w.heap.size lv) ∧ Below w.heap.size w w'

set_option maxRecDepth 100000 in
set_option maxHeartbeats 8000000 in
theorem dtab_any (v : Value) (bs : List Int) (w : World) (h : Byt w v bs) (hb : bs.length ≤ 20604) :
    Calls Try.prog 82 #[v] w (TabR w (vCD ⟨bs, 0⟩) (tdL ⟨bs, 0⟩) (tdS ⟨bs, 0⟩) bs.length) := by
  obtain ⟨va, vl, vc, rfl⟩ := h.shape
  have hby : byteL bs := h.rng
  obtain ⟨s0, hs0⟩ : ∃ s0 : RS, s0 = ⟨bs, 0⟩ := ⟨_, rfl⟩
  have hby0 : byteL s0.r := by rw [hs0]; exact hby
  rw [← hs0]
  obtain ⟨s1, hs1⟩ : ∃ s1, nC s0 = s1 := ⟨_, rfl⟩
  obtain ⟨s2, hs2⟩ : ∃ s2, nU 1024 s1 = s2 := ⟨_, rfl⟩
  have hby1 : byteL s1.r := hs1 ▸ nC_byte hby0
  have hby2 : byteL s2.r := hs2 ▸ nU_byte hby1
  have hn := vU_rng (m := 1024) hby1 (by omega)
  obtain ⟨n, hnn⟩ : ∃ n : Nat, (vU 1024 s1).toNat = n := ⟨_, rfl⟩
  have hn1 : n ≤ 1024 := by omega
  have en : vU 1024 s1 = (n : Int) := by omega
  have hlen : (stK mxU s2 n).r.length ≤ bs.length := by
    have h1 := nC_len s0
    have h2 := nU_len 1024 s1
    have h3 := stK_len mxU s2 n
    rw [hs1, hs0] at h1; rw [hs2] at h2
    simp only at h1
    omega
  have eS : tdS s0 = stK mxU s2 n := by unfold tdS tbN; rw [hs1, hs2, hnn]
  have eL : tdL s0 = (List.range n).map fun i => vU mxU (stK mxU s2 i) := by unfold tdL tbV; rw [hs1, hs2, hnn]
  rw [eS, eL]
  have D1 : Hid (∀ lo g u, Rdr lo u g bs 0 → Calls Try.prog 101 #[.pointer (some ⟨g, 0, none⟩)] u (Reads lo u g (.agg (vCD s0).cells.toArray) s1.r s1.e)) := fun lo g u hr => by
    have := check_any g bs 0 u hr
    rw [← hs1, ← vCD_eq, hs0]; exact this
  have D2 : Hid (∀ lo g u, Rdr lo u g s1.r s1.e → Calls Try.prog 76 #[.pointer (some ⟨g, 0, none⟩), .int .u64 1024] u (Reads lo u g (.int .u64 n) s2.r s2.e)) := fun lo g u hr => by
    have := uint_any g s1.r s1.e 1024 u hr (by omega) (by omega)
    rw [← hs2, ← en]; exact this
  have D3 : Hid (∀ k lo g (sz : Int) u, Rdr lo u g (stK mxU s2 k).r (stK mxU s2 k).e → Calls Try.prog 98 #[.agg #[.pointer (some ⟨g, 0, none⟩), .int .i64 sz]] u (Reads lo u g (.int .u64 (vU mxU (stK mxU s2 k))) (stK mxU s2 (k + 1)).r (stK mxU s2 (k + 1)).e)) := fun k lo g sz u hr => num_any g sz (stK mxU s2 k).r (stK mxU s2 k).e u hr
  have h33 := Lib.hid (CpD.len (vCD_ok hby0))
  have HLEN := Lib.hid hlen
  clear hs1 hs2 hby hby0 hby1 hby2 hlen eS eL hn hnn en
  generalize vCD s0 = c1 at *
  have hZ0 : (flatP zTb.parts).size = 34 := rfl
  obtain ⟨Z, hZ⟩ : ∃ Z, Z = flatP zTb.parts := ⟨_, rfl⟩
  rw [← hZ] at hZ0
  obtain ⟨hzz, hst⟩ := zero_array (P := Try.prog) (t := 42) (n := 34) Z (by rw [hZ]; kernel_rfl) hZ0 (by rw [hZ]; kernel_rfl)
  have HZ := Lib.hid hZ; clear hZ
  have hba := (Below.refl w.heap.size w).alloc (Nat.le_refl _) (.cells Z 42)
  have D0 := nrd_any (.slice va vl vc) bs _ (h.below hba) hb
  have hsz : (w.alloc (.cells Z 42)).heap.size = w.heap.size + 1 := by simp
  rw [hsz] at D0
  have HD0 := Lib.hid D0; clear D0 h hba hsz
  obtain ⟨n0, hn0⟩ : ∃ n0, bs.length = n0 := ⟨_, rfl⟩
  rw [hn0] at HD0 HLEN hb ⊢
  clear hn0
  have HS0 := Lib.hid hs0; clear hs0
  have HIC : Hid ((Try.prog.info? 26).map (·.size) = some c1.cells.length) := by show _ = _; rw [h33.out]; kernel_rfl
  go_enter Try.func82, Try.ntmps82
  go_wp2_with (first
    | ((with_reducible refine at_load (.tmp 18) ?_); refine wpList_load_1 40 (.tmp 18) rfl w.heap.size 33 (.slice (some ⟨y2.heap.size, 0, none⟩) n n) (S3.out.cell1 1 33 rfl rfl) rfl _ Try.underlying40 rfl rfl ?_)
    | ((with_reducible refine at_store (.tmp 17) ?_); refine wpList_store_ds1 rfl 40 (.tmp 17) (.tmp 16) rfl R3.out 1 33 (.slice (some ⟨y2.heap.size, 0, none⟩) n n) rfl rfl rfl rfl (by kernel_rfl) rfl rfl ?_; intro x3 U3' S3'; have S3 := Lib.hid S3'; (have hlt2 := R2.out.xv.lt); (have hA : y2.heap.size ≠ w.heap.size := (by omega)); (have HROW : Hid (Blk x3 y2.heap.size (Array.replicate n (Value.int .u64 0))) := U3'.blk HK2.out hA); (have hsz3 := U3'.size); (have hsz4 := HZ2.out); (have hs3 : y2.heap.size + 1 ≤ x3.heap.size := (by omega)); clear S3' U3' hsz3 hsz4)
    | ((with_reducible refine at_makeS (.tmp 15) ?_); refine wpList_make_ints rfl (.tmp 15) 40 22 .u64 rfl Try.underlying40 (by kernel_rfl) .u64 n rfl (by omega) ?_; intro y3 hb2 hz2 hk2; have R3 := Lib.hid (R2.out.below hb2); have HK2 := Lib.hid hk2; clear hk2 hb2; have HZ2 := Lib.hid hz2; clear hz2)
    | (go_at_call 76; refine (D2.out _ _ _ S1.out.rd).mono ?_; rintro e y2 ⟨rfl, hr5, hg5⟩; have R2 := Lib.hid (S1.out.read (s' := s2) hr5 hg5); clear hr5 hg5)
    | ((with_reducible refine at_store (.tmp 12) ?_); refine wpList_store_ds rfl 26 (.tmp 12) (.tmp 11) rfl R1.out 0 0 c1.cells (by rw [h33.out]; rfl) rfl rfl rfl HIC.out (CpD.one _) ?_; intro x1 Uw S'; have S1 := Lib.hid S'; clear S' Uw; have k10 := S1.out.rv.cell 0)
    | (go_at_call 101; refine (D1.out _ _ _ S0.out.rd).mono ?_; rintro e y1 ⟨rfl, hr, hg⟩; have R1 := Lib.hid (S0.out.read (s' := s1) hr hg); clear hr hg)
    | (go_at_call 97; refine HD0.out.mono ?_; rintro e w1 ⟨g, rfl, hr1, hg1, hb1⟩; have HR1 := Lib.hid hr1; clear hr1; have HB1 := Lib.hid hb1; clear hb1)
    | ((with_reducible refine at_store (.tmp 5) ?_); refine wpList_store_blk rfl 141 (.tmp 5) _ rfl w1.heap.size #[.pointer (some ⟨g, 0, none⟩), .int .i64 n0] rfl rfl #[.pointer none, .int .i64 0] (Blk.new rfl) rfl (by kernel_rfl) (by intro v hv; simp at hv; rcases hv with rfl | rfl <;> rfl) ?_; intro w2 U2 B2
       have S0 := Lib.hid (DS.start (ps := zTb.parts) (ls := [33, 1]) (size := (n0 : Int)) HR1.out hg1 (by rw [← HZ.out]; exact HB1.out) rfl U2 B2)
       clear U2 B2
       have k20 := S0.out.rv.cell 0
       have k21 := S0.out.rv.cell 1))
  have hgg : w.heap.size ≤ g := by omega
  obtain ⟨b, hbb⟩ : ∃ b, y2.heap.size = b := ⟨_, rfl⟩
  have hbx : w.heap.size ≠ b := by have := R2.out.xv.lt; omega
  have hbr : w1.heap.size ≠ b := by have := R2.out.rv.lt; omega
  have hbg : g < b := by have := R2.out.rd.lt; omega
  rw [hbb] at HROW hs3 S3 ⊢
  have HX3 : Hid (DS (w.heap.size + 1) g w1.heap.size w.heap.size n0 [33, 1] w x3 [c1.cells, [.slice (some ⟨b, 0, none⟩) n n]] s2) := S3.out
  clear S0 S1 S3 R1 R2 R3 HR1 HB1 D1 D2 HD0 k20 k21 k10 hzz hst HK2 HZ2 hbb
  obtain ⟨X, HX⟩ : ∃ X, Hid (flatP [c1.cells, [.slice (some ⟨b, 0, none⟩) n n]] = X) := ⟨_, rfl⟩
  have hX0 : X.size = 34 := by rw [← HX.out, flatP_size]; simp [h33.out]
  have HXC : Hid (∀ u, Blk u w.heap.size X → u.cell? ⟨w.heap.size, 33, none⟩ = some (.slice (some ⟨b, 0, none⟩) n n)) := fun u hu => by
    rw [← HX.out] at hu
    exact hu.cellAt (k := 1) rfl (by simp [offP, h33.out])
  go_loopw [21] (fun i wr => TRI (w.heap.size + 1) g w1.heap.size b n n0 w [c1.cells, [.slice (some ⟨b, 0, none⟩) n n]] s2 i wr) (fun i _ => n - (intOf i).toNat)
  case atStart => exact ⟨0, Nat.zero_le _, rfl, HROW.out.to (rowK_zero _ _ _), HX3.out⟩
  case round =>
    obtain ⟨k, hk, rfl, hrow, hds⟩ := hrel
    have HROWk := Lib.hid hrow; clear hrow
    have HDS := Lib.hid hds; clear hds
    have hrl := HROWk.out.lt
    by_cases hlt : k < n
    · have hk1 : (0 : Int) ≤ (k : Int) := by omega
      have hk2 : (k : Int) < (n : Int) := by omega
      have HCELL : Hid ((rowK IntKind.u64 (fun i => vU mxU (stK mxU s2 i)) n k)[k]? = some (.int .u64 0)) := by show _ = _; rw [rowK_at hlt, if_neg (by omega)]
      have HSET := Lib.hid (rowK_set (kd := .u64) (f := fun i => vU mxU (stK mxU s2 i)) hlt)
      have XW : Hid (Blk wr w.heap.size X) := HDS.out.xv.to HX.out
      have RV := Lib.hid HDS.out.rv
      go_wp2_with fail
      refine wp_region_held_drew (S := fun u' => Blk u' w.heap.size X ∧ Blk u' w1.heap.size #[.pointer (some ⟨g, 0, none⟩), .int .i64 n0]) (by kernel_rfl) (⟨XW.out, RV.out⟩) (fun _ => ?_)
      (try simp only [Act.put, List.setIfInBounds_toArray, List.set_cons_zero, List.set_cons_succ])
      obtain ⟨x, hx⟩ : ∃ x, wr.drew = x := ⟨_, rfl⟩
      have xw : Blk x w.heap.size X := by rw [← hx]; exact XW.out
      have rv : Blk x w1.heap.size #[.pointer (some ⟨g, 0, none⟩), .int .i64 n0] := by rw [← hx]; exact RV.out
      have row : Blk x b (rowK .u64 (fun i => vU mxU (stK mxU s2 i)) n k) := by rw [← hx]; exact HROWk.out
      have hdx : DS (w.heap.size + 1) g w1.heap.size w.heap.size n0 [33, 1] w x [c1.cells, [.slice (some ⟨b, 0, none⟩) n n]] (stK mxU s2 k) := by rw [← hx]; exact HDS.out.drewN
      rw [hx]
      clear hx
      refine wpAnyH_take (i := 0) (oi := ⟨some 24, _, _, _, _, _⟩) (v := .pointer (some ⟨w.heap.size, 33, none⟩)) rfl (by kernel_rfl) (by kernel_rfl) (by kernel_rfl) (fun _ _ _ h => h) (Or.inl ⟨by rfl, fun wz hz => ?_⟩) ⟨xw, rv⟩ ?_
      · clear hz; go_simp; first | done | with_reducible rfl | rfl
      (try simp only [Act.put, List.setIfInBounds_toArray, List.set_cons_zero, List.set_cons_succ])
      refine held_load1 1 rfl (by kernel_rfl) (by kernel_rfl) (by kernel_rfl) (fun _ _ _ _ h => h) rfl 40 (.tmp 24) rfl w.heap.size 33 rfl (.slice (some ⟨b, 0, none⟩) n n) _ (fun u' hu => (HXC.out u' hu.1)) Try.underlying40 rfl ⟨xw, rv⟩ ?_
      (try simp only [Act.put, List.setIfInBounds_toArray, List.set_cons_zero, List.set_cons_succ])
      refine wpAnyH_take (i := 2) (oi := ⟨some 26, _, _, _, _, _⟩) (v := .int .i64 k) rfl (by kernel_rfl) (by kernel_rfl) (by kernel_rfl) (fun _ _ _ h => h) (Or.inl ⟨by rfl, fun wz hz => ?_⟩) ⟨xw, rv⟩ ?_
      · clear hz; go_simp; first | done | with_reducible rfl | rfl
      (try simp only [Act.put, List.setIfInBounds_toArray, List.set_cons_zero, List.set_cons_succ])
      refine held_load 3 rfl (by kernel_rfl) (by kernel_rfl) (by kernel_rfl) (fun _ _ _ _ h => h) rfl 141 (.tmp 5) rfl w1.heap.size 0 rfl [.pointer (some ⟨g, 0, none⟩), .int .i64 n0] _ (fun u' hu => by simpa using hu.2.range) Try.underlying141 rfl (by kernel_rfl) ⟨xw, rv⟩ ?_
      (try simp only [Act.put, List.setIfInBounds_toArray, List.set_cons_zero, List.set_cons_succ])
      refine wpAnyH_ready (rs := [4]) (by kernel_rfl) (by simp) ?_
      refine AllReadyH.cons rfl (fun K hK => ?_) AllReadyH.nil
      go_simp
      refine (D3.out k _ _ _ _ hdx.rd).mono ?_
      rintro e y ⟨rfl, hr, hg⟩
      have hdy := hdx.read (s' := stK mxU s2 (k + 1)) hr hg
      have rowy := row.grown hg (by simp; omega)
      refine hK.out _ _ ⟨hdy.xv.to HX.out, hdy.rv⟩ (fun _ => ?_)
      clear hK K
      (try simp only [Act.put, List.setIfInBounds_toArray, List.set_cons_zero, List.set_cons_succ])
      refine wpAnyH_ready (rs := [5]) (by kernel_rfl) (by simp) ?_
      refine AllReadyH.cons rfl (fun K hK => ?_) AllReadyH.nil
      go_simp
      refine hK.out _ _ ⟨hdy.xv.to HX.out, hdy.rv⟩ (fun _ => ?_)
      clear hK K
      (try simp only [Act.put, List.setIfInBounds_toArray, List.set_cons_zero, List.set_cons_succ])
      refine wpAnyH_ready (rs := [6]) (by kernel_rfl) (by simp) ?_
      refine AllReadyH.cons rfl (fun K hK => ?_) AllReadyH.nil
      have c0 := (rowy.cell k).trans HCELL.out
      have c1' := rowy.free
      go_simp
      refine hK.out _ _ ⟨(hdy.xv.to HX.out).setCell_other (by omega), hdy.rv.setCell_other (by omega)⟩ (fun _ => ?_)
      clear hK K
      (try simp only [Act.put, List.setIfInBounds_toArray, List.set_cons_zero, List.set_cons_succ])
      refine wpAnyH_done (by kernel_rfl) ?_ _
      go_wp2_with fail
      go_roundw
      case rel => exact ⟨k + 1, by omega, by go_num, by rw [← HSET.out]; exact rowy.setCell, hdy.updRow upd_set (by omega) (by omega) (by omega) (by omega)⟩
      case measure => simp [intOf]; omega
    · obtain rfl : k = n := by omega
      have hrb := HROWk.out.lt
      have HX1 : Hid (∀ v ∈ X, v.oneCell' = true) := by
        show ∀ v ∈ X, v.oneCell' = true
        rw [← HX.out]
        refine flatP_one fun p hp v hv => ?_
        simp only [List.mem_cons, List.not_mem_nil, or_false] at hp
        rcases hp with rfl | rfl
        · exact CpD.one _ v hv
        · rw [List.mem_singleton.1 hv]; rfl
      have HIX : Hid ((Try.prog.info? 42).map (·.size) = some X.size) := by show _ = _; rw [hX0]; kernel_rfl
      have XW : Hid (Blk wr w.heap.size X) := HDS.out.xv.to HX.out
      have DF : Hid (Calls Try.prog 108 #[.agg #[.pointer (some ⟨g, 0, none⟩), .int .i64 n0], .agg X, .bool true] wr (Fin wr (finX (stK mxU s2 k).e true X (flatP zTb.parts)) (finU (stK mxU s2 k).e true ((n0 : Int) - ((stK mxU s2 k).r.length : Nat))) (finE (stK mxU s2 k).e true))) := fin_tab g n0 _ _ X true wr HDS.out.rd hX0 HX1.out HLEN.out (by omega)
      have hF0 : (finX (stK mxU s2 k).e true X (flatP zTb.parts)).size = 34 := by unfold finX; split; exact hX0; rfl
      have hF1 : ∀ v ∈ finX (stK mxU s2 k).e true X (flatP zTb.parts), v.oneCell' = true := by
        unfold finX; split
        · exact HX1.out
        · decide +kernel
      have HPOST : Hid (finX (stK mxU s2 k).e true (flatP [c1.cells, [.slice (some ⟨b, 0, none⟩) k k]]) (flatP zTb.parts) = finX (stK mxU s2 k).e true X (flatP zTb.parts)) := by show _ = _; rw [HX.out]
      have HB0 := Lib.hid (HDS.out.bel hgg)
      have HRV := Lib.hid HDS.out.rv
      have k110 := HRV.out.cell 0
      have k111 := HRV.out.cell 1
      have hk1024 := hn1
      obtain ⟨Y, hY⟩ : ∃ Y, Hid (finX (stK mxU s2 k).e true X (flatP zTb.parts) = Y) := ⟨_, rfl⟩
      obtain ⟨U, hU⟩ : ∃ U, Hid (finU (stK mxU s2 k).e true ((n0 : Int) - ((stK mxU s2 k).r.length : Nat)) = U) := ⟨_, rfl⟩
      obtain ⟨E, hE⟩ : ∃ E, Hid (finE (stK mxU s2 k).e true = E) := ⟨_, rfl⟩
      rw [hY.out] at HPOST hF0 hF1
      rw [hY.out, hU.out, hE.out] at DF
      have HF1 := Lib.hid hF1; clear hF1
      have HIY : Hid ((Try.prog.info? 42).map (·.size) = some Y.size) := by show _ = _; rw [hF0]; kernel_rfl
      go_wp2_with (first
        | ((with_reducible refine at_load (.tmp 2) ?_); refine wpList_load_g 42 (.tmp 2) rfl w.heap.size rfl X _ XW.out Try.underlying42 rfl HIX.out rfl ?_)
        | (go_at_call 108; refine DF.out.mono ?_; rintro e w90 ⟨rfl, hb90⟩; have K90 := Lib.hid (XW.out.call hb90); have HB90 := Lib.hid (HB0.out.trans (hb90.mono HB0.out.size)); have ROW9 := Lib.hid (HROWk.out.call hb90); clear hb90)
        | ((with_reducible refine at_store (.tmp 2) ?_); refine wpList_store_blk rfl 42 (.tmp 2) _ rfl w.heap.size Y rfl rfl X K90.out (by rw [hX0, hF0]) HIY.out HF1.out ?_; intro w91 U91 B91))
      refine bodyPost_ret (res_cell_tmp2 rfl rfl rfl rfl B91 Try.underlying42 rfl HIY.out) rfl ⟨.slice (some ⟨b, 0, none⟩) k k, by rw [HPOST.out, hU.out, hE.out]; rfl, ⟨rowK_ints (U91.blk ROW9.out (Ne.symm hbx)) (by unfold maxLen; omega), fun z x y e _ => by cases e; simp only; omega⟩, U91.below HB90.out (Nat.le_refl _)⟩
end

/-! L5s -/
section
set_option linter.unusedVariables false
set_option linter.unusedSimpArgs false
open Go.RowKit

theorem cl_box {x : ClD} {u : World} {b : Nat} (hx : x.ok) (h : Blk u b x.cells.toArray) :
    u.cell? ⟨b, 0, none⟩ = some (.int .u64 x.source) ∧ u.cell? ⟨b, 1, none⟩ = some (.int .u64 x.target) ∧ u.rangeAt b 2 (bytesL x.root) ∧ u.cell? ⟨b, 34, none⟩ = some x.v := by
  have h' : Blk u b (flatP x.parts) := h
  have b32 := bytesL_len hx.2.2
  exact ⟨h'.cellAt (k := 0) rfl rfl, h'.cellAt (k := 1) rfl rfl, h'.part (k := 2) rfl, h'.cellAt (k := 3) rfl (by simp [offP, ClD.parts, b32])⟩

theorem ints_lt {w : World} {v : Value} {l : List Int} (h : IntsV w v l) : ∀ a n c, v = .slice (some a) n c → 0 < n → a.block < w.heap.size := by
  intro x a c e h0
  obtain ⟨⟨_, _, _, e', _, _, hr⟩, _⟩ := h
  cases e
  cases e'
  rcases hr with hr | ⟨bb, oo, e2, hlt, _⟩
  · omega
  · cases e2; exact hlt

set_option maxRecDepth 100000 in
set_option maxHeartbeats 8000000 in
theorem rcla_any (v : Value) (bs l : List Int) (x : ClD) (w : World) (B : Nat) (h : Own w B v bs) (hB : B ≤ w.heap.size) (hx : x.good l w) (hI : ∀ u, Below B w u → IntsV u x.v l) (hlB : ∀ a n c, x.v = .slice (some a) n c → 0 < n → a.block < B) (hv : vlE l 1024 = 0) (hb : bs.length ≤ 1000000000) :
    Calls Try.prog 53 #[v, .agg x.cells.toArray] w (AppO w B v (bs ++ x.enc l)) := by
  obtain ⟨va, vl, vc, rfl⟩ := h.shape
  have hvne : some w.heap.size ≠ (Value.slice va vl vc).ownBlock := fun e => by have := (h.lt _ e.symm).2; omega
  obtain ⟨xa, xl, xc, hxv⟩ := ints_shape' hx.2.1.1
  have HBX := Lib.hid (fun u => cl_box (u := u) (b := w.heap.size) hx.1)
  rw [hxv] at HBX hI hlB
  have HII := Lib.hid hI; clear hI
  have HLB := Lib.hid hlB; clear hlB
  have HV := Lib.hid hv; clear hv
  have HO := Lib.hid h; clear h
  have l1 := uenc_len10 (n := x.source.toNat) (by have := hx.1.1; omega)
  have l2 := uenc_len10 (n := x.target.toNat) (by have := hx.1.2.1; omega)
  have l3 : x.root.length = 32 := hx.1.2.2.1
  have hll := hx.2.2
  have h32 := bytesL_len hx.1.2.2
  have HI32 : Hid ((Try.prog.info? 24).map (·.size) = some (bytesL x.root).length) := by show _ = _; rw [h32]; kernel_rfl
  have hX0 : x.cells.toArray.size = 35 := by rw [List.size_toArray]; exact ClD.len hx.1
  have HX := Lib.hid hx.1
  obtain ⟨X, hX⟩ : ∃ X, x.cells.toArray = X := ⟨_, rfl⟩
  have HBXX := Lib.hid (fun u (h : Blk u w.heap.size X) => HBX.out u (by rw [hX]; exact h))
  rw [hX] at hX0 ⊢
  clear hX HBX h32 hx
  have K0 : Blk (w.alloc (.cells X 37)).drew w.heap.size X := (Blk.new rfl).drewN (n := 1)
  have HB0 := Lib.hid ((Below.refl w.heap.size w).alloc (Nat.le_refl _) (.cells X 37))
  have HK0 := Lib.hid K0; clear K0
  go_enter Try.func53, Try.ntmps53
  go_wp2_with fail
  refine wp_region_held_drew (S := fun u' => Blk u' w.heap.size X) (by kernel_rfl) (HK0.out) (fun _ => ?_)
  (try simp only [Act.put, List.setIfInBounds_toArray, List.set_cons_zero, List.set_cons_succ])
  obtain ⟨q, hq⟩ : ∃ q, (w.alloc (.cells X 37)).drew = q := ⟨_, rfl⟩
  have hKq : Blk q w.heap.size X := by rw [← hq]; exact HK0.out
  have hBq : Below w.heap.size w q := by rw [← hq]; exact Below.drewN (n := 1) HB0.out
  have hOq : Own q B (.slice va vl vc) bs := HO.out.call hBq
  have hSz : B ≤ q.heap.size := Nat.le_trans hB hBq.size
  rw [hq]
  clear hq
  refine wpAnyH_take (i := 0) (oi := ⟨some 5, _, _, _, _, _⟩) (v := .slice va vl vc) rfl (by kernel_rfl) (by kernel_rfl) (by kernel_rfl) (fun _ _ _ h => h) (Or.inl ⟨by rfl, fun wz hz => ?_⟩) hKq ?_
  · clear hz; go_simp; first | done | with_reducible rfl | rfl
  (try simp only [Act.put, List.setIfInBounds_toArray, List.set_cons_zero, List.set_cons_succ])
  refine wpAnyH_take (i := 1) (oi := ⟨some 6, _, _, _, _, _⟩) (v := .pointer (some ⟨w.heap.size, 0, none⟩)) rfl (by kernel_rfl) (by kernel_rfl) (by kernel_rfl) (fun _ _ _ h => h) (Or.inl ⟨by rfl, fun wz hz => ?_⟩) hKq ?_
  · clear hz; go_simp; first | done | with_reducible rfl | rfl
  (try simp only [Act.put, List.setIfInBounds_toArray, List.set_cons_zero, List.set_cons_succ])
  refine held_load1 2 rfl (by kernel_rfl) (by kernel_rfl) (by kernel_rfl) (fun _ _ _ _ h => h) rfl 22 (.tmp 6) rfl w.heap.size 0 rfl (.int .u64 x.source) _ (fun u' hu => (HBXX.out u' hu).1) Try.underlying22 rfl hKq ?_
  (try simp only [Act.put, List.setIfInBounds_toArray, List.set_cons_zero, List.set_cons_succ])
  refine wpAnyH_take (i := 4) (oi := ⟨some 9, _, _, _, _, _⟩) (v := .pointer (some ⟨w.heap.size, 1, none⟩)) rfl (by kernel_rfl) (by kernel_rfl) (by kernel_rfl) (fun _ _ _ h => h) (Or.inl ⟨by rfl, fun wz hz => ?_⟩) hKq ?_
  · clear hz; go_simp; first | done | with_reducible rfl | rfl
  (try simp only [Act.put, List.setIfInBounds_toArray, List.set_cons_zero, List.set_cons_succ])
  refine held_load1 5 rfl (by kernel_rfl) (by kernel_rfl) (by kernel_rfl) (fun _ _ _ _ h => h) rfl 22 (.tmp 9) rfl w.heap.size 1 rfl (.int .u64 x.target) _ (fun u' hu => (HBXX.out u' hu).2.1) Try.underlying22 rfl hKq ?_
  (try simp only [Act.put, List.setIfInBounds_toArray, List.set_cons_zero, List.set_cons_succ])
  refine wpAnyH_take (i := 7) (oi := ⟨some 12, _, _, _, _, _⟩) (v := .pointer (some ⟨w.heap.size, 2, none⟩)) rfl (by kernel_rfl) (by kernel_rfl) (by kernel_rfl) (fun _ _ _ h => h) (Or.inl ⟨by rfl, fun wz hz => ?_⟩) hKq ?_
  · clear hz; go_simp; first | done | with_reducible rfl | rfl
  (try simp only [Act.put, List.setIfInBounds_toArray, List.set_cons_zero, List.set_cons_succ])
  refine held_load 8 rfl (by kernel_rfl) (by kernel_rfl) (by kernel_rfl) (fun _ _ _ _ h => h) rfl 24 (.tmp 12) rfl w.heap.size 2 rfl (bytesL x.root) _ (fun u' hu => (HBXX.out u' hu).2.2.1) Try.underlying24 rfl (HI32.out) hKq ?_
  (try simp only [Act.put, List.setIfInBounds_toArray, List.set_cons_zero, List.set_cons_succ])
  refine wpAnyH_take (i := 10) (oi := ⟨some 15, _, _, _, _, _⟩) (v := .pointer (some ⟨w.heap.size, 34, none⟩)) rfl (by kernel_rfl) (by kernel_rfl) (by kernel_rfl) (fun _ _ _ h => h) (Or.inl ⟨by rfl, fun wz hz => ?_⟩) hKq ?_
  · clear hz; go_simp; first | done | with_reducible rfl | rfl
  (try simp only [Act.put, List.setIfInBounds_toArray, List.set_cons_zero, List.set_cons_succ])
  refine held_load1 11 rfl (by kernel_rfl) (by kernel_rfl) (by kernel_rfl) (fun _ _ _ _ h => h) rfl 33 (.tmp 15) rfl w.heap.size 34 rfl (.slice xa xl xc) _ (fun u' hu => (HBXX.out u' hu).2.2.2) Try.underlying33 rfl hKq ?_
  (try simp only [Act.put, List.setIfInBounds_toArray, List.set_cons_zero, List.set_cons_succ])
  refine wpAnyH_ready (rs := [3]) (by kernel_rfl) (by simp) ?_
  refine AllReadyH.cons rfl (fun K hK => ?_) AllReadyH.nil
  go_simp
  refine (ruint_any _ bs x.source q B hOq hSz HX.out.1.1 HX.out.1.2 (by omega)).mono ?_
  rintro e w1 ⟨v1, rfl, o1, b1, g1⟩
  have k1 := g1.blk hKq hvne
  refine hK.out _ _ (k1) (fun _ => ?_)
  clear hK K
  (try simp only [Act.put, List.setIfInBounds_toArray, List.set_cons_zero, List.set_cons_succ])
  refine wpAnyH_ready (rs := [6]) (by kernel_rfl) (by simp) ?_
  refine AllReadyH.cons rfl (fun K hK => ?_) AllReadyH.nil
  go_simp
  refine (ruint_any _ (bs ++ uenc x.source.toNat) x.target w1 B o1 (Nat.le_trans hSz b1.size) HX.out.2.1.1 HX.out.2.1.2 (by rw [List.length_append]; omega)).mono ?_
  rintro e w2 ⟨v2, rfl, o2, b2, g2⟩
  have k2 := (g1.trans g2).blk hKq hvne; have b12 := b1.trans b2
  refine hK.out _ _ (k2) (fun _ => ?_)
  clear hK K
  (try simp only [Act.put, List.setIfInBounds_toArray, List.set_cons_zero, List.set_cons_succ])
  refine wpAnyH_ready (rs := [9]) (by kernel_rfl) (by simp) ?_
  refine AllReadyH.cons rfl (fun K hK => ?_) AllReadyH.nil
  go_simp
  refine (rroot_any _ (bs ++ uenc x.source.toNat ++ uenc x.target.toNat) x.root w2 B o2 (Nat.le_trans hSz b12.size) HX.out.2.2 (by simp only [List.length_append]; omega)).mono ?_
  rintro e w3 ⟨v3, rfl, o3, b3, g3⟩
  have k3 := ((g1.trans g2).trans g3).blk hKq hvne; have b13 := b12.trans b3
  refine hK.out _ _ (k3) (fun _ => ?_)
  clear hK K
  (try simp only [Act.put, List.setIfInBounds_toArray, List.set_cons_zero, List.set_cons_succ])
  refine wpAnyH_ready (rs := [12]) (by kernel_rfl) (by simp) ?_
  refine AllReadyH.cons rfl (fun K hK => ?_) AllReadyH.nil
  go_simp
  refine (rlst_any _ (.slice xa xl xc) (bs ++ uenc x.source.toNat ++ uenc x.target.toNat ++ x.root) l w3 B o3 (Nat.le_trans hSz b13.size) (fun u hu => HII.out u (((hBq.mono hB).trans b13).trans hu)) HLB.out HV.out (by omega) (by simp only [List.length_append]; omega)).mono ?_
  rintro e w4 ⟨v4, rfl, o4, b4, g4⟩
  have k4 := (((g1.trans g2).trans g3).trans g4).blk hKq hvne; have b14 := b13.trans b4
  refine hK.out _ _ (k4) (fun _ => ?_)
  clear hK K
  (try simp only [Act.put, List.setIfInBounds_toArray, List.set_cons_zero, List.set_cons_succ])
  refine wpAnyH_ready (rs := [13]) (by kernel_rfl) (by simp) ?_
  refine AllReadyH.cons rfl (fun K hK => ?_) AllReadyH.nil
  go_simp
  refine hK.out _ _ (k4) (fun _ => ?_)
  clear hK K
  (try simp only [Act.put, List.setIfInBounds_toArray, List.set_cons_zero, List.set_cons_succ])
  refine wpAnyH_done (by kernel_rfl) ?_ _
  go_wp2_with fail
  go_ret
  refine ⟨v4, rfl, ?_, (hBq.mono hB).trans b14, (Grew.below _ hBq).trans (((g1.trans g2).trans g3).trans g4)⟩
  have e : bs ++ x.enc l = bs ++ uenc x.source.toNat ++ uenc x.target.toNat ++ x.root ++ lenc l := by simp [ClD.enc]
  rw [e]; exact o4

set_option maxRecDepth 100000 in
set_option maxHeartbeats 8000000 in
theorem resla_any (x y : ClD) (l m : List Int) (w : World) (hx : x.good l w) (hy : y.good m w) :
    Calls Try.prog 29 #[.agg (flatP [x.cells, y.cells])] w (EncR w (vlsE [l, m]) (x.enc l ++ y.enc m)) := by
  obtain ⟨xa, xl, xc, hxv⟩ := ints_shape' hx.2.1.1
  obtain ⟨ya, yl, yc, hyv⟩ := ints_shape' hy.2.1.1
  have HBX := Lib.hid (fun u => sla_box (u := u) (w := w) hx.1 hy.1)
  rw [hxv, hyv] at HBX
  have HGX := Lib.hid (fun u (hu : Below w.heap.size w u) => (⟨hx.1, hx.2.1.below hu, hx.2.2⟩ : x.good l u))
  have HGY := Lib.hid (fun u (hu : Below w.heap.size w u) => (⟨hy.1, hy.2.1.below hu, hy.2.2⟩ : y.good m u))
  have HIXv := Lib.hid (fun u (hu : Below w.heap.size w u) => hx.2.1.below hu)
  have HIYv := Lib.hid (fun u (hu : Below w.heap.size w u) => hy.2.1.below hu)
  rw [hxv] at HIXv
  rw [hyv] at HIYv
  have HLT : Hid ((∀ a n c, x.v = .slice (some a) n c → 0 < n → a.block < w.heap.size) ∧ (∀ a n c, y.v = .slice (some a) n c → 0 < n → a.block < w.heap.size)) := ⟨ints_lt hx.2.1, ints_lt hy.2.1⟩
  have HLX := Lib.hid (fun hv => ClD.encl hx.1 (l := l) hv (by have := hx.2.2; omega))
  have HLY := Lib.hid (fun hv => ClD.encl hy.1 (l := m) hv (by have := hy.2.2; omega))
  have hll := hx.2.2
  have hlm := hy.2.2
  have hcx : x.cells.length = 35 := ClD.len hx.1
  have hcy : y.cells.length = 35 := ClD.len hy.1
  have HI1 : Hid ((Try.prog.info? 37).map (·.size) = some x.cells.length) := by show _ = _; rw [hcx]; kernel_rfl
  have HI2 : Hid ((Try.prog.info? 37).map (·.size) = some y.cells.length) := by show _ = _; rw [hcy]; kernel_rfl
  have hX0 : (flatP [x.cells, y.cells]).size = 70 := by rw [flatP_size]; simp [hcx, hcy]
  have K0X : Blk (w.alloc (.cells (flatP [x.cells, y.cells]) 39)) w.heap.size (flatP [x.cells, y.cells]) := Blk.new rfl
  obtain ⟨X, hX⟩ : ∃ X, flatP [x.cells, y.cells] = X := ⟨_, rfl⟩
  have HBXX := Lib.hid (fun u (h : Blk u w.heap.size X) => HBX.out u (by rw [hX]; exact h))
  rw [hX] at hX0 K0X ⊢
  clear hX HBX hcx hcy hx hy
  have HB0 := Lib.hid ((Below.refl w.heap.size w).alloc (Nat.le_refl _) (.cells X 39))
  have HK0 := Lib.hid K0X; clear K0X
  clear hxv hyv
  have HDV1 := Lib.hid (rvlist_any (.slice xa xl xc) l 1024 _ (HIXv.out _ HB0.out) (by omega) (by omega))
  have HDV2 := Lib.hid (fun u (hu : Below w.heap.size w u) => rvlist_any (.slice ya yl yc) m 1024 u (HIYv.out _ hu) (by omega) (by omega))
  rw [vlsE_two]
  have HVI : Hid ((vlE l 1024 = 0 → vlE l 1024 = 0) ∧ (vlE m 1024 = 0 → vlE m 1024 = 0)) := ⟨id, id⟩
  by_cases hE1 : vlE l 1024 = 0
  case neg =>
    rw [if_pos hE1]
    obtain ⟨E, hE⟩ : ∃ E, vlE l 1024 = E := ⟨_, rfl⟩
    rw [hE] at HDV1 hE1 ⊢
    clear hE HVI
    have hne : (E != 0) = true := by simpa using hE1
    go_enter Try.func29, Try.ntmps29
    go_wp2_with (first
      | ((with_reducible refine at_load (.tmp 7) ?_); refine wpList_load_1 33 (.tmp 7) rfl w.heap.size 34 (.slice xa xl xc) (HBXX.out _ HK0.out).1 rfl _ Try.underlying33 rfl rfl ?_)
      | ((with_reducible refine at_load (.tmp 14) ?_); refine wpList_load_1 33 (.tmp 14) rfl w.heap.size 69 (.slice ya yl yc) (HBXX.out _ HK1.out).2.1 rfl _ Try.underlying33 rfl rfl ?_)
      | (go_at_call 51; refine (HDV2.out _ HB1.out).mono ?_; rintro e w2 ⟨rfl, hb2⟩; have HK2 := Lib.hid (HK1.out.call hb2); have HB2 := Lib.hid (HB1.out.trans (hb2.mono HB1.out.size)); clear hb2)
      | (go_at_call 51; refine HDV1.out.mono ?_; rintro e w1 ⟨rfl, hb1⟩; have HK1 := Lib.hid (HK0.out.call hb1); have HB1 := Lib.hid (HB0.out.trans (hb1.mono HB0.out.size)); clear hb1))
    go_ret2
    exact ⟨_, rfl, by rw [if_neg hE1]; exact byt_nil _, HB1.out⟩
  rw [if_neg (by simpa using hE1)]
  by_cases hE2 : vlE m 1024 = 0
  case neg =>
    rw [hE1] at HDV1
    obtain ⟨E, hE⟩ : ∃ E, vlE m 1024 = E := ⟨_, rfl⟩
    rw [hE] at HDV2 hE2 ⊢
    clear hE HVI
    have hne : (E != 0) = true := by simpa using hE2
    go_enter Try.func29, Try.ntmps29
    go_wp2_with (first
      | ((with_reducible refine at_load (.tmp 7) ?_); refine wpList_load_1 33 (.tmp 7) rfl w.heap.size 34 (.slice xa xl xc) (HBXX.out _ HK0.out).1 rfl _ Try.underlying33 rfl rfl ?_)
      | ((with_reducible refine at_load (.tmp 14) ?_); refine wpList_load_1 33 (.tmp 14) rfl w.heap.size 69 (.slice ya yl yc) (HBXX.out _ HK1.out).2.1 rfl _ Try.underlying33 rfl rfl ?_)
      | (go_at_call 51; refine (HDV2.out _ HB1.out).mono ?_; rintro e w2 ⟨rfl, hb2⟩; have HK2 := Lib.hid (HK1.out.call hb2); have HB2 := Lib.hid (HB1.out.trans (hb2.mono HB1.out.size)); clear hb2)
      | (go_at_call 51; refine HDV1.out.mono ?_; rintro e w1 ⟨rfl, hb1⟩; have HK1 := Lib.hid (HK0.out.call hb1); have HB1 := Lib.hid (HB0.out.trans (hb1.mono HB0.out.size)); clear hb1))
    go_ret2
    exact ⟨_, rfl, by rw [if_neg hE2]; exact byt_nil _, HB2.out⟩
  have hl1 := (HLX.out hE1).1
  have hl2 := (HLY.out hE2).1
  have HV1 := Lib.hid hE1
  have HV2 := Lib.hid hE2
  rw [hE1] at HDV1
  rw [hE2] at HDV2 ⊢
  clear hE1 hE2 HVI
  go_enter Try.func29, Try.ntmps29
  go_wp2_with (first
    | ((with_reducible refine at_load (.tmp 7) ?_); refine wpList_load_1 33 (.tmp 7) rfl w.heap.size 34 (.slice xa xl xc) (HBXX.out _ HK0.out).1 rfl _ Try.underlying33 rfl rfl ?_)
    | ((with_reducible refine at_load (.tmp 14) ?_); refine wpList_load_1 33 (.tmp 14) rfl w.heap.size 69 (.slice ya yl yc) (HBXX.out _ HK1.out).2.1 rfl _ Try.underlying33 rfl rfl ?_)
    | (go_at_call 51; refine (HDV2.out _ HB1.out).mono ?_; rintro e w2 ⟨rfl, hb2⟩; have HK2 := Lib.hid (HK1.out.call hb2); have HB2 := Lib.hid (HB1.out.trans (hb2.mono HB1.out.size)); clear hb2)
    | (go_at_call 51; refine HDV1.out.mono ?_; rintro e w1 ⟨rfl, hb1⟩; have HK1 := Lib.hid (HK0.out.call hb1); have HB1 := Lib.hid (HB0.out.trans (hb1.mono HB0.out.size)); clear hb1))
  refine wp_region_held_drew (S := fun u' => Below w2.drew.heap.size w2.drew u') (by kernel_rfl) (Below.refl _ _) (fun _ => ?_)
  (try simp only [Act.put, List.setIfInBounds_toArray, List.set_cons_zero, List.set_cons_succ])
  obtain ⟨q, hq⟩ : ∃ q, w2.drew = q := ⟨_, rfl⟩
  have hKq : Blk q w.heap.size X := by rw [← hq]; exact HK2.out
  have hBq : Below w.heap.size w q := by rw [← hq]; exact Below.drewN (n := 1) HB2.out
  rw [hq]
  clear hq
  have HLD := Lib.hid (fun u (hu : Below q.heap.size q u) => HBXX.out u (hKq.call hu))
  refine wpAnyH_take (i := 0) (oi := ⟨some 20, _, _, _, _, _⟩) (v := .pointer (some ⟨w.heap.size, 0, none⟩)) rfl (by kernel_rfl) (by kernel_rfl) (by kernel_rfl) (fun _ _ _ h => h) (Or.inl ⟨by rfl, fun wz hz => ?_⟩) (Below.refl _ _) ?_
  · clear hz; go_simp; first | done | with_reducible rfl | rfl
  (try simp only [Act.put, List.setIfInBounds_toArray, List.set_cons_zero, List.set_cons_succ])
  refine held_load 1 rfl (by kernel_rfl) (by kernel_rfl) (by kernel_rfl) (fun _ _ _ _ h => h) rfl 37 (.tmp 20) rfl w.heap.size 0 rfl x.cells _ (fun u' hu => (HLD.out u' hu).2.2.1) Try.underlying37 rfl (HI1.out) (Below.refl _ _) ?_
  (try simp only [Act.put, List.setIfInBounds_toArray, List.set_cons_zero, List.set_cons_succ])
  refine wpAnyH_take (i := 3) (oi := ⟨some 23, _, _, _, _, _⟩) (v := .pointer (some ⟨w.heap.size, 35, none⟩)) rfl (by kernel_rfl) (by kernel_rfl) (by kernel_rfl) (fun _ _ _ h => h) (Or.inl ⟨by rfl, fun wz hz => ?_⟩) (Below.refl _ _) ?_
  · clear hz; go_simp; first | done | with_reducible rfl | rfl
  (try simp only [Act.put, List.setIfInBounds_toArray, List.set_cons_zero, List.set_cons_succ])
  refine held_load 4 rfl (by kernel_rfl) (by kernel_rfl) (by kernel_rfl) (fun _ _ _ _ h => h) rfl 37 (.tmp 23) rfl w.heap.size 35 rfl y.cells _ (fun u' hu => (HLD.out u' hu).2.2.2) Try.underlying37 rfl (HI2.out) (Below.refl _ _) ?_
  (try simp only [Act.put, List.setIfInBounds_toArray, List.set_cons_zero, List.set_cons_succ])
  refine wpAnyH_ready (rs := [2]) (by kernel_rfl) (by simp) ?_
  refine AllReadyH.cons rfl (fun K hK => ?_) AllReadyH.nil
  go_simp
  refine (rcla_any _ [] l x q q.heap.size (Own.nil q q.heap.size) (Nat.le_refl _) (HGX.out _ hBq) (fun u hu => (HGX.out _ (bel0 hBq hu)).2.1) (fun a n c e h0 => Nat.lt_of_lt_of_le (HLT.out.1 a n c e h0) hBq.size) HV1.out (by simp)).mono ?_
  rintro e ua ⟨va, rfl, oa, ba, _⟩
  have hla := HLX.out HV1.out
  refine hK.out _ _ (ba) (fun _ => ?_)
  clear hK K
  (try simp only [Act.put, List.setIfInBounds_toArray, List.set_cons_zero, List.set_cons_succ])
  refine wpAnyH_ready (rs := [5]) (by kernel_rfl) (by simp) ?_
  refine AllReadyH.cons rfl (fun K hK => ?_) AllReadyH.nil
  go_simp
  refine (rcla_any _ ([] ++ x.enc l) m y ua q.heap.size oa ba.size (HGY.out _ (bel0 hBq ba)) (fun u hu => (HGY.out _ (bel0 hBq (ba.trans hu))).2.1) (fun a n c e h0 => Nat.lt_of_lt_of_le (HLT.out.2 a n c e h0) hBq.size) HV2.out (by rw [List.nil_append]; omega)).mono ?_
  rintro e ub ⟨vb, rfl, ob, bb0, _⟩
  have bb := ba.trans bb0
  refine hK.out _ _ (bb) (fun _ => ?_)
  clear hK K
  (try simp only [Act.put, List.setIfInBounds_toArray, List.set_cons_zero, List.set_cons_succ])
  refine wpAnyH_ready (rs := [6]) (by kernel_rfl) (by simp) ?_
  refine AllReadyH.cons rfl (fun K hK => ?_) AllReadyH.nil
  go_simp
  refine hK.out _ _ (bb) (fun _ => ?_)
  clear hK K
  (try simp only [Act.put, List.setIfInBounds_toArray, List.set_cons_zero, List.set_cons_succ])
  refine wpAnyH_ready (rs := [7]) (by kernel_rfl) (by simp) ?_
  refine AllReadyH.cons rfl (fun K hK => ?_) AllReadyH.nil
  go_simp
  refine hK.out _ _ (bb) (fun _ => ?_)
  clear hK K
  (try simp only [Act.put, List.setIfInBounds_toArray, List.set_cons_zero, List.set_cons_succ])
  refine wpAnyH_done (by kernel_rfl) ?_ _
  go_wp2_with fail
  go_ret2
  refine ⟨vb, rfl, ?_, hBq.trans (bb.mono hBq.size)⟩
  rw [if_pos rfl]
  rw [List.nil_append] at ob
  have hlb := HLY.out HV2.out
  exact ob.byt (by rw [List.length_append]; unfold maxLen; omega) (fun z hz => by rcases List.mem_append.1 hz with hz | hz; exact hla.2 z hz; exact hlb.2 z hz)
end

/-! HeldK -/
section
set_option linter.unusedVariables false
open Go.RowKit

section
variable {P : Program} {md : Region.Mode} {ops : Array Oper} {Q : Exit → Act → World → Prop} {S : World → Prop} {k : Nat}

/-- Whatever order is picked; until number k has come up, S holds behind every operation. -/
def wpAnyK (P : Program) (md : Region.Mode) (ops : Array Oper) (Q : Exit → Act → World → Prop) (S : World → Prop) (k : Nat) : Nat → Array Bool → Act → World → Prop
  | 0, listed, a, w => Region.ready md ops listed = [] ∧ Q .normal a w
  | fuel + 1, listed, a, w =>
    (Region.ready md ops listed = [] → Q .normal a w) ∧
    ∀ i ∈ Region.ready md ops listed, wpOp P ops Q i (fun a' w' => ((listed.setIfInBounds i true).getD k true = false → S w') ∧ wpAnyK P md ops Q S k fuel (listed.setIfInBounds i true) a' w') a w

theorem wpAny_of_k : ∀ (fuel : Nat) (listed : Array Bool) (a : Act) (w : World), wpAnyK P md ops Q S k fuel listed a w → wpAny P md ops Q fuel listed a w
  | 0, _, _, _, h => h
  | fuel + 1, _, _, _, h => ⟨h.1, fun i hi => wpOp_mono (fun a' w' h' => wpAny_of_k fuel _ a' w' h'.2) (h.2 i hi)⟩

/-- What has come up has come up behind what it waits for. -/
def ShutL (md : Region.Mode) (ops : Array Oper) (listed : Array Bool) : Prop := ∀ j o, ops[j]? = some o → listed.getD j false = true → ∀ e ∈ o.after, Region.binds md e = true → listed.getD e.on false = true
def shutB (md : Region.Mode) (ops : Array Oper) (listed : Array Bool) : Bool :=
  (List.range ops.size).all fun j => !(listed.getD j false) || ((ops[j]?).map (·.after.all fun e => !Region.binds md e || listed.getD e.on false)).getD true
theorem shutB_spec {listed : Array Bool} (h : shutB md ops listed = true) : ShutL md ops listed := by
  intro j o ho hj e he hb
  have hlt : j < ops.size := (Array.getElem?_eq_some_iff.1 ho).1
  have h1 := List.all_eq_true.1 h j (List.mem_range.2 hlt)
  simp only [hj, Bool.not_true, Bool.false_or, ho, Option.map_some, Option.getD_some] at h1
  have h2 := Array.all_eq_true_iff_forall_mem.1 h1 e he
  simpa [hb] using h2

/-- Each waits for the next. -/
def pathB (md : Region.Mode) (ops : Array Oper) : List Nat → Bool
  | x :: y :: r => ((ops[x]?).map (·.after.any fun e => Region.binds md e && e.on == y)).getD false && pathB md ops (y :: r)
  | _ => true

theorem path_step {x y : Nat} {r : List Nat} (h : pathB md ops (x :: y :: r) = true) : (∃ o e, ops[x]? = some o ∧ e ∈ o.after ∧ Region.binds md e = true ∧ e.on = y) ∧ pathB md ops (y :: r) = true := by
  rw [pathB, Bool.and_eq_true] at h
  refine ⟨?_, h.2⟩
  have h1 := h.1
  cases ho : ops[x]? with
  | none => rw [ho] at h1; cases h1
  | some o =>
    rw [ho] at h1
    simp only [Option.map_some, Option.getD_some] at h1
    obtain ⟨n, hn, he⟩ := Array.any_eq_true.1 h1
    simp only [Bool.and_eq_true, beq_iff_eq] at he
    exact ⟨o, _, rfl, Array.getElem_mem hn, he.1, he.2⟩

theorem path_listed {listed : Array Bool} (hs : ShutL md ops listed) : ∀ (r : List Nat) (x : Nat), pathB md ops (x :: r) = true → listed.getD x false = true → ∀ y ∈ r, listed.getD y false = true
  | [], _, _, _, y, hy => by cases hy
  | z :: r, x, h, hx, y, hy => by
    obtain ⟨⟨o, e, ho, he, hb, hz⟩, h2⟩ := path_step h
    have h3 := hs x o ho hx e he hb
    rw [hz] at h3
    rcases List.mem_cons.1 hy with rfl | hy
    · exact h3
    · exact path_listed hs r z h2 h3 y hy

theorem path_ready {listed : Array Bool} (hs : ShutL md ops listed) {r : List Nat} {x : Nat} (h : pathB md ops (x :: r) = true) (hx : x ∈ Region.ready md ops listed) : ∀ y ∈ r, listed.getD y false = true := by
  intro y hy
  cases r with
  | nil => cases hy
  | cons z r =>
    obtain ⟨⟨o, e, ho, he, hb, hz⟩, h2⟩ := path_step h
    obtain ⟨_, o', ho', hall⟩ := mem_ready.1 hx
    rw [ho] at ho'
    cases ho'
    have h3 := hall e he hb
    rw [hz] at h3
    rcases List.mem_cons.1 hy with rfl | hy
    · exact h3
    · exact path_listed hs r z h2 h3 y hy

theorem getD_both {listed : Array Bool} {i : Nat} (h1 : listed.getD i false = true) (h0 : listed.getD i true = false) : False := by
  rcases Nat.lt_or_ge i listed.size with h' | h'
  · simp [h'] at h0 h1; rw [h0] at h1; cases h1
  · simp [Array.getElem?_eq_none h'] at h1

theorem ShutL.set {listed : Array Bool} (hs : ShutL md ops listed) {j : Nat} (hj : j ∈ Region.ready md ops listed) : ShutL md ops (listed.setIfInBounds j true) := by
  intro x o ho hx e he hb
  by_cases h : x = j
  · subst h
    obtain ⟨_, o', ho', hall⟩ := mem_ready.1 hj
    rw [ho] at ho'
    cases ho'
    exact getD_set_true (hall e he hb)
  · rw [getD_set_ne false (Ne.symm h)] at hx
    exact getD_set_true (hs x o ho hx e he hb)

theorem wpAnyK_first {i : Nat} {oi : Oper} {v : Value} {r : List Nat} (hp : pathB md ops (k :: r) = true) (hir : i ∈ r) (hik : i ≠ k) (hi : ops[i]? = some oi) (hsel : ∀ (j : Nat) (o : Oper) cs b, ops[j]? = some o → o.op ≠ .select cs b)
    (hQ : ∀ c a w, Q (.panic c) (a.put oi.dst v) w → Q (.panic c) a w) :
    ∀ (fuel : Nat) (listed : Array Bool) (a : Act) (w : World),
      (∀ j oj, ops[j]? = some oj → j ≠ i → listed.getD j true = false → (∀ e ∈ oj.after, Region.binds md e = true → e.on ≠ i) → oi.apart ops oj = true) →
      i ∈ Region.ready md ops listed → ShutL md ops listed → listed.getD k true = false → YieldsIf P ops S oi v a → S w →
      wpAnyK P md ops Q S k fuel (listed.setIfInBounds i true) (a.put oi.dst v) w → wpAnyK P md ops Q S k (fuel + 1) listed a w := by
  intro fuel
  induction fuel with
  | zero =>
    intro listed a w _ hr hs hk hy hS H
    refine ⟨fun h => (by rw [h] at hr; cases hr), fun j hj => ?_⟩
    by_cases hji : j = i
    · subst hji; exact hy.wpOp hi hS ⟨fun _ => hS, H⟩
    · have := ready_mono hj hji
      rw [H.1] at this
      cases this
  | succ fuel ih =>
    intro listed a w hfree hr hs hk hy hS H
    refine ⟨fun h => (by rw [h] at hr; cases hr), fun j hj => ?_⟩
    by_cases hji : j = i
    · subst hji; exact hy.wpOp hi hS ⟨fun _ => hS, H⟩
    · have hjk : j ≠ k := fun e => by
        subst e
        exact getD_both (path_ready hs hp hj i hir) (mem_ready.1 hr).1
      have h1 := H.2 j (ready_mono hj hji)
      obtain ⟨hjun, oj, hoj, hall⟩ := mem_ready.1 hj
      have hnot : ∀ e ∈ oj.after, Region.binds md e = true → e.on ≠ i := fun e he hb heq => by
        have h1 := hall e he hb
        rw [heq] at h1
        exact getD_both h1 (mem_ready.1 hr).1
      have h2 := wpOp_putIf hoj (hfree j oj hoj hji hjun hnot) (fun cs b => hsel i oi cs b hi) (fun cs b => hsel j oj cs b hoj) hQ hy h1
      have hfree' : ∀ x ox, ops[x]? = some ox → x ≠ i → (listed.setIfInBounds j true).getD x true = false →
          (∀ e ∈ ox.after, Region.binds md e = true → e.on ≠ i) → oi.apart ops ox = true := fun x ox hx hxi hun hno => by
        refine hfree x ox hx hxi ?_ hno
        by_cases hjx : j = x
        · subst hjx; exact hjun
        · rw [getD_set_ne true hjx] at hun; exact hun
      have hk' : (listed.setIfInBounds j true).getD k true = false := by rw [getD_set_ne true hjk]; exact hk
      refine wpOp_mono (fun a' w' h3 => ?_) h2
      have hSw : S w' := h3.2.1 (by rw [getD_set_ne true hjk, getD_set_ne true hik]; exact hk)
      refine ⟨fun _ => hSw, ih (listed.setIfInBounds j true) a' w' hfree' (ready_mono hr (Ne.symm hji)) (hs.set hj) hk' h3.1 hSw ?_⟩
      rw [Array.setIfInBounds_comm _ _ hji]
      exact h3.2.2

/-- The side conditions of a take. -/
def heldB (md : Region.Mode) (ops : Array Oper) (listed : Array Bool) (k : Nat) (r : List Nat) (i : Nat) : Bool :=
  pathB md ops (k :: r) && (r.contains i && (i != k && (shutB md ops listed && !(listed.getD k true))))

theorem wpAnyK_take {i : Nat} {oi : Oper} {v : Value} {fuel : Nat} {listed : Array Bool} {a : Act} {w : World} (r : List Nat) (hi : ops[i]? = some oi) (hb : heldB md ops listed k r i = true)
    (hs : Region.noSelect ops = true) (hf : Region.free md ops listed i = true) (hr : (Region.ready md ops listed).contains i = true)
    (hQ : ∀ c a w, Q (.panic c) (a.put oi.dst v) w → Q (.panic c) a w) (hy : YieldsIf P ops S oi v a) (hS : S w)
    (h : wpAnyK P md ops Q S k fuel (listed.setIfInBounds i true) (a.put oi.dst v) w) : wpAnyK P md ops Q S k (fuel + 1) listed a w := by
  simp only [heldB, Bool.and_eq_true, bne_iff_ne, ne_eq, Bool.not_eq_true'] at hb
  exact wpAnyK_first hb.1 (by simpa using hb.2.1) hb.2.2.1 hi (Region.noSelect_spec hs) hQ fuel listed a w (Region.free_spec hi hf) (by simpa using hr) (shutB_spec hb.2.2.2.1) hb.2.2.2.2 hy hS h

theorem wpAnyK_all {rs : List Nat} {fuel : Nat} {listed : Array Bool} {a : Act} {w : World} (hr : Region.ready md ops listed = rs) (hne : rs ≠ [])
    (h : ∀ i ∈ rs, wpOp P ops Q i (fun a' w' => ((listed.setIfInBounds i true).getD k true = false → S w') ∧ wpAnyK P md ops Q S k fuel (listed.setIfInBounds i true) a' w') a w) : wpAnyK P md ops Q S k (fuel + 1) listed a w :=
  ⟨fun h0 => absurd (hr ▸ h0) hne, hr ▸ h⟩

theorem wpAnyK_done {listed : Array Bool} {a : Act} {w : World} (hr : Region.ready md ops listed = []) (h : Q .normal a w) : ∀ fuel, wpAnyK P md ops Q S k fuel listed a w
  | 0 => ⟨hr, h⟩
  | _ + 1 => ⟨fun _ => h, by rw [hr]; simp⟩

/-- One operation alone may come up: S is shown behind it. -/
theorem wpAnyK_one {i : Nat} {o : Oper} {fuel : Nat} {listed : Array Bool} {a : Act} {w : World} (hr : Region.ready md ops listed = [i]) (ho : ops[i]? = some o)
    (h : ∀ K' : Act → World → Prop, Shut (∀ a w, S w → wpAnyK P md ops Q S k fuel (listed.setIfInBounds i true) a w → K' a w) → if Region.wanted o (yielded ops a.tmps) = true then Oper.wp P o a w K' Q else K' (a.put o.dst undef) w) : wpAnyK P md ops Q S k (fuel + 1) listed a w :=
  wpAnyK_all hr (by simp) fun j hj => by
    rw [List.mem_singleton.1 hj]
    exact wpOp_step ho (fun K' hK => h K' (fun a w hS hW => hK a w ⟨fun _ => hS, hW⟩))

/-- .. behind k nothing is shown. -/
theorem wpAnyK_last {i : Nat} {o : Oper} {fuel : Nat} {listed : Array Bool} {a : Act} {w : World} (hr : Region.ready md ops listed = [i]) (ho : ops[i]? = some o) (hx : (listed.setIfInBounds i true).getD k true = true)
    (h : ∀ K' : Act → World → Prop, Shut (∀ a w, wpAnyK P md ops Q S k fuel (listed.setIfInBounds i true) a w → K' a w) → if Region.wanted o (yielded ops a.tmps) = true then Oper.wp P o a w K' Q else K' (a.put o.dst undef) w) : wpAnyK P md ops Q S k (fuel + 1) listed a w :=
  wpAnyK_all hr (by simp) fun j hj => by
    rw [List.mem_singleton.1 hj]
    exact wpOp_step ho (fun K' hK => h K' (fun a w hW => hK a w ⟨(fun h0 => by rw [hx] at h0; cases h0), hW⟩))

/-- The beginning. -/
theorem wp_region_k {id : Nat} {a : Act} {w : World} (hm : P.follows .mixedOrders = true) (h : wpAnyK P .any ops Q S k ops.size (Array.replicate ops.size false) a w.drew) : (Code.region id ops true).wp P Q a w :=
  wp_region_any hm (wpAny_of_k _ _ _ _ h)
end

/-- A load of an array or a struct is taken first. -/
theorem k_load {P : Program} {ops : Array Oper} {Q : Exit → Act → World → Prop} {S : World → Prop} {k : Nat} (i : Nat) (r : List Nat) {oi : Oper} {fuel : Nat} {listed : Array Bool} {a : Act} {w : World} (hi : ops[i]? = some oi) (hb : heldB .any ops listed k r i = true)
    (hs : Region.noSelect ops = true) (hf : Region.free .any ops listed i = true) (hr : (Region.ready .any ops listed).contains i = true)
    (hQ : ∀ v c a w, Q (.panic c) (a.put oi.dst v) w → Q (.panic c) a w) (hw : Region.wanted oi (yielded ops a.tmps) = true) (ty : TypeId) (x : Operand) (ho : oi.op = .load ty x) (b off : Nat) (hx : a.eval x = .pointer (some ⟨b, off, none⟩)) (cs : List Value) (d : TypeDesc)
    (hc : ∀ u, S u → u.rangeAt b off cs) (hu : P.underlying ty = some d) (hd : d.isRow = true) (hin : (P.info? ty).map (·.size) = some cs.length) (hS : S w)
    (h : wpAnyK P .any ops Q S k fuel (listed.setIfInBounds i true) (a.put oi.dst (.agg cs.toArray)) w) : wpAnyK P .any ops Q S k (fuel + 1) listed a w :=
  wpAnyK_take r hi hb hs hf hr (hQ _) (yieldsIf_load_mid hw ty x ho b off hx cs d hc hu hd hin) hS h

/-- A load of one cell is taken first. -/
theorem k_load1 {P : Program} {ops : Array Oper} {Q : Exit → Act → World → Prop} {S : World → Prop} {k : Nat} (i : Nat) (r : List Nat) {oi : Oper} {fuel : Nat} {listed : Array Bool} {a : Act} {w : World} (hi : ops[i]? = some oi) (hb : heldB .any ops listed k r i = true)
    (hs : Region.noSelect ops = true) (hf : Region.free .any ops listed i = true) (hr : (Region.ready .any ops listed).contains i = true)
    (hQ : ∀ v c a w, Q (.panic c) (a.put oi.dst v) w → Q (.panic c) a w) (hw : Region.wanted oi (yielded ops a.tmps) = true) (ty : TypeId) (x : Operand) (ho : oi.op = .load ty x) (b off : Nat) (hx : a.eval x = .pointer (some ⟨b, off, none⟩)) (v : Value) (d : TypeDesc)
    (hc : ∀ u, S u → u.cell? ⟨b, off, none⟩ = some v) (hu : P.underlying ty = some d) (hd : d.isRow = false) (hS : S w)
    (h : wpAnyK P .any ops Q S k fuel (listed.setIfInBounds i true) (a.put oi.dst v) w) : wpAnyK P .any ops Q S k (fuel + 1) listed a w :=
  wpAnyK_take r hi hb hs hf hr (hQ _) (.inl ⟨hw, fun u hu' => by
    unfold execOp
    simp only [ho, hx, Instr.loadAt, Instr.sureAddr, Sem.run_bind, Sem.run_pure, Result.andThen_ok, run_loadVar_1 u ⟨b, off, none⟩ ty v d (hc u hu') hu hd]⟩) hS h
end

/-! RcX -/
section
set_option linter.unusedVariables false
set_option linter.unusedSimpArgs false
open Go.RowKit

/-- What DecodeAttestation gives. -/
def AttA (w : World) (d : Value → AtD) (l : List Int) (s : RS) (N : Nat) (en : Ending) (w' : World) : Prop :=
  ∃ lv b, en = .returned (.tuple #[.agg (finX s.e b (flatP (d lv).parts) (flatP zAt.parts)), .int .i64 (finU s.e b ((N : Int) - (s.r.length : Nat))), .int .i64 (finE s.e b)]) ∧ b = (vlE l 1024 == 0) ∧ (Ints .i64 w' lv l ∧ New w.heap.size lv) ∧ Below w.heap.size w w'

theorem AtD.one0 : ∀ v ∈ flatP zAt.parts, v.oneCell' = true := fun v hv => (Array.all_eq_true_iff_forall_mem.1 (show (flatP zAt.parts).all (·.oneCell') = true by kernel_rfl)) v hv

set_option maxRecDepth 100000 in
set_option maxHeartbeats 8000000 in
theorem datt_any (v : Value) (bs : List Int) (w : World) (h : Byt w v bs) (hb : bs.length ≤ 20604) :
    Calls Try.prog 80 #[v] w (AttA w (atD ⟨bs, 0⟩) (atL ⟨bs, 0⟩) (atS ⟨bs, 0⟩) bs.length) := by
  obtain ⟨va, vl, vc, rfl⟩ := h.shape
  have hby : byteL bs := h.rng
  obtain ⟨s0, hs0⟩ : ∃ s0 : RS, s0 = ⟨bs, 0⟩ := ⟨_, rfl⟩
  have hby0 : byteL s0.r := by rw [hs0]; exact hby
  have hln0 : s0.r.length = bs.length := by rw [hs0]
  have er0 : s0.r = bs := by rw [hs0]
  have ee0 : s0.e = 0 := by rw [hs0]
  rw [← hs0]
  obtain ⟨s1, hs1⟩ : ∃ s1, nU mxU s0 = s1 := ⟨_, rfl⟩
  obtain ⟨s2, hs2⟩ : ∃ s2, nW s1 = s2 := ⟨_, rfl⟩
  obtain ⟨s3, hs3⟩ : ∃ s3, nC s2 = s3 := ⟨_, rfl⟩
  obtain ⟨s4, hs4⟩ : ∃ s4, lsN s3 = s4 := ⟨_, rfl⟩
  have hby1 : byteL s1.r := hs1 ▸ nU_byte hby0
  have hby2 : byteL s2.r := hs2 ▸ nW_byte hby1
  have hby3 : byteL s3.r := hs3 ▸ nC_byte hby2
  have hlen : s4.r.length ≤ bs.length := by
    have h1 := nU_len mxU s0
    have h2 := nW_len s1
    have h3 := nC_len s2
    have h4 := lsN_len s3
    rw [hs1] at h1; rw [hs2] at h2; rw [hs3] at h3; rw [hs4] at h4
    omega
  have e3 : atS3 s0 = s3 := by unfold atS3; rw [hs1, hs2, hs3]
  have eL : atL s0 = lsV s3 := by unfold atL; rw [e3]
  have eS : atS s0 = s4 := by unfold atS; rw [e3, hs4]
  have eD : ∀ lv, atD s0 lv = ⟨vU mxU s0, vW s1, vCD s2, lv⟩ := fun lv => by unfold atD; rw [hs1, hs2]
  rw [eS, eL]
  have HRL := Lib.hid (lsV_rng hby3)
  have D1 : Hid (∀ lo g (sz : Int) u, Rdr lo u g bs 0 → Calls Try.prog 98 #[.agg #[.pointer (some ⟨g, 0, none⟩), .int .i64 sz]] u (Reads lo u g (.int .u64 (vU mxU s0)) s1.r s1.e)) := fun lo g sz u hr => by
    have := num_any g sz bs 0 u hr
    rw [← hs1, hs0]; exact this
  have D2 : Hid (∀ lo g u, Rdr lo u g s1.r s1.e → Calls Try.prog 99 #[.pointer (some ⟨g, 0, none⟩)] u (Reads lo u g (.agg (bytesL (vW s1)).toArray) s2.r s2.e)) := fun lo g u hr => by
    have := root_any g s1.r s1.e u hr
    rw [← hs2]; exact this
  have D3 : Hid (∀ lo g u, Rdr lo u g s2.r s2.e → Calls Try.prog 101 #[.pointer (some ⟨g, 0, none⟩)] u (Reads lo u g (.agg (vCD s2).cells.toArray) s3.r s3.e)) := fun lo g u hr => by
    have := check_any g s2.r s2.e u hr
    rw [← hs3, ← vCD_eq]; exact this
  have D4 : Hid (∀ lo g (sz : Int) u, Rdr lo u g s3.r s3.e → Calls Try.prog 104 #[.agg #[.pointer (some ⟨g, 0, none⟩), .int .i64 sz]] u (RdL lo .i64 u g (lsV s3) s4)) := fun lo g sz u hr => by
    have := rlist_any g sz s3 u hr
    rw [← hs4]; exact this
  have h32 := Lib.hid (bytesL_len (vW_is hby1))
  have h33 := Lib.hid (CpD.len (vCD_ok hby2))
  have HED : Hid (∀ lv, (atD s0 lv).parts = [[.int .u64 (vU mxU s0)], bytesL (vW s1), (vCD s2).cells, [lv]]) := fun lv => by rw [eD]; rfl
  have HLEN := Lib.hid hlen
  clear hs1 hs2 hs3 hs4 hby hby0 hby1 hby2 hby3 hlen e3 eL eS eD
  generalize vU mxU s0 = v1 at *
  generalize vW s1 = r1 at *
  generalize vCD s2 = c1 at *
  generalize lsV s3 = l at *
  have hZ0 : (flatP zAt.parts).size = 67 := rfl
  obtain ⟨Z, hZ⟩ : ∃ Z, Z = flatP zAt.parts := ⟨_, rfl⟩
  rw [← hZ] at hZ0
  obtain ⟨hzz, hst⟩ := zero_array (P := Try.prog) (t := 35) (n := 67) Z (by rw [hZ]; kernel_rfl) hZ0 (by rw [hZ]; kernel_rfl)
  have HZ := Lib.hid hZ; clear hZ
  have hba := (Below.refl w.heap.size w).alloc (Nat.le_refl _) (.cells Z 35)
  have D0 := nrd_any (.slice va vl vc) bs _ (h.below hba) hb
  have hsz : (w.alloc (.cells Z 35)).heap.size = w.heap.size + 1 := by simp
  rw [hsz] at D0
  have HD0 := Lib.hid D0; clear D0 h hba hsz
  obtain ⟨n0, hn0⟩ : ∃ n0, bs.length = n0 := ⟨_, rfl⟩
  rw [hn0] at HD0 HLEN hb hln0 ⊢
  clear hn0 hln0
  have HS0 := Lib.hid hs0; clear hs0 er0 ee0
  have HL4 := Lib.hid (show [1, 32, 33, 1] = zAt.parts.map List.length from rfl)
  have HIR : Hid ((Try.prog.info? 24).map (·.size) = some (bytesL r1).length) := by show _ = _; rw [h32.out]; kernel_rfl
  have HIC : Hid ((Try.prog.info? 26).map (·.size) = some c1.cells.length) := by show _ = _; rw [h33.out]; kernel_rfl
  obtain ⟨b, HVL⟩ : ∃ b, Hid ((vlE l 1024 == 0) = b) := ⟨_, rfl⟩
  go_enter Try.func80, Try.ntmps80
  go_wp2_with (first
    | (go_at_call 97; refine HD0.out.mono ?_; rintro e w1 ⟨g, rfl, hr1, hg1, hb1⟩; have HR1 := Lib.hid hr1; clear hr1; have HB1 := Lib.hid hb1; clear hb1)
    | ((with_reducible refine at_store (.tmp 5) ?_); refine wpList_store_blk rfl 141 (.tmp 5) _ rfl w1.heap.size #[.pointer (some ⟨g, 0, none⟩), .int .i64 n0] rfl rfl #[.pointer none, .int .i64 0] (Blk.new rfl) rfl (by kernel_rfl) (by intro v hv; simp at hv; rcases hv with rfl | rfl <;> rfl) ?_; intro w2 U2 B2
       have S2 := Lib.hid (DS.start (ps := zAt.parts) (ls := [1, 32, 33, 1]) (size := (n0 : Int)) HR1.out hg1 (by rw [← HZ.out]; exact HB1.out) rfl U2 B2)
       clear U2 B2
       have k20 := S2.out.rv.cell 0
       have k21 := S2.out.rv.cell 1)
    | (go_at_call 98; refine (D1.out _ _ _ _ S2.out.rd).mono ?_; rintro e w3 ⟨rfl, hr3, hg3⟩; have S3 := Lib.hid (S2.out.read (s' := s1) hr3 hg3); clear hr3 hg3)
    | ((with_reducible refine at_store (.tmp 10) ?_); refine wpList_store_ds1 rfl 22 (.tmp 10) (.tmp 9) rfl S3.out 0 0 (.int .u64 v1) rfl rfl rfl rfl (by kernel_rfl) rfl rfl ?_; intro w4 Uw4 S4'; have S4 := Lib.hid S4'; clear S4' Uw4; have k40 := S4.out.rv.cell 0)
    | (go_at_call 99; refine (D2.out _ _ _ S4.out.rd).mono ?_; rintro e w5 ⟨rfl, hr5, hg5⟩; have S5 := Lib.hid (S4.out.read (s' := s2) hr5 hg5); clear hr5 hg5)
    | ((with_reducible refine at_store (.tmp 14) ?_); refine wpList_store_ds rfl 24 (.tmp 14) (.tmp 13) rfl S5.out 1 1 (bytesL r1) (by rw [h32.out]; rfl) rfl rfl rfl HIR.out (bytesL_one _) ?_; intro w6 Uw6 S6'; have S6 := Lib.hid S6'; clear S6' Uw6; have k60 := S6.out.rv.cell 0)
    | (go_at_call 101; refine (D3.out _ _ _ S6.out.rd).mono ?_; rintro e w7 ⟨rfl, hr7, hg7⟩; have S7 := Lib.hid (S6.out.read (s' := s3) hr7 hg7); clear hr7 hg7)
    | ((with_reducible refine at_store (.tmp 18) ?_); refine wpList_store_ds rfl 26 (.tmp 18) (.tmp 17) rfl S7.out 2 33 c1.cells (by rw [h33.out]; rfl) rfl rfl rfl HIC.out (CpD.one _) ?_; intro w8 Uw8 S8'; have S8 := Lib.hid S8'; clear S8' Uw8; have k80 := S8.out.rv.cell 0; have k81 := S8.out.rv.cell 1)
    | (go_at_call 104; refine (D4.out _ _ _ _ S8.out.rd).mono ?_; rintro e w9 ⟨lv, rfl, hi9, hlo9, hr9, hg9⟩; obtain ⟨lva, lvl, lvc, rfl⟩ := ints_shape hi9; have S9 := Lib.hid (S8.out.read (s' := s4) hr9 hg9); clear hr9 hg9; have HI9 := Lib.hid hi9; clear hi9; have HLO9 := Lib.hid (hlo9 : ∀ x a b, Value.slice lva lvl lvc = .slice (some x) a b → w8.heap.size ≤ x.block); clear hlo9)
    | ((with_reducible refine at_store (.tmp 21) ?_); refine wpList_store_ds1 rfl 33 (.tmp 21) (.tmp 20) rfl S9.out 3 66 (.slice lva lvl lvc) rfl rfl rfl rfl (by kernel_rfl) rfl rfl ?_; intro w10 Uw10 S10'; have S10 := Lib.hid S10'; clear S10'; have HU10 := Lib.hid Uw10; clear Uw10))
  have hx8 := S8.out.xv.lt
  have HI10 := Lib.hid (HI9.out.upd HU10.out fun x a c e => by have := HLO9.out x a c e; omega)
  have hgg : w.heap.size ≤ g := by omega
  clear S2 S3 S4 S5 S6 S7 S8 S9 HI9 HU10 HR1 HB1 D1 D2 D3 D4 HD0 k20 k21 k40 k60 k80 k81 hzz hst
  have xv : Blk w10 w.heap.size (flatP [[.int .u64 v1], bytesL r1, c1.cells, [.slice lva lvl lvc]]) := S10.out.xv
  obtain ⟨L, hL⟩ : ∃ L, L = [[Value.int .u64 v1], bytesL r1, c1.cells, [Value.slice lva lvl lvc]].flatten := ⟨_, rfl⟩
  have hLn : L.length = 67 := by rw [hL]; simp [h32.out, h33.out]
  have hL1 : ∀ v ∈ L.toArray, v.oneCell' = true := by
    intro v hv
    rw [hL] at hv
    simp only [List.mem_toArray, List.mem_flatten] at hv
    obtain ⟨p, hp, hv⟩ := hv
    simp only [List.mem_cons, List.not_mem_nil, or_false] at hp
    rcases hp with rfl | rfl | rfl | rfl
    · rw [List.mem_singleton.1 hv]; rfl
    · exact bytesL_one _ v hv
    · exact CpD.one _ v hv
    · rw [List.mem_singleton.1 hv]; rfl
  have hcel : L[66]? = some (.slice lva lvl lvc) := by
    have e1 : L = ([[Value.int .u64 v1], bytesL r1, c1.cells].flatten) ++ [Value.slice lva lvl lvc] := by rw [hL]; simp
    have e2 : ([[Value.int .u64 v1], bytesL r1, c1.cells].flatten).length = 66 := by simp [h32.out, h33.out]
    rw [e1, List.getElem?_append_right (by omega), e2]; rfl
  have xv' : Blk w10 w.heap.size L.toArray := by rw [hL]; exact xv
  have HPOST : Hid (flatP (atD s0 (.slice lva lvl lvc)).parts = L.toArray) := by show _ = _; rw [HED.out, hL]; rfl
  have hiL : (Try.prog.info? 35).map (·.size) = some L.toArray.size := by rw [List.size_toArray, hLn]; kernel_rfl
  have HIL := Lib.hid hiL
  clear hL xv hiL
  have HL1 := Lib.hid hL1; clear hL1
  have HX := S10.out.rd.drew
  have HB := Below.drewN (n := 1) (S10.out.bel hgg)
  change Below w.heap.size w w10.drew at HB
  have rv : Blk w10.drew w1.heap.size #[.pointer (some ⟨g, 0, none⟩), .int .i64 n0] := S10.out.rv
  have xw : Blk w10.drew w.heap.size L.toArray := xv'
  have hIx : Ints .i64 w10.drew (.slice lva lvl lvc) l := HI10.out
  have hne := S10.out.xr
  have hxg := S10.out.xg
  clear xv' HI10 S10
  obtain ⟨x, hx⟩ : ∃ x, w10.drew = x := ⟨_, rfl⟩
  rw [hx] at HX HB rv xw hIx
  refine wp_region_k (S := fun u' => Blk u' w.heap.size L.toArray ∧ Blk u' w1.heap.size #[.pointer (some ⟨g, 0, none⟩), .int .i64 n0]) (k := 11) (by kernel_rfl) ?_
  rw [hx]
  clear hx
  (try simp only [Act.put, List.setIfInBounds_toArray, List.set_cons_zero, List.set_cons_succ])
  refine k_load 0 [0] rfl (by kernel_rfl) (by kernel_rfl) (by kernel_rfl) (by kernel_rfl) (fun _ _ _ _ h => h) rfl 141 (.tmp 5) rfl w1.heap.size 0 rfl [.pointer (some ⟨g, 0, none⟩), .int .i64 n0] _ (fun u' hu => by simpa using hu.2.range) Try.underlying141 rfl (by kernel_rfl) ⟨xw, rv⟩ ?_
  (try simp only [Act.put, List.setIfInBounds_toArray, List.set_cons_zero, List.set_cons_succ])
  refine k_load 1 [1] rfl (by kernel_rfl) (by kernel_rfl) (by kernel_rfl) (by kernel_rfl) (fun _ _ _ _ h => h) rfl 35 (.tmp 2) rfl w.heap.size 0 rfl L _ (fun u' hu => by simpa using hu.1.range) Try.underlying35 rfl (by simpa using HIL.out) ⟨xw, rv⟩ ?_
  (try simp only [Act.put, List.setIfInBounds_toArray, List.set_cons_zero, List.set_cons_succ])
  refine wpAnyK_take (i := 2) (oi := ⟨some 24, _, _, _, _, _⟩) (v := .pointer (some ⟨w.heap.size, 66, none⟩)) [2] rfl (by kernel_rfl) (by kernel_rfl) (by kernel_rfl) (by kernel_rfl) (fun _ _ _ h => h) (Or.inl ⟨by rfl, fun wz hz => ?_⟩) ⟨xw, rv⟩ ?_
  · clear hz; go_simp
  (try simp only [Act.put, List.setIfInBounds_toArray, List.set_cons_zero, List.set_cons_succ])
  refine k_load1 3 [3] rfl (by kernel_rfl) (by kernel_rfl) (by kernel_rfl) (by kernel_rfl) (fun _ _ _ _ h => h) rfl 33 (.tmp 24) rfl w.heap.size 66 rfl (.slice lva lvl lvc) _ (fun u' hu => by rw [hu.1.cell]; simpa using hcel) Try.underlying33 rfl ⟨xw, rv⟩ ?_
  (try simp only [Act.put, List.setIfInBounds_toArray, List.set_cons_zero, List.set_cons_succ])
  refine wpAnyK_one (i := 4) (by kernel_rfl) rfl (fun K hK => ?_)
  go_simp
  refine hK.out _ _ ⟨xw.alloc _, rv.alloc _⟩ ?_
  clear hK K
  (try simp only [Act.put, List.setIfInBounds_toArray, List.set_cons_zero, List.set_cons_succ])
  have DV := vlists_any x.heap.size 1 _ _ _ (lists1 (w := x) (y1 := Value.slice lva lvl lvc) (l1 := l) (t := 33) rfl ⟨hIx, HRL.out⟩) (by omega)
  rw [vlsE_one] at DV
  have HIxy := hIx.below ((Below.refl _ x).alloc (Nat.le_refl _) (.cells #[Value.slice lva lvl lvc] 33))
  have HXy := HX.below ((Below.refl _ x).alloc (Nat.le_refl _) (.cells #[Value.slice lva lvl lvc] 33))
  have HBy := HB.alloc HB.size (.cells #[Value.slice lva lvl lvc] 33)
  have xy := xw.alloc (.cells #[Value.slice lva lvl lvc] 33)
  have ry := rv.alloc (.cells #[Value.slice lva lvl lvc] 33)
  obtain ⟨ve, HVE⟩ : ∃ ve, Hid (vlE l 1024 = ve) := ⟨_, rfl⟩
  have HVB : Hid ((ve == 0) = b) := by show _ = _; rw [← HVE.out]; exact HVL.out
  rw [HVE.out] at DV
  refine wpAnyK_one (i := 5) (by kernel_rfl) rfl (fun K hK => ?_)
  go_simp
  refine DV.mono ?_
  rintro e y ⟨rfl, hy⟩
  rw [hy] at HXy HBy xy ry HIxy
  refine hK.out _ _ ⟨xy, ry⟩ ?_
  clear hK K DV hy HX HB xw rv hIx
  (try simp only [Act.put, List.setIfInBounds_toArray, List.set_cons_zero, List.set_cons_succ])
  refine wpAnyK_take (i := 6) (oi := ⟨some 28, _, _, _, _, _⟩) (v := .bool (ve == 0)) [6] rfl (by kernel_rfl) (by kernel_rfl) (by kernel_rfl) (by kernel_rfl) (fun _ _ _ h => h) (Or.inl ⟨by rfl, fun wz hz => ?_⟩) ⟨xy, ry⟩ ?_
  · clear hz; go_simp
  rw [HVB.out]
  have DF : Calls Try.prog 105 #[.agg #[.pointer (some ⟨g, 0, none⟩), .int .i64 n0], .agg L.toArray, .bool b] y (Fin y (finX s4.e b L.toArray (flatP zAt.parts)) (finU s4.e b ((n0 : Int) - (s4.r.length : Nat))) (finE s4.e b)) :=
    fin_att g n0 s4.r s4.e L.toArray b y HXy (by simpa using hLn) HL1.out (by have := HLEN.out; omega) (by omega)
  have hF0 : (finX s4.e b L.toArray (flatP zAt.parts)).size = 67 := by unfold finX; split; exact (by simpa using hLn); rfl
  have hF1 : ∀ v ∈ finX s4.e b L.toArray (flatP zAt.parts), v.oneCell' = true := by
    unfold finX; split
    · exact HL1.out
    · exact AtD.one0
  have HF1 := Lib.hid hF1; clear hF1
  obtain ⟨F, HF⟩ : ∃ F, Hid (finX s4.e b L.toArray (flatP zAt.parts) = F) := ⟨_, rfl⟩
  obtain ⟨U, HU⟩ : ∃ U, Hid (finU s4.e b ((n0 : Int) - (s4.r.length : Nat)) = U) := ⟨_, rfl⟩
  obtain ⟨E, HE⟩ : ∃ E, Hid (finE s4.e b = E) := ⟨_, rfl⟩
  rw [HF.out] at DF hF0 HF1
  rw [HU.out, HE.out] at DF
  have HIF : Hid ((Try.prog.info? 35).map (·.size) = some F.size) := by show _ = _; rw [hF0]; kernel_rfl
  have hLF : L.toArray.size = F.size := by rw [hF0]; simpa using hLn
  (try simp only [Act.put, List.setIfInBounds_toArray, List.set_cons_zero, List.set_cons_succ])
  refine wpAnyK_one (i := 7) (by kernel_rfl) rfl (fun K hK => ?_)
  go_simp
  refine DF.mono ?_
  rintro e wf ⟨rfl, hbf⟩
  have xf := xy.call hbf
  have rf := ry.call hbf
  have HIf := HIxy.below hbf
  have HBf := HBy.trans (hbf.mono HBy.size)
  refine hK.out _ _ ⟨xf, rf⟩ ?_
  clear hK K DF HXy
  (try simp only [Act.put, List.setIfInBounds_toArray, List.set_cons_zero, List.set_cons_succ])
  refine wpAnyK_take (i := 8) (oi := ⟨some 30, _, _, _, _, _⟩) (v := .agg F) [8] rfl (by kernel_rfl) (by kernel_rfl) (by kernel_rfl) (by kernel_rfl) (fun _ _ _ h => h) (Or.inl ⟨by rfl, fun wz hz => ?_⟩) ⟨xf, rf⟩ ?_
  · clear hz; go_simp
  (try simp only [Act.put, List.setIfInBounds_toArray, List.set_cons_zero, List.set_cons_succ])
  refine wpAnyK_take (i := 9) (oi := ⟨some 31, _, _, _, _, _⟩) (v := .int .i64 U) [9] rfl (by kernel_rfl) (by kernel_rfl) (by kernel_rfl) (by kernel_rfl) (fun _ _ _ h => h) (Or.inl ⟨by rfl, fun wz hz => ?_⟩) ⟨xf, rf⟩ ?_
  · clear hz; go_simp
  (try simp only [Act.put, List.setIfInBounds_toArray, List.set_cons_zero, List.set_cons_succ])
  refine wpAnyK_take (i := 10) (oi := ⟨some 32, _, _, _, _, _⟩) (v := .int .i64 E) [10] rfl (by kernel_rfl) (by kernel_rfl) (by kernel_rfl) (by kernel_rfl) (fun _ _ _ h => h) (Or.inl ⟨by rfl, fun wz hz => ?_⟩) ⟨xf, rf⟩ ?_
  · clear hz; go_simp
  (try simp only [Act.put, List.setIfInBounds_toArray, List.set_cons_zero, List.set_cons_succ])
  refine wpAnyK_last (i := 11) (by kernel_rfl) rfl (by kernel_rfl) (fun K hK => ?_)
  rw [if_pos (by rfl)]
  refine wp_store_blk 35 (.tmp 2) (.tmp 30) rfl w.heap.size F rfl rfl L.toArray xf hLF HIF.out HF1.out ?_
  intro w6 U6 B6
  refine hK.out _ _ ?_
  clear hK K
  (try simp only [Act.put, List.setIfInBounds_toArray, List.set_cons_zero, List.set_cons_succ])
  refine wpAnyK_last (i := 12) (by kernel_rfl) rfl (by kernel_rfl) (fun K hK => ?_)
  go_simp
  refine hK.out _ _ ?_
  clear hK K
  (try simp only [Act.put, List.setIfInBounds_toArray, List.set_cons_zero, List.set_cons_succ])
  refine wpAnyK_last (i := 13) (by kernel_rfl) rfl (by kernel_rfl) (fun K hK => ?_)
  go_simp
  refine hK.out _ _ ?_
  clear hK K
  (try simp only [Act.put, List.setIfInBounds_toArray, List.set_cons_zero, List.set_cons_succ])
  refine wpAnyK_done (by kernel_rfl) ?_ _
  go_wp2_with fail
  refine bodyPost_ret (res_cell_tmp2 rfl rfl rfl rfl B6 Try.underlying35 rfl HIF.out) rfl ⟨.slice lva lvl lvc, b, ?_, HVL.out.symm, ⟨HIf.upd U6 (fun z a c e => ?_), fun z a c e _ => by have := HLO9.out z a c e; omega⟩, U6.below HBf (Nat.le_refl _)⟩
  · rw [HPOST.out, HF.out, HU.out, HE.out]; rfl
  · have := HLO9.out z a c e
    omega
end

/-! RcY -/
section
set_option linter.unusedVariables false
set_option linter.unusedSimpArgs false
open Go.RowKit

/-- What DecodeSlashing gives. -/
def SlaA (w : World) (d1 d2 : Value → ClD) (l m : List Int) (s : RS) (N : Nat) (en : Ending) (w' : World) : Prop :=
  ∃ lv mv b, en = .returned (.tuple #[.agg (finX s.e b (flatP [(d1 lv).cells, (d2 mv).cells]) (flatP [zCl.cells, zCl.cells])), .int .i64 (finU s.e b ((N : Int) - (s.r.length : Nat))), .int .i64 (finE s.e b)]) ∧ b = (vlsE [l, m] == 0) ∧ (Ints .i64 w' lv l ∧ New w.heap.size lv) ∧ (Ints .i64 w' mv m ∧ New w.heap.size mv) ∧ Below w.heap.size w w'

theorem SlD.one0 : ∀ v ∈ flatP [zCl.cells, zCl.cells], v.oneCell' = true := fun v hv => (Array.all_eq_true_iff_forall_mem.1 (show (flatP [zCl.cells, zCl.cells]).all (·.oneCell') = true by kernel_rfl)) v hv

set_option maxRecDepth 100000 in
set_option maxHeartbeats 16000000 in
theorem dsla_any (v : Value) (bs : List Int) (w : World) (h : Byt w v bs) (hb : bs.length ≤ 20604) :
    Calls Try.prog 81 #[v] w (SlaA w (clD ⟨bs, 0⟩) (clD (clS ⟨bs, 0⟩)) (clL ⟨bs, 0⟩) (clL (clS ⟨bs, 0⟩)) (clS (clS ⟨bs, 0⟩)) bs.length) := by
  obtain ⟨va, vl, vc, rfl⟩ := h.shape
  have hby : byteL bs := h.rng
  obtain ⟨s0, hs0⟩ : ∃ s0 : RS, s0 = ⟨bs, 0⟩ := ⟨_, rfl⟩
  have hby0 : byteL s0.r := by rw [hs0]; exact hby
  have hln0 : s0.r.length = bs.length := by rw [hs0]
  rw [← hs0]
  obtain ⟨s1, hs1⟩ : ∃ s1, clS s0 = s1 := ⟨_, rfl⟩
  obtain ⟨s2, hs2⟩ : ∃ s2, clS s1 = s2 := ⟨_, rfl⟩
  rw [hs1, hs2]
  have hby1 : byteL s1.r := hs1 ▸ clS_byte hby0
  have hlen : s2.r.length ≤ bs.length := by
    have h1 := clS_len s0
    have h2 := clS_len s1
    rw [hs1] at h1
    rw [hs2] at h2
    omega
  have HR1 := Lib.hid (clL_rng hby0)
  have HR2 := Lib.hid (clL_rng hby1)
  have HO1 := Lib.hid (fun lv => clD_ok hby0 lv)
  have HO2 := Lib.hid (fun lv => clD_ok hby1 lv)
  have HV1 : Hid (∀ lv, (clD s0 lv).v = lv) := fun _ => rfl
  have HV2 : Hid (∀ lv, (clD s1 lv).v = lv) := fun _ => rfl
  have D1 : Hid (∀ lo g (sz : Int) u, Rdr lo u g bs 0 → Calls Try.prog 106 #[.agg #[.pointer (some ⟨g, 0, none⟩), .int .i64 sz]] u (RdC lo u g (clD s0) (clL s0) s1)) := fun lo g sz u hr => by
    have := rclm_any g sz s0 u (by rw [hs0]; exact hr)
    rw [← hs1]; exact this
  have D2 : Hid (∀ lo g (sz : Int) u, Rdr lo u g s1.r s1.e → Calls Try.prog 106 #[.agg #[.pointer (some ⟨g, 0, none⟩), .int .i64 sz]] u (RdC lo u g (clD s1) (clL s1) s2)) := fun lo g sz u hr => by
    have := rclm_any g sz s1 u hr
    rw [← hs2]; exact this
  clear hs1 hs2 hby hby0 hby1
  generalize clD s0 = d1 at *
  generalize clD s1 = d2 at *
  generalize clL s0 = l at *
  generalize clL s1 = m at *
  have hZ0 : (flatP [zCl.cells, zCl.cells]).size = 70 := rfl
  obtain ⟨Z, hZ⟩ : ∃ Z, Z = flatP [zCl.cells, zCl.cells] := ⟨_, rfl⟩
  rw [← hZ] at hZ0
  obtain ⟨hzz, hst⟩ := zero_array (P := Try.prog) (t := 39) (n := 70) Z (by rw [hZ]; kernel_rfl) hZ0 (by rw [hZ]; kernel_rfl)
  have HZ := Lib.hid hZ; clear hZ
  have hba := (Below.refl w.heap.size w).alloc (Nat.le_refl _) (.cells Z 39)
  have D0 := nrd_any (.slice va vl vc) bs _ (h.below hba) hb
  have hsz : (w.alloc (.cells Z 39)).heap.size = w.heap.size + 1 := by simp
  rw [hsz] at D0
  have HD0 := Lib.hid D0; clear D0 h hba hsz
  have HLEN := Lib.hid hlen; clear hlen
  obtain ⟨n0, hn0⟩ : ∃ n0, bs.length = n0 := ⟨_, rfl⟩
  rw [hn0] at HD0 HLEN hb hln0 ⊢
  clear hn0 hln0 hs0
  obtain ⟨ve, HVE⟩ : ∃ ve, Hid (vlsE [l, m] = ve) := ⟨_, rfl⟩
  obtain ⟨b, HVB⟩ : ∃ b, Hid ((ve == 0) = b) := ⟨_, rfl⟩
  have HL1 := Lib.hid (fun lv => ClD.len (HO1.out lv))
  have HL2 := Lib.hid (fun lv => ClD.len (HO2.out lv))
  have HI1 : Hid (∀ lv, (Try.prog.info? 37).map (·.size) = some (d1 lv).cells.length) := fun lv => by rw [HL1.out]; kernel_rfl
  have HI2 : Hid (∀ lv, (Try.prog.info? 37).map (·.size) = some (d2 lv).cells.length) := fun lv => by rw [HL2.out]; kernel_rfl
  go_enter Try.func81, Try.ntmps81
  go_wp2_with (first
    | ((with_reducible refine at_store (.tmp 13) ?_); refine wpList_store_ds rfl 37 (.tmp 13) (.tmp 12) rfl R2.out 1 35 (d2 (.slice ma mn mc)).cells (by rw [HL2.out]; rfl) rfl rfl rfl (HI2.out _) (ClD.one _ (by rw [HV2.out]; rfl)) ?_; intro x2 U2' S'; have S2 := Lib.hid S'; have HU2 := Lib.hid U2'; clear S' U2')
    | (go_at_call 106; refine (D2.out _ _ _ _ S1.out.rd).mono ?_; rintro e y2 ⟨mv, rfl, hi, hlo, hr, hg'⟩; obtain ⟨ma, mn, mc, rfl⟩ := ints_shape hi; have R2 := Lib.hid (S1.out.read (s' := s2) hr hg'); have HIM := Lib.hid hi; have HLM := Lib.hid (hlo : ∀ x a b, Value.slice ma mn mc = .slice (some x) a b → x1.heap.size ≤ x.block); have HIL2 := Lib.hid (HIL1.out.grown hg' (fun z a c e => by have := HLL1.out z a c e; have := S0.out.rd.lt; omega)); clear hr hg' hi hlo)
    | ((with_reducible refine at_store (.tmp 10) ?_); refine wpList_store_ds rfl 37 (.tmp 10) (.tmp 9) rfl R1.out 0 0 (d1 (.slice la ln lc)).cells (by rw [HL1.out]; rfl) rfl rfl rfl (HI1.out _) (ClD.one _ (by rw [HV1.out]; rfl)) ?_; intro x1 U1' S'; have S1 := Lib.hid S'; clear S'; have k10 := S1.out.rv.cell 0; have k11 := S1.out.rv.cell 1; have HIL1 := Lib.hid (HIL.out.upd U1' (fun z a c e => by have := HLL1.out z a c e; have := S0.out.xv.lt; omega)); clear U1')
    | (go_at_call 106; refine (D1.out _ _ _ _ S0.out.rd).mono ?_; rintro e y1 ⟨lv, rfl, hi, hlo, hr, hg'⟩; obtain ⟨la, ln, lc, rfl⟩ := ints_shape hi; have R1 := Lib.hid (S0.out.read (s' := s1) hr hg'); have HIL := Lib.hid hi; have HLL1 := Lib.hid (hlo : ∀ x a b, Value.slice la ln lc = .slice (some x) a b → x0.heap.size ≤ x.block); clear hr hg' hi hlo)
    | ((with_reducible refine at_store (.tmp 5) ?_); refine wpList_store_blk rfl 141 (.tmp 5) _ rfl w1.heap.size #[.pointer (some ⟨g, 0, none⟩), .int .i64 n0] rfl rfl #[.pointer none, .int .i64 0] (Blk.new rfl) rfl (by kernel_rfl) (by intro v hv; simp at hv; rcases hv with rfl | rfl <;> rfl) ?_; intro x0 U2 B2
       have S0 := Lib.hid (DS.start (ps := [zCl.cells, zCl.cells]) (ls := [35, 35]) (size := (n0 : Int)) HRR1.out hg1 (by rw [← HZ.out]; exact HB1.out) rfl U2 B2)
       clear U2 B2
       have k00 := S0.out.rv.cell 0
       have k01 := S0.out.rv.cell 1)
    | (go_at_call 97; refine HD0.out.mono ?_; rintro e w1 ⟨g, rfl, hr1, hg1, hb1⟩; have HRR1 := Lib.hid hr1; clear hr1; have HB1 := Lib.hid hb1; clear hb1))
  have hx1 := S1.out.xv.lt
  have hx0 := S0.out.xv.lt
  have HIM2 := Lib.hid (HIM.out.upd HU2.out fun z a c e => by have := HLM.out z a c e; omega)
  have HIL3 := Lib.hid (HIL2.out.upd HU2.out fun z a c e => by have := HLL1.out z a c e; omega)
  have hgg : w.heap.size ≤ g := by omega
  have hxx : w.heap.size < x0.heap.size := hx0
  clear R1 R2 S0 S1 HIL HIL1 HIL2 HIM HU2 HRR1 HB1 D1 D2 HD0 k00 k01 k10 k11 hzz hst
  have xv : Blk x2 w.heap.size (flatP [(d1 (.slice la ln lc)).cells, (d2 (.slice ma mn mc)).cells]) := S2.out.xv
  obtain ⟨L, hL⟩ : ∃ L, L = [(d1 (.slice la ln lc)).cells, (d2 (.slice ma mn mc)).cells].flatten := ⟨_, rfl⟩
  have hLn : L.length = 70 := by rw [hL]; simp [HL1.out, HL2.out]
  have hL1 : ∀ v ∈ L.toArray, v.oneCell' = true := by
    intro v hv
    rw [hL] at hv
    simp only [List.mem_toArray, List.mem_flatten] at hv
    obtain ⟨p, hp, hv⟩ := hv
    simp only [List.mem_cons, List.not_mem_nil, or_false] at hp
    rcases hp with rfl | rfl
    · exact ClD.one _ (by rw [HV1.out]; rfl) v hv
    · exact ClD.one _ (by rw [HV2.out]; rfl) v hv
  have hc1 : L[34]? = some (.slice la ln lc) := by
    rw [hL, List.flatten_cons, List.getElem?_append_left (by rw [HL1.out]; omega), ClD.at34 (HO1.out _), HV1.out]
  have hc2 : L[69]? = some (.slice ma mn mc) := by
    rw [hL, List.flatten_cons, List.getElem?_append_right (by rw [HL1.out]; omega), HL1.out]
    show ([(d2 (.slice ma mn mc)).cells].flatten)[34]? = _
    rw [List.flatten_cons, List.flatten_nil, List.append_nil, ClD.at34 (HO2.out _), HV2.out]
  have xv' : Blk x2 w.heap.size L.toArray := by rw [hL]; exact xv
  have HPOST : Hid (flatP [(d1 (.slice la ln lc)).cells, (d2 (.slice ma mn mc)).cells] = L.toArray) := by show _ = _; rw [hL]; rfl
  have hiL : (Try.prog.info? 39).map (·.size) = some L.toArray.size := by rw [List.size_toArray, hLn]; kernel_rfl
  have HIL := Lib.hid hiL
  clear hL xv hiL
  have HL1o := Lib.hid hL1; clear hL1
  have HX := S2.out.rd.drew
  have HB := Below.drewN (n := 1) (S2.out.bel hgg)
  change Below w.heap.size w x2.drew at HB
  have rv : Blk x2.drew w1.heap.size #[.pointer (some ⟨g, 0, none⟩), .int .i64 n0] := S2.out.rv
  have xw : Blk x2.drew w.heap.size L.toArray := xv'
  have hIx : Ints .i64 x2.drew (.slice la ln lc) l := HIL3.out
  have hIy : Ints .i64 x2.drew (.slice ma mn mc) m := HIM2.out
  have hne := S2.out.xr
  have hxg := S2.out.xg
  clear xv' HIL3 HIM2 S2
  obtain ⟨x, hx⟩ : ∃ x, x2.drew = x := ⟨_, rfl⟩
  rw [hx] at HX HB rv xw hIx hIy
  refine wp_region_k (S := fun u' => Blk u' w.heap.size L.toArray ∧ Blk u' w1.heap.size #[.pointer (some ⟨g, 0, none⟩), .int .i64 n0]) (k := 15) (by kernel_rfl) ?_
  rw [hx]
  clear hx
  (try simp only [Act.put, List.setIfInBounds_toArray, List.set_cons_zero, List.set_cons_succ])
  refine k_load 0 [0] rfl (by kernel_rfl) (by kernel_rfl) (by kernel_rfl) (by kernel_rfl) (fun _ _ _ _ h => h) rfl 141 (.tmp 5) rfl w1.heap.size 0 rfl [.pointer (some ⟨g, 0, none⟩), .int .i64 n0] _ (fun u' hu => by simpa using hu.2.range) Try.underlying141 rfl (by kernel_rfl) ⟨xw, rv⟩ ?_
  (try simp only [Act.put, List.setIfInBounds_toArray, List.set_cons_zero, List.set_cons_succ])
  refine k_load 1 [1] rfl (by kernel_rfl) (by kernel_rfl) (by kernel_rfl) (by kernel_rfl) (fun _ _ _ _ h => h) rfl 39 (.tmp 2) rfl w.heap.size 0 rfl L _ (fun u' hu => by simpa using hu.1.range) Try.underlying39 rfl (by simpa using HIL.out) ⟨xw, rv⟩ ?_
  (try simp only [Act.put, List.setIfInBounds_toArray, List.set_cons_zero, List.set_cons_succ])
  refine wpAnyK_take (i := 2) (oi := ⟨some 16, _, _, _, _, _⟩) (v := .pointer (some ⟨w.heap.size, 0, none⟩)) [2] rfl (by kernel_rfl) (by kernel_rfl) (by kernel_rfl) (by kernel_rfl) (fun _ _ _ h => h) (Or.inl ⟨by rfl, fun wz hz => ?_⟩) ⟨xw, rv⟩ ?_
  · clear hz; go_simp; first | done | with_reducible rfl | rfl
  (try simp only [Act.put, List.setIfInBounds_toArray, List.set_cons_zero, List.set_cons_succ])
  refine wpAnyK_take (i := 3) (oi := ⟨some 17, _, _, _, _, _⟩) (v := .pointer (some ⟨w.heap.size, 34, none⟩)) [3] rfl (by kernel_rfl) (by kernel_rfl) (by kernel_rfl) (by kernel_rfl) (fun _ _ _ h => h) (Or.inl ⟨by rfl, fun wz hz => ?_⟩) ⟨xw, rv⟩ ?_
  · clear hz; go_simp; first | done | with_reducible rfl | rfl
  (try simp only [Act.put, List.setIfInBounds_toArray, List.set_cons_zero, List.set_cons_succ])
  refine k_load1 4 [4] rfl (by kernel_rfl) (by kernel_rfl) (by kernel_rfl) (by kernel_rfl) (fun _ _ _ _ h => h) rfl 33 (.tmp 17) rfl w.heap.size 34 rfl (.slice la ln lc) _ (fun u' hu => by rw [hu.1.cell]; simpa using hc1) Try.underlying33 rfl ⟨xw, rv⟩ ?_
  (try simp only [Act.put, List.setIfInBounds_toArray, List.set_cons_zero, List.set_cons_succ])
  refine wpAnyK_take (i := 5) (oi := ⟨some 19, _, _, _, _, _⟩) (v := .pointer (some ⟨w.heap.size, 35, none⟩)) [5] rfl (by kernel_rfl) (by kernel_rfl) (by kernel_rfl) (by kernel_rfl) (fun _ _ _ h => h) (Or.inl ⟨by rfl, fun wz hz => ?_⟩) ⟨xw, rv⟩ ?_
  · clear hz; go_simp; first | done | with_reducible rfl | rfl
  (try simp only [Act.put, List.setIfInBounds_toArray, List.set_cons_zero, List.set_cons_succ])
  refine wpAnyK_take (i := 6) (oi := ⟨some 20, _, _, _, _, _⟩) (v := .pointer (some ⟨w.heap.size, 69, none⟩)) [6] rfl (by kernel_rfl) (by kernel_rfl) (by kernel_rfl) (by kernel_rfl) (fun _ _ _ h => h) (Or.inl ⟨by rfl, fun wz hz => ?_⟩) ⟨xw, rv⟩ ?_
  · clear hz; go_simp; first | done | with_reducible rfl | rfl
  (try simp only [Act.put, List.setIfInBounds_toArray, List.set_cons_zero, List.set_cons_succ])
  refine k_load1 7 [7] rfl (by kernel_rfl) (by kernel_rfl) (by kernel_rfl) (by kernel_rfl) (fun _ _ _ _ h => h) rfl 33 (.tmp 20) rfl w.heap.size 69 rfl (.slice ma mn mc) _ (fun u' hu => by rw [hu.1.cell]; simpa using hc2) Try.underlying33 rfl ⟨xw, rv⟩ ?_
  (try simp only [Act.put, List.setIfInBounds_toArray, List.set_cons_zero, List.set_cons_succ])
  refine wpAnyK_one (i := 8) (by kernel_rfl) rfl (fun K hK => ?_)
  go_simp
  refine hK.out _ _ ⟨xw.alloc _, rv.alloc _⟩ ?_
  clear hK K
  (try simp only [Act.put, List.setIfInBounds_toArray, List.set_cons_zero, List.set_cons_succ])
  have hal := (Below.refl x.heap.size x).alloc (Nat.le_refl _) (.cells #[Value.slice la ln lc, .slice ma mn mc] 33)
  have DV := vlists_any x.heap.size 2 _ _ _ (lists2 (w := x) (y1 := Value.slice la ln lc) (y2 := Value.slice ma mn mc) (l1 := l) (l2 := m) (t := 33) rfl ⟨hIx, HR1.out⟩ ⟨hIy, HR2.out⟩) (by omega)
  rw [HVE.out] at DV
  have HIxy := hIx.below hal
  have HIyy := hIy.below hal
  have HXy := HX.below hal
  have HBy := HB.alloc HB.size (.cells #[Value.slice la ln lc, .slice ma mn mc] 33)
  have xy := xw.alloc (.cells #[Value.slice la ln lc, .slice ma mn mc] 33)
  have ry := rv.alloc (.cells #[Value.slice la ln lc, .slice ma mn mc] 33)
  refine wpAnyK_one (i := 9) (by kernel_rfl) rfl (fun K hK => ?_)
  go_simp
  refine DV.mono ?_
  rintro e y ⟨rfl, hy⟩
  rw [hy] at HXy HBy xy ry HIxy HIyy
  refine hK.out _ _ ⟨xy, ry⟩ ?_
  clear hK K DV hy HX HB xw rv hIx hIy hal
  (try simp only [Act.put, List.setIfInBounds_toArray, List.set_cons_zero, List.set_cons_succ])
  refine wpAnyK_take (i := 10) (oi := ⟨some 24, _, _, _, _, _⟩) (v := .bool (ve == 0)) [10] rfl (by kernel_rfl) (by kernel_rfl) (by kernel_rfl) (by kernel_rfl) (fun _ _ _ h => h) (Or.inl ⟨by rfl, fun wz hz => ?_⟩) ⟨xy, ry⟩ ?_
  · clear hz; go_simp; first | done | with_reducible rfl | rfl
  (try simp only [Act.put, List.setIfInBounds_toArray, List.set_cons_zero, List.set_cons_succ])
  rw [HVB.out]
  have DF : Calls Try.prog 107 #[.agg #[.pointer (some ⟨g, 0, none⟩), .int .i64 n0], .agg L.toArray, .bool b] y (Fin y (finX s2.e b L.toArray (flatP [zCl.cells, zCl.cells])) (finU s2.e b ((n0 : Int) - (s2.r.length : Nat))) (finE s2.e b)) :=
    fin_sla g n0 s2.r s2.e L.toArray b y HXy (by simpa using hLn) HL1o.out (by have := HLEN.out; omega) (by omega)
  have hF0 : (finX s2.e b L.toArray (flatP [zCl.cells, zCl.cells])).size = 70 := by unfold finX; split; exact (by simpa using hLn); rfl
  have hF1 : ∀ v ∈ finX s2.e b L.toArray (flatP [zCl.cells, zCl.cells]), v.oneCell' = true := by
    unfold finX; split
    · exact HL1o.out
    · exact SlD.one0
  have HF1 := Lib.hid hF1; clear hF1
  obtain ⟨F, HF⟩ : ∃ F, Hid (finX s2.e b L.toArray (flatP [zCl.cells, zCl.cells]) = F) := ⟨_, rfl⟩
  obtain ⟨U, HU⟩ : ∃ U, Hid (finU s2.e b ((n0 : Int) - (s2.r.length : Nat)) = U) := ⟨_, rfl⟩
  obtain ⟨E, HE⟩ : ∃ E, Hid (finE s2.e b = E) := ⟨_, rfl⟩
  rw [HF.out] at DF hF0 HF1
  rw [HU.out, HE.out] at DF
  have HIF : Hid ((Try.prog.info? 39).map (·.size) = some F.size) := by show _ = _; rw [hF0]; kernel_rfl
  have hLF : L.toArray.size = F.size := by rw [hF0]; simpa using hLn
  refine wpAnyK_one (i := 11) (by kernel_rfl) rfl (fun K hK => ?_)
  go_simp
  refine DF.mono ?_
  rintro e wf ⟨rfl, hbf⟩
  have xf := xy.call hbf
  have rf := ry.call hbf
  have HIf := HIxy.below hbf
  have HIg := HIyy.below hbf
  have HBf := HBy.trans (hbf.mono HBy.size)
  refine hK.out _ _ ⟨xf, rf⟩ ?_
  clear hK K DF HXy
  (try simp only [Act.put, List.setIfInBounds_toArray, List.set_cons_zero, List.set_cons_succ])
  refine wpAnyK_take (i := 12) (oi := ⟨some 26, _, _, _, _, _⟩) (v := .agg F) [12] rfl (by kernel_rfl) (by kernel_rfl) (by kernel_rfl) (by kernel_rfl) (fun _ _ _ h => h) (Or.inl ⟨by rfl, fun wz hz => ?_⟩) ⟨xf, rf⟩ ?_
  · clear hz; go_simp; first | done | with_reducible rfl | rfl
  (try simp only [Act.put, List.setIfInBounds_toArray, List.set_cons_zero, List.set_cons_succ])
  refine wpAnyK_take (i := 13) (oi := ⟨some 27, _, _, _, _, _⟩) (v := .int .i64 U) [13] rfl (by kernel_rfl) (by kernel_rfl) (by kernel_rfl) (by kernel_rfl) (fun _ _ _ h => h) (Or.inl ⟨by rfl, fun wz hz => ?_⟩) ⟨xf, rf⟩ ?_
  · clear hz; go_simp; first | done | with_reducible rfl | rfl
  (try simp only [Act.put, List.setIfInBounds_toArray, List.set_cons_zero, List.set_cons_succ])
  refine wpAnyK_take (i := 14) (oi := ⟨some 28, _, _, _, _, _⟩) (v := .int .i64 E) [14] rfl (by kernel_rfl) (by kernel_rfl) (by kernel_rfl) (by kernel_rfl) (fun _ _ _ h => h) (Or.inl ⟨by rfl, fun wz hz => ?_⟩) ⟨xf, rf⟩ ?_
  · clear hz; go_simp; first | done | with_reducible rfl | rfl
  (try simp only [Act.put, List.setIfInBounds_toArray, List.set_cons_zero, List.set_cons_succ])
  refine wpAnyK_last (i := 15) (by kernel_rfl) rfl (by kernel_rfl) (fun K hK => ?_)
  rw [if_pos (by rfl)]
  refine wp_store_blk 39 (.tmp 2) (.tmp 26) rfl w.heap.size F rfl rfl L.toArray xf hLF HIF.out HF1.out ?_
  intro w6 U6 B6
  refine hK.out _ _ ?_
  clear hK K
  (try simp only [Act.put, List.setIfInBounds_toArray, List.set_cons_zero, List.set_cons_succ])
  refine wpAnyK_last (i := 16) (by kernel_rfl) rfl (by kernel_rfl) (fun K hK => ?_)
  go_simp
  refine hK.out _ _ ?_
  clear hK K
  (try simp only [Act.put, List.setIfInBounds_toArray, List.set_cons_zero, List.set_cons_succ])
  refine wpAnyK_last (i := 17) (by kernel_rfl) rfl (by kernel_rfl) (fun K hK => ?_)
  go_simp
  refine hK.out _ _ ?_
  clear hK K
  (try simp only [Act.put, List.setIfInBounds_toArray, List.set_cons_zero, List.set_cons_succ])
  refine wpAnyK_done (by kernel_rfl) ?_ _
  go_wp2_with fail
  refine bodyPost_ret (res_cell_tmp2 rfl rfl rfl rfl B6 Try.underlying39 rfl HIF.out) rfl ⟨.slice la ln lc, .slice ma mn mc, b, by rw [HPOST.out, HF.out, HU.out, HE.out]; rfl, by rw [HVE.out, HVB.out], ⟨HIf.upd U6 (fun z a c e => ?_), fun z a c e _ => by have := HLL1.out z a c e; omega⟩, ⟨HIg.upd U6 (fun z a c e => ?_), fun z a c e _ => by have := HLM.out z a c e; omega⟩, U6.below HBf (Nat.le_refl _)⟩
  · have := HLL1.out z a c e
    omega
  · have := HLM.out z a c e
    omega
end

end Go.Proofs.Ytmnojgdfbhdkhaa
