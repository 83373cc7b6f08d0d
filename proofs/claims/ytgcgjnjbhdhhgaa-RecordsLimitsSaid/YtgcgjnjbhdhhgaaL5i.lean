/- The walk of RecordsLimits. -/
import Derived.Test.YtgcgjnjbhdhhgaaRcW
import Derived.Test.YtgcgjnjbhdhhgaaRcT
set_option linter.unusedVariables false
namespace Go.Proofs.Ytgcgjnjbhdhhgaa
open Go.RowKit

theorem andI1 (n : Int) : bits .and .i64 n 1 = n % 2 := by
  have e : (BitVec.ofInt 64 n &&& BitVec.ofInt 64 1).toNat = (n % 2).toNat := by
    have h1 : (BitVec.ofInt 64 1).toNat = 1 := by decide
    rw [BitVec.toNat_and, h1, Nat.and_one_is_mod, BitVec.toNat_ofInt]
    omega
  show IntKind.i64.wrap ((BitVec.ofInt 64 n &&& BitVec.ofInt 64 1).toNat : Int) = n % 2
  rw [e, Int.toNat_of_nonneg (by omega), IntKind.wrap_i64]
  omega

theorem vlGo_first {l : List Int} {n : Int} : ∀ f i j, i ≤ j → j < i + f → (∀ m, i ≤ m → m < j → okAt l n m = 0) → okAt l n j ≠ 0 → vlGo l n f i = okAt l n j
  | 0, i, j, h1, h2, _, _ => by omega
  | f + 1, i, j, h1, h2, h3, h4 => by
    rw [vlGo]
    by_cases hij : i = j
    · subst hij; rw [if_pos h4]
    · rw [if_neg (by simpa using h3 i (Nat.le_refl _) (by omega))]
      exact vlGo_first f (i + 1) j (by omega) (by omega) (fun m a b => h3 m (by omega) b) h4

def upTo (n : Nat) : List Int := (List.range n).map fun (i : Nat) => (i : Int)
theorem upTo_len (n : Nat) : (upTo n).length = n := by simp [upTo]
theorem upTo_at {n i : Nat} (h : i < n) : (upTo n).getD i 0 = i := by simp [upTo, List.getD, h]
theorem upTo_ok {n i : Nat} (h : i < n) (h2 : i < 1024) : okAt (upTo n) 1024 i = 0 := by
  refine okAt_of (by rw [upTo_at h]; omega) (by rw [upTo_at h]; omega) fun h0 => ?_
  rw [upTo_at h, upTo_at (by omega)]; omega
theorem vl1024 : vlE (upTo 1024) 1024 = 0 := by
  unfold vlE
  rw [upTo_len, if_neg (by omega)]
  exact vlGo_of _ _ fun j _ h2 => upTo_ok (by omega) (by omega)
theorem vl1025 : vlE (upTo 1025) 1024 = 3 := by
  have h : okAt (upTo 1025) 1024 1024 = 3 := okAt_bad1 (.inr (by rw [upTo_at (by omega)]; omega))
  unfold vlE
  rw [upTo_len, if_neg (by omega), vlGo_first 1025 0 1024 (by omega) (by omega) (fun m _ h2 => upTo_ok (by omega) h2) (by rw [h]; omega), h]

theorem rep_nums {w : World} {b n : Nat} (h : Blk w b (Array.replicate n (.int .u64 0))) (hn : n ≤ 1000000) : NumsV w (.slice (some ⟨b, 0, none⟩) n n) (List.replicate n 0) := by
  refine ⟨⟨_, _, _, rfl, by simp, by unfold maxLen; omega, .inr ⟨b, 0, rfl, h.lt, fun i hi => ?_⟩⟩, fun x hx => by rw [List.eq_of_mem_replicate hx]; omega⟩
  rw [Nat.zero_add, h.cell]
  simp [hi, List.getD]

set_option maxRecDepth 100000 in
set_option maxHeartbeats 8000000 in
theorem lim_any (a0 : Int) (k N : Nat) (E1 E2 : Int) (w : World) (w0 : -9223372036854775808 ≤ a0 ∧ a0 ≤ 9223372036854775807) (hk : a0 % 2 = k) (hN : N = 1024 + k) (hE1 : vlE (upTo N) 1024 = E1) (hE2 : (if 1024 < N then (3 : Int) else 0) = E2) (hEk : (k = 0 ∧ E1 = 0 ∧ E2 = 0) ∨ (k = 1 ∧ E1 = 3 ∧ E2 = 3)) :
    Calls Try.prog 8 #[.int .i64 a0] w fun e w' => e = .returned (.bool true) ∧ Below w.heap.size w w' := by
  have hand := andI1 a0
  rw [hk] at hand
  have hz : zCp.ok := ⟨by show (0 : Int) ≤ 0; omega, by show (0 : Int) ≤ _; omega, zeroR_is⟩
  have hkk : k ≤ 1 := by omega
  obtain ⟨Z, hZ⟩ : ∃ Z, Z = flatP zAt.parts := ⟨_, rfl⟩
  have hZ0 : Z.size = 67 := by rw [hZ]; rfl
  obtain ⟨hzz, hst⟩ := zero_array (P := Try.prog) (t := 45) (n := 67) Z (by rw [hZ]; kernel_rfl) hZ0 (by rw [hZ]; kernel_rfl)
  have hzs : ∀ v : Value, flatP [[Value.int .u64 0], bytesL zeroR, zCp.cells, [v]] = Z.setIfInBounds 66 v := fun v => by rw [hZ]; rfl
  obtain ⟨Y, hY⟩ : ∃ Y, Y = flatP zTb.parts := ⟨_, rfl⟩
  have hY0 : Y.size = 34 := by rw [hY]; rfl
  obtain ⟨hyz, hyt⟩ := zero_array (P := Try.prog) (t := 64) (n := 34) Y (by rw [hY]; kernel_rfl) hY0 (by rw [hY]; kernel_rfl)
  have hys : ∀ v : Value, flatP [zCp.cells, [v]] = Y.setIfInBounds 33 v := fun v => by rw [hY]; rfl
  have hZe : (Z = #[]) = False := by
    rw [eq_iff_iff, iff_false]; intro h; rw [h] at hZ0; cases hZ0
  have hYe : (Y = #[]) = False := by
    rw [eq_iff_iff, iff_false]; intro h; rw [h] at hY0; cases hY0
  have D1 : Hid (∀ v u, IntsV u v (upTo N) → Calls Try.prog 17 #[.agg (Z.setIfInBounds 66 v)] u fun e u' => ∃ v', e = .returned (.tuple #[v', .int .i64 E1]) ∧ Below u.heap.size u u') := fun v u h => by
    have := eatt_any 0 zeroR zCp v (upTo N) u (by omega) zeroR_is hz h (by rw [upTo_len]; omega)
    rw [hE1, hzs] at this
    exact this.mono fun e u' ⟨v', he, _, hb⟩ => ⟨v', he, hb⟩
  have D2 : Hid (∀ v l u, NumsV u v l → l.length = N → Calls Try.prog 25 #[.agg (Y.setIfInBounds 33 v)] u fun e u' => ∃ v', e = .returned (.tuple #[v', .int .i64 E2]) ∧ Below u.heap.size u u') := fun v l u h hl => by
    have := etab_any zCp v l u hz h (by omega)
    rw [hl, hE2, hys] at this
    exact this.mono fun e u' ⟨v', he, _, hb⟩ => ⟨v', he, hb⟩
  have DA := Lib.hid awake5
  clear hzs hys hZ hY hE1 hE2 hz
  have hN1 : (1024 : Int) + (k : Int) = (N : Int) := by omega
  have hNb : N ≤ 1025 := by omega
  have HN := Lib.hid hN; clear hN
  have HN1 := Lib.hid hN1; clear hN1
  have HK := Lib.hid hk; clear hk
  go_enter Try.func8, Try.ntmps8
  have hn1 := HN1.out
  go_wp2_with ((with_reducible refine at_makeS (.tmp 13) ?_); refine wpList_make_ints rfl (.tmp 13) 22 3 .i64 rfl Try.underlying22 (by kernel_rfl) .i64 N rfl (by omega) ?_; intro w2 hb2 hz2 hk2; have HB2 := Lib.hid hb2; have HK2 := Lib.hid hk2; clear hk2 hb2 hz2)
  go_loopw [5] (fun i wr => ∃ k : Nat, k ≤ N ∧ i = .int .i64 k ∧ Blk wr w.heap.size (rowK .i64 (fun i => (i : Int)) N k) ∧ Below w.heap.size w wr) (fun i _ => N - (intOf i).toNat)
  case atStart => exact ⟨0, Nat.zero_le _, rfl, HK2.out.to (rowK_zero _ _ _), HB2.out⟩
  case round =>
    obtain ⟨j, hj, rfl, hrow, hbl⟩ := hrel
    by_cases hlt : j < N
    · have c0 : wr.cell? ⟨w.heap.size, j, none⟩ = some (.int .i64 0) := by rw [hrow.cell, rowK_at hlt, if_neg (by omega)]
      have c1 := hrow.free
      have hrow5 := hrow.setCell (j := j) (v := .int .i64 (j : Int))
      have hset := rowK_set (kd := .i64) (f := fun i => (i : Int)) hlt
      rw [hset] at hrow5
      have HROW := Lib.hid hrow5; clear hrow hrow5 hset
      have HBL := Lib.hid (hbl.setCell (p := ⟨w.heap.size, j, none⟩) (Nat.le_refl _) (.int .i64 (j : Int))); clear hbl
      go_wp2_with fail
      go_roundw
      case rel => exact ⟨j + 1, by omega, by go_num, HROW.out, HBL.out⟩
      case measure => simp [intOf]; omega
    · obtain rfl : j = N := by omega
      have hIx : IntsV wr (.slice (some ⟨w.heap.size, 0, none⟩) j j) (upTo j) := ⟨rowK_ints hrow (by unfold maxLen; omega), fun x hx => by
        unfold upTo at hx
        obtain ⟨i, hi, rfl⟩ := List.mem_map.1 hx
        rw [List.mem_range] at hi
        omega⟩
      have HIX := Lib.hid hIx; clear hIx hrow
      have HBL := Lib.hid hbl; clear hbl
      rcases hEk with ⟨rfl, rfl, rfl⟩ | ⟨rfl, rfl, rfl⟩
      · obtain rfl : j = 1024 := by have := HN.out; omega
        go_wp2_with (first
          | (go_at_call 17; refine (D1.out _ _ HIX.out).mono ?_; rintro e w3 ⟨v3, rfl, hb3⟩; have HB3 := Lib.hid (HBL.out.trans (hb3.mono HBL.out.size)); clear hb3)
          | ((with_reducible refine at_makeS (.tmp 33) ?_); refine wpList_make_ints rfl (.tmp 33) 62 27 .u64 rfl Try.underlying62 (by kernel_rfl) .i64 1024 rfl (by omega) ?_; intro w4 hb4 hz4 hk4; have HN4 := Lib.hid (rep_nums hk4 (by omega)); have HB4 := Lib.hid (HB3.out.trans (hb4.mono HB3.out.size)); clear hb4 hz4 hk4)
          | (go_at_call 25; refine (D2.out _ _ _ HN4.out (by simp)).mono ?_; rintro e w5 ⟨v5, rfl, hb5⟩; have HB5 := Lib.hid (HB4.out.trans (hb5.mono HB4.out.size)); clear hb5)
          | (go_at_call 10; refine (DA.out _).mono ?_; rintro e w6 ⟨rfl, hb6⟩; have HB6 := Lib.hid (HB5.out.trans (hb6.mono HB5.out.size)); clear hb6))
        go_ret
        exact ⟨rfl, HB6.out⟩
      · obtain rfl : j = 1025 := by have := HN.out; omega
        go_wp2_with (first
          | (go_at_call 17; refine (D1.out _ _ HIX.out).mono ?_; rintro e w3 ⟨v3, rfl, hb3⟩; have HB3 := Lib.hid (HBL.out.trans (hb3.mono HBL.out.size)); clear hb3)
          | ((with_reducible refine at_makeS (.tmp 33) ?_); refine wpList_make_ints rfl (.tmp 33) 62 27 .u64 rfl Try.underlying62 (by kernel_rfl) .i64 1025 rfl (by omega) ?_; intro w4 hb4 hz4 hk4; have HN4 := Lib.hid (rep_nums hk4 (by omega)); have HB4 := Lib.hid (HB3.out.trans (hb4.mono HB3.out.size)); clear hb4 hz4 hk4)
          | (go_at_call 25; refine (D2.out _ _ _ HN4.out (by simp)).mono ?_; rintro e w5 ⟨v5, rfl, hb5⟩; have HB5 := Lib.hid (HB4.out.trans (hb5.mono HB4.out.size)); clear hb5)
          | (go_at_call 10; refine (DA.out _).mono ?_; rintro e w6 ⟨rfl, hb6⟩; have HB6 := Lib.hid (HB5.out.trans (hb6.mono HB5.out.size)); clear hb6))
        go_ret
        exact ⟨rfl, HB6.out⟩

theorem walk_RecordsLimits (a0 : Int) (w : World) (w0 : (Lit.int .i64 a0).wf = true) :
    Calls Try.prog 8 #[.int .i64 a0] w fun e w' => e = .returned (.bool true) ∧ Below w.heap.size w w' := by
  have h := wf_i64 w0
  by_cases hk : a0 % 2 = 0
  · exact lim_any a0 0 1024 0 0 w h (by omega) rfl vl1024 rfl (.inl ⟨rfl, rfl, rfl⟩)
  · exact lim_any a0 1 1025 3 3 w h (by omega) rfl vl1025 rfl (.inr ⟨rfl, rfl, rfl⟩)

end Go.Proofs.Ytgcgjnjbhdhhgaa
