/- The reference's Insert, Punish. -/
import Derived.Test.YtcbjjafjomdklaaEvA
set_option linter.unusedVariables false

set_option linter.unusedSimpArgs false
namespace Go.Proofs.Ytcbjjafjomdklaa
open Go.RowKit

set_option maxRecDepth 100000

theorem size_int (w : World) : (sizeOf 3).run Try.prog w = .ok 1 w := Try.sizeOf3 w

/-- What Insert promises. -/
def InsE (v : Value) (l : List Int) (n : Int) (w : World) (e : Ending) (w' : World) : Prop :=
  ∃ v', e = .returned v' ∧ IntsV w' v' (insI l n) ∧ CapOK v' ∧ (∀ N, N ≤ w.heap.size → New N v → New N v') ∧ Below w.heap.size w w'

theorem insI_rng {l : List Int} {n : Int} (hl : ∀ x ∈ l, -9223372036854775808 ≤ x ∧ x ≤ 9223372036854775807) (hn : -9223372036854775808 ≤ n ∧ n ≤ 9223372036854775807) : ∀ x ∈ insI l n, -9223372036854775808 ≤ x ∧ x ≤ 9223372036854775807 := fun x hx => by
  rcases insI_mem.1 hx with rfl | h
  · exact hn
  · exact hl x h

theorem one_ints (n : Int) (u : World) : Ints .i64 (u.alloc (.cells #[.int .i64 n] 3)) (.slice (some ⟨u.heap.size, 0, none⟩) 1 1) [n] :=
  ⟨_, 1, 1, rfl, rfl, by unfold maxLen; omega, .inr ⟨u.heap.size, 0, rfl, by simp, fun i hi => by
    obtain rfl : i = 0 := by omega
    exact (Blk.new rfl).cell 0⟩⟩

set_option maxHeartbeats 8000000 in
theorem insert_any (v : Value) (l : List Int) (n : Int) (w : World) (h : IntsV w v l) (hc : CapOK v) (hlen : l.length ≤ 1000000) (hn : -9223372036854775808 ≤ n ∧ n ≤ 9223372036854775807) :
    Calls Try.prog 27 #[v, .int .i64 n] w (InsE v l n w) := by
  have HCAP := Lib.hid hc
  obtain ⟨a, len, cap, rfl⟩ := ints_shape' h.1
  have hcl := hc _ _ _ rfl
  have HI := Lib.hid h
  have HL := Lib.hid h.len
  have HII := Lib.hid info_int
  have HRNG := Lib.hid (insI_rng h.2 hn)
  have hl0 := h.len.1
  rw [hl0] at hlen
  clear h hl0 hc
  go_enter Try.func27, Try.ntmps27
  go_wp2_with fail
  go_loopw [5] (fun i wr => ∃ k : Nat, k ≤ len ∧ i = .int .i64 k ∧ (∀ j, j < k → l.getD j 0 < n) ∧ Below w.heap.size w wr) (fun i _ => len - (intOf i).toNat)
  case atStart => exact ⟨0, Nat.zero_le _, rfl, fun j hj => by omega, Below.refl _ _⟩
  case round =>
    obtain ⟨k, hk, rfl, hno, hbl⟩ := hrel
    have HNO := Lib.hid hno
    have HBL := Lib.hid hbl
    clear hno hbl
    by_cases hlt : k < len
    case neg =>
      obtain rfl : k = len := by omega
      have HRES : Hid (insI l n = l.take k ++ n :: l.drop k) := by
        show insI l n = _
        rw [insI_at (k := k) (by rw [HL.out.1]; omega) HNO.out (fun hkl => by rw [HL.out.1] at hkl; omega), if_neg (fun hh => by have := hh.1; rw [HL.out.1] at this; omega)]
      go_wp2_with fail
      obtain ⟨la, hla⟩ : ∃ la : Option Addr, (if cap = k then (a : Option Addr) else Option.map (fun x : Addr => x.add (k * 1)) (a)) = la := ⟨_, rfl⟩
      have HT0 := Lib.hid (fun c => HI.out.1.take (j := k) (by omega) c)
      have HD0 := Lib.hid (fun c => HI.out.1.drop (j := k) (by omega) hcl c)
      have HHI := Lib.hid (fun u => runSlHi Try.underlying45 (by kernel_rfl) size_int (a) k cap k (by omega) u)
      have HLO := Lib.hid (fun u => runSlLo Try.underlying45 (by kernel_rfl) size_int (a) k cap k (by omega) u)
      rw [hla] at HLO HD0
      clear hla
      have HD : Hid (Below w.heap.size w wr.drew) := ⟨HBL.out.os, HBL.out.tape, HBL.out.output, HBL.out.size, HBL.out.block⟩
      refine wp_region_held_drew (S := fun z => Below w.heap.size w z) (by kernel_rfl) (HD.out) (fun _ => ?_)
      (try simp only [Act.put, List.setIfInBounds_toArray, List.set_cons_zero, List.set_cons_succ])
      refine wpAnyH_take (i := 0) (oi := ⟨some 33, _, _, _, _, _⟩) (v := .slice a k cap) rfl (by kernel_rfl) (by kernel_rfl) (by kernel_rfl) (fun _ _ _ h => h) (Or.inl ⟨by rfl, fun wz hz => ?_⟩) HD.out ?_
      · clear hz; go_simp; first | done | with_reducible rfl | rfl
      (try simp only [Act.put, List.setIfInBounds_toArray, List.set_cons_zero, List.set_cons_succ])
      refine wpAnyH_take (i := 1) (oi := ⟨some 34, _, _, _, _, _⟩) (v := .int .i64 k) rfl (by kernel_rfl) (by kernel_rfl) (by kernel_rfl) (fun _ _ _ h => h) (Or.inl ⟨by rfl, fun wz hz => ?_⟩) HD.out ?_
      · clear hz; go_simp; first | done | with_reducible rfl | rfl
      (try simp only [Act.put, List.setIfInBounds_toArray, List.set_cons_zero, List.set_cons_succ])
      refine heldSlice 2 (oi := ⟨some 35, _, _, _, _, _⟩) rfl (by kernel_rfl) (by kernel_rfl) (by kernel_rfl) (fun _ _ _ _ h => h) rfl 45 (.tmp 33) _ _ _ rfl (.slice (a) k cap) none (some (.int .i64 k)) none rfl rfl rfl rfl (.slice (a) k cap) HHI.out HD.out ?_
      (try simp only [Act.put, List.setIfInBounds_toArray, List.set_cons_zero, List.set_cons_succ])
      refine wpAnyH_take (i := 4) (oi := ⟨some 37, _, _, _, _, _⟩) (v := .int .i64 n) rfl (by kernel_rfl) (by kernel_rfl) (by kernel_rfl) (fun _ _ _ h => h) (Or.inl ⟨by rfl, fun wz hz => ?_⟩) HD.out ?_
      · clear hz; go_simp; first | done | with_reducible rfl | rfl
      (try simp only [Act.put, List.setIfInBounds_toArray, List.set_cons_zero, List.set_cons_succ])
      refine wpAnyH_take (i := 7) (oi := ⟨some 40, _, _, _, _, _⟩) (v := .slice a k cap) rfl (by kernel_rfl) (by kernel_rfl) (by kernel_rfl) (fun _ _ _ h => h) (Or.inl ⟨by rfl, fun wz hz => ?_⟩) HD.out ?_
      · clear hz; go_simp; first | done | with_reducible rfl | rfl
      (try simp only [Act.put, List.setIfInBounds_toArray, List.set_cons_zero, List.set_cons_succ])
      refine wpAnyH_take (i := 8) (oi := ⟨some 41, _, _, _, _, _⟩) (v := .int .i64 k) rfl (by kernel_rfl) (by kernel_rfl) (by kernel_rfl) (fun _ _ _ h => h) (Or.inl ⟨by rfl, fun wz hz => ?_⟩) HD.out ?_
      · clear hz; go_simp; first | done | with_reducible rfl | rfl
      (try simp only [Act.put, List.setIfInBounds_toArray, List.set_cons_zero, List.set_cons_succ])
      refine heldSlice 9 (oi := ⟨some 42, _, _, _, _, _⟩) rfl (by kernel_rfl) (by kernel_rfl) (by kernel_rfl) (fun _ _ _ _ h => h) rfl 45 (.tmp 40) _ _ _ rfl (.slice (a) k cap) (some (.int .i64 k)) none none rfl rfl rfl rfl (.slice la (k - k) (cap - k)) HLO.out HD.out ?_
      (try simp only [Act.put, List.setIfInBounds_toArray, List.set_cons_zero, List.set_cons_succ])
      refine wpAnyH_ready (rs := [3, 5]) (by kernel_rfl) (by simp) ?_
      refine AllReadyH.cons rfl (fun K hK => ?_) (AllReadyH.cons rfl (fun K hK => ?_) AllReadyH.nil)
      · skip
        refine wp_appK HII.out (by omega) Try.underlying45 (.const (.slice none 0 0)) (.tmp 35) rfl w.heap.size (.slice none 0 0) [] rfl (OwnK.nil _ _ _ _) (.slice (a) k cap) (l.take k) rfl ((HT0.out cap).below HD.out) (by simp; omega) HD.out.size ?_
        intro v3 w3 ho3 hg3 _
        rw [List.nil_append] at ho3
        have HO3 := Lib.hid ho3
        have HB3 := Lib.hid (HD.out.grown hg3 HD.out.size (fun j hj => by cases hj))
        clear ho3 hg3
        refine hK.out _ _ (HB3.out) (fun _ => ?_)
        clear hK K
        (try simp only [Act.put, List.setIfInBounds_toArray, List.set_cons_zero, List.set_cons_succ])
        refine wpAnyH_ready (rs := [5]) (by kernel_rfl) (by simp) ?_
        refine AllReadyH.cons rfl (fun K hK => ?_) AllReadyH.nil
        refine wp_buildSlice 45 1 _ rfl #[(0, .int .i64 n)] (by simp [Act.eval, Act.put]) _ (bs_int n w3) ?_
        have HB5 := Lib.hid (HB3.out.alloc HB3.out.size (.cells #[.int .i64 n] 3))
        have HO5 := Lib.hid (HO3.out.call ((Below.refl w3.heap.size w3).alloc (Nat.le_refl _) (.cells #[.int .i64 n] 3)))
        have HN5 : Hid (Ints .i64 (w3.alloc (.cells #[.int .i64 n] 3)) (.slice (some ⟨w3.heap.size, 0, none⟩) 1 1) [n]) := one_ints _ _
        refine hK.out _ _ (HB5.out) (fun _ => ?_)
        clear hK K
        (try simp only [Act.put, List.setIfInBounds_toArray, List.set_cons_zero, List.set_cons_succ])
        refine wpAnyH_ready (rs := [6]) (by kernel_rfl) (by simp) ?_
        refine AllReadyH.cons rfl (fun K hK => ?_) AllReadyH.nil
        refine (fun hgo => wp_appK HII.out (by omega) Try.underlying45 (.tmp 36) (.tmp 38) rfl w.heap.size v3 (l.take k) rfl HO5.out (.slice (some ⟨w3.heap.size, 0, none⟩) 1 1) [n] rfl HN5.out (by simp; omega) HB5.out.size hgo) ?_
        intro v6 w6 ho6 hg6 _
        have HO6 := Lib.hid ho6
        have HB6 := Lib.hid (HB5.out.grown hg6 HB5.out.size (fun j hj => by have := (HO5.out.lt j hj).1; omega))
        clear ho6 hg6
        refine hK.out _ _ (HB6.out) (fun _ => ?_)
        clear hK K
        (try simp only [Act.put, List.setIfInBounds_toArray, List.set_cons_zero, List.set_cons_succ])
        refine wpAnyH_ready (rs := [10]) (by kernel_rfl) (by simp) ?_
        refine AllReadyH.cons rfl (fun K hK => ?_) AllReadyH.nil
        refine wp_appK HII.out (by omega) Try.underlying45 (.tmp 39) (.tmp 42) rfl w.heap.size v6 _ rfl HO6.out (.slice la (k - k) (cap - k)) (l.drop k) rfl ((HD0.out _).below HB6.out) (by have := HL.out.1; simp; omega) HB6.out.size ?_
        intro v8 w8 ho8 hg8 _
        have HO8 := Lib.hid ho8
        have HB8 := Lib.hid (HB6.out.grown hg8 HB6.out.size (fun j hj => by have := (HO6.out.lt j hj).1; omega))
        clear ho8 hg8
        refine hK.out _ _ (HB8.out) (fun _ => ?_)
        clear hK K
        (try simp only [Act.put, List.setIfInBounds_toArray, List.set_cons_zero, List.set_cons_succ])
        refine wpAnyH_ready (rs := [11]) (by kernel_rfl) (by simp) ?_
        refine AllReadyH.cons rfl (fun K hK => ?_) AllReadyH.nil
        go_simp
        refine hK.out _ _ (HB8.out) (fun _ => ?_)
        clear hK K
        (try simp only [Act.put, List.setIfInBounds_toArray, List.set_cons_zero, List.set_cons_succ])
        refine wpAnyH_done (by kernel_rfl) ?_ _
        go_wp2_with fail
        go_ret
        have HE : l.take k ++ [n] ++ l.drop k = insI l n := by rw [HRES.out]; simp
        have HO9 := HO8.out
        rw [HE] at HO9
        exact ⟨_, rfl, ⟨HO9.ints (by have h1 := (insI_len l n).2; have h2 := HL.out.1; unfold maxLen; omega), HRNG.out⟩, HO9.capOK, fun N hN _ => HO9.new.mono hN, HB8.out⟩
      · skip
        refine wp_buildSlice 45 1 _ rfl #[(0, .int .i64 n)] (by simp [Act.eval, Act.put]) _ (bs_int n wr.drew) ?_
        have HB2 := Lib.hid (HD.out.alloc HD.out.size (.cells #[.int .i64 n] 3))
        have HN2 : Hid (Ints .i64 (wr.drew.alloc (.cells #[.int .i64 n] 3)) (.slice (some ⟨wr.drew.heap.size, 0, none⟩) 1 1) [n]) := one_ints _ _
        refine hK.out _ _ (HB2.out) (fun _ => ?_)
        clear hK K
        (try simp only [Act.put, List.setIfInBounds_toArray, List.set_cons_zero, List.set_cons_succ])
        refine wpAnyH_ready (rs := [3]) (by kernel_rfl) (by simp) ?_
        refine AllReadyH.cons rfl (fun K hK => ?_) AllReadyH.nil
        refine wp_appK HII.out (by omega) Try.underlying45 (.const (.slice none 0 0)) (.tmp 35) rfl w.heap.size (.slice none 0 0) [] rfl (OwnK.nil _ _ _ _) (.slice (a) k cap) (l.take k) rfl ((HT0.out cap).below HB2.out) (by simp; omega) HB2.out.size ?_
        intro v3 w3 ho3 hg3 _
        rw [List.nil_append] at ho3
        have HO3 := Lib.hid ho3
        have HB3 := Lib.hid (HB2.out.grown hg3 HB2.out.size (fun j hj => by cases hj))
        have HN3 : Hid (Ints .i64 w3 (.slice (some ⟨wr.drew.heap.size, 0, none⟩) 1 1) [n]) := HN2.out.grownOff hg3 (fun g e => by cases e)
        clear ho3 hg3
        refine hK.out _ _ (HB3.out) (fun _ => ?_)
        clear hK K
        (try simp only [Act.put, List.setIfInBounds_toArray, List.set_cons_zero, List.set_cons_succ])
        refine wpAnyH_ready (rs := [6]) (by kernel_rfl) (by simp) ?_
        refine AllReadyH.cons rfl (fun K hK => ?_) AllReadyH.nil
        refine (fun hgo => wp_appK HII.out (by omega) Try.underlying45 (.tmp 36) (.tmp 38) rfl w.heap.size v3 (l.take k) rfl HO3.out (.slice (some ⟨wr.drew.heap.size, 0, none⟩) 1 1) [n] rfl HN3.out (by simp; omega) HB3.out.size hgo) ?_
        intro v6 w6 ho6 hg6 _
        have HO6 := Lib.hid ho6
        have HB6 := Lib.hid (HB3.out.grown hg6 HB3.out.size (fun j hj => by have := (HO3.out.lt j hj).1; omega))
        clear ho6 hg6
        refine hK.out _ _ (HB6.out) (fun _ => ?_)
        clear hK K
        (try simp only [Act.put, List.setIfInBounds_toArray, List.set_cons_zero, List.set_cons_succ])
        refine wpAnyH_ready (rs := [10]) (by kernel_rfl) (by simp) ?_
        refine AllReadyH.cons rfl (fun K hK => ?_) AllReadyH.nil
        refine wp_appK HII.out (by omega) Try.underlying45 (.tmp 39) (.tmp 42) rfl w.heap.size v6 _ rfl HO6.out (.slice la (k - k) (cap - k)) (l.drop k) rfl ((HD0.out _).below HB6.out) (by have := HL.out.1; simp; omega) HB6.out.size ?_
        intro v8 w8 ho8 hg8 _
        have HO8 := Lib.hid ho8
        have HB8 := Lib.hid (HB6.out.grown hg8 HB6.out.size (fun j hj => by have := (HO6.out.lt j hj).1; omega))
        clear ho8 hg8
        refine hK.out _ _ (HB8.out) (fun _ => ?_)
        clear hK K
        (try simp only [Act.put, List.setIfInBounds_toArray, List.set_cons_zero, List.set_cons_succ])
        refine wpAnyH_ready (rs := [11]) (by kernel_rfl) (by simp) ?_
        refine AllReadyH.cons rfl (fun K hK => ?_) AllReadyH.nil
        go_simp
        refine hK.out _ _ (HB8.out) (fun _ => ?_)
        clear hK K
        (try simp only [Act.put, List.setIfInBounds_toArray, List.set_cons_zero, List.set_cons_succ])
        refine wpAnyH_done (by kernel_rfl) ?_ _
        go_wp2_with fail
        go_ret
        have HE : l.take k ++ [n] ++ l.drop k = insI l n := by rw [HRES.out]; simp
        have HO9 := HO8.out
        rw [HE] at HO9
        exact ⟨_, rfl, ⟨HO9.ints (by have h1 := (insI_len l n).2; have h2 := HL.out.1; unfold maxLen; omega), HRNG.out⟩, HO9.capOK, fun N hN _ => HO9.new.mono hN, HB8.out⟩
    have hlt' : (k : Int) < len := by omega
    obtain ⟨b, off, rfl, hb, hce⟩ := HI.out.at (k := k) (by rw [HL.out.1]; exact hlt)
    have hcx := (HBL.out.cell (p := ⟨b, off + k, none⟩) hb).trans hce
    obtain ⟨x, hx⟩ : ∃ x, Hid (l.getD k 0 = x) := ⟨_, Lib.hid rfl⟩
    rw [hx.out] at hcx
    have HCX := Lib.hid hcx
    clear hce hcx
    by_cases hxn : x < n
    · go_wp2_with (first
        | ((with_reducible refine at_load (.tmp 13) ?_); refine wpList_load_1 3 (.tmp 13) rfl b (off + k) (.int .i64 x) HCX.out rfl _ Try.underlying3 rfl rfl ?_))
      go_roundw
      case rel => exact ⟨k + 1, by omega, by go_num, fun j hj => by rcases Nat.lt_succ_iff_lt_or_eq.1 hj with h | rfl; exact HNO.out j h; rw [hx.out]; exact hxn, HBL.out⟩
      case measure => simp [intOf]; omega
    by_cases hxe : x = n
    · have HRES : Hid (insI l n = l) := by
        show insI l n = _
        rw [insI_at (k := k) (by rw [HL.out.1]; omega) HNO.out (fun hkl => by rw [hx.out]; omega), if_pos ⟨by rw [HL.out.1]; exact hlt, by rw [hx.out]; exact hxe⟩]
      have hbe : (x == n) = true := by simpa using hxe
      clear hxe
      go_wp2_with (first
        | ((with_reducible refine at_load (.tmp 13) ?_); refine wpList_load_1 3 (.tmp 13) rfl b (off + k) (.int .i64 x) HCX.out rfl _ Try.underlying3 rfl rfl ?_)
        | ((with_reducible refine at_load (.tmp 27) ?_); refine wpList_load_1 3 (.tmp 27) rfl b (off + k) (.int .i64 x) HCX.out rfl _ Try.underlying3 rfl rfl ?_))
      go_ret
      exact ⟨_, rfl, by rw [HRES.out]; exact HI.out.below HBL.out, HCAP.out, fun N _ h => h, HBL.out⟩
    · have HRES : Hid (insI l n = l.take k ++ n :: l.drop k) := by
        show insI l n = _
        rw [insI_at (k := k) (by rw [HL.out.1]; omega) HNO.out (fun hkl => by rw [hx.out]; omega), if_neg (fun hh => hxe (by rw [← hx.out]; exact hh.2))]
      have hbe : (x == n) = false := by simpa using hxe
      clear hxe
      go_wp2_with (first
        | ((with_reducible refine at_load (.tmp 13) ?_); refine wpList_load_1 3 (.tmp 13) rfl b (off + k) (.int .i64 x) HCX.out rfl _ Try.underlying3 rfl rfl ?_)
        | ((with_reducible refine at_load (.tmp 27) ?_); refine wpList_load_1 3 (.tmp 27) rfl b (off + k) (.int .i64 x) HCX.out rfl _ Try.underlying3 rfl rfl ?_))
      obtain ⟨la, hla⟩ : ∃ la : Option Addr, (if cap = k then (some ⟨b, off, none⟩ : Option Addr) else Option.map (fun x : Addr => x.add (k * 1)) (some ⟨b, off, none⟩)) = la := ⟨_, rfl⟩
      have HT0 := Lib.hid (fun c => HI.out.1.take (j := k) (by omega) c)
      have HD0 := Lib.hid (fun c => HI.out.1.drop (j := k) (by omega) hcl c)
      have HHI := Lib.hid (fun u => runSlHi Try.underlying45 (by kernel_rfl) size_int (some ⟨b, off, none⟩) len cap k (by omega) u)
      have HLO := Lib.hid (fun u => runSlLo Try.underlying45 (by kernel_rfl) size_int (some ⟨b, off, none⟩) len cap k (by omega) u)
      rw [hla] at HLO HD0
      clear hla
      have HD : Hid (Below w.heap.size w wr.drew) := ⟨HBL.out.os, HBL.out.tape, HBL.out.output, HBL.out.size, HBL.out.block⟩
      refine wp_region_held_drew (S := fun z => Below w.heap.size w z) (by kernel_rfl) (HD.out) (fun _ => ?_)
      (try simp only [Act.put, List.setIfInBounds_toArray, List.set_cons_zero, List.set_cons_succ])
      refine wpAnyH_take (i := 0) (oi := ⟨some 33, _, _, _, _, _⟩) (v := .slice (some ⟨b, off, none⟩) len cap) rfl (by kernel_rfl) (by kernel_rfl) (by kernel_rfl) (fun _ _ _ h => h) (Or.inl ⟨by rfl, fun wz hz => ?_⟩) HD.out ?_
      · clear hz; go_simp; first | done | with_reducible rfl | rfl
      (try simp only [Act.put, List.setIfInBounds_toArray, List.set_cons_zero, List.set_cons_succ])
      refine wpAnyH_take (i := 1) (oi := ⟨some 34, _, _, _, _, _⟩) (v := .int .i64 k) rfl (by kernel_rfl) (by kernel_rfl) (by kernel_rfl) (fun _ _ _ h => h) (Or.inl ⟨by rfl, fun wz hz => ?_⟩) HD.out ?_
      · clear hz; go_simp; first | done | with_reducible rfl | rfl
      (try simp only [Act.put, List.setIfInBounds_toArray, List.set_cons_zero, List.set_cons_succ])
      refine heldSlice 2 (oi := ⟨some 35, _, _, _, _, _⟩) rfl (by kernel_rfl) (by kernel_rfl) (by kernel_rfl) (fun _ _ _ _ h => h) rfl 45 (.tmp 33) _ _ _ rfl (.slice (some ⟨b, off, none⟩) len cap) none (some (.int .i64 k)) none rfl rfl rfl rfl (.slice (some ⟨b, off, none⟩) k cap) HHI.out HD.out ?_
      (try simp only [Act.put, List.setIfInBounds_toArray, List.set_cons_zero, List.set_cons_succ])
      refine wpAnyH_take (i := 4) (oi := ⟨some 37, _, _, _, _, _⟩) (v := .int .i64 n) rfl (by kernel_rfl) (by kernel_rfl) (by kernel_rfl) (fun _ _ _ h => h) (Or.inl ⟨by rfl, fun wz hz => ?_⟩) HD.out ?_
      · clear hz; go_simp; first | done | with_reducible rfl | rfl
      (try simp only [Act.put, List.setIfInBounds_toArray, List.set_cons_zero, List.set_cons_succ])
      refine wpAnyH_take (i := 7) (oi := ⟨some 40, _, _, _, _, _⟩) (v := .slice (some ⟨b, off, none⟩) len cap) rfl (by kernel_rfl) (by kernel_rfl) (by kernel_rfl) (fun _ _ _ h => h) (Or.inl ⟨by rfl, fun wz hz => ?_⟩) HD.out ?_
      · clear hz; go_simp; first | done | with_reducible rfl | rfl
      (try simp only [Act.put, List.setIfInBounds_toArray, List.set_cons_zero, List.set_cons_succ])
      refine wpAnyH_take (i := 8) (oi := ⟨some 41, _, _, _, _, _⟩) (v := .int .i64 k) rfl (by kernel_rfl) (by kernel_rfl) (by kernel_rfl) (fun _ _ _ h => h) (Or.inl ⟨by rfl, fun wz hz => ?_⟩) HD.out ?_
      · clear hz; go_simp; first | done | with_reducible rfl | rfl
      (try simp only [Act.put, List.setIfInBounds_toArray, List.set_cons_zero, List.set_cons_succ])
      refine heldSlice 9 (oi := ⟨some 42, _, _, _, _, _⟩) rfl (by kernel_rfl) (by kernel_rfl) (by kernel_rfl) (fun _ _ _ _ h => h) rfl 45 (.tmp 40) _ _ _ rfl (.slice (some ⟨b, off, none⟩) len cap) (some (.int .i64 k)) none none rfl rfl rfl rfl (.slice la (len - k) (cap - k)) HLO.out HD.out ?_
      (try simp only [Act.put, List.setIfInBounds_toArray, List.set_cons_zero, List.set_cons_succ])
      refine wpAnyH_ready (rs := [3, 5]) (by kernel_rfl) (by simp) ?_
      refine AllReadyH.cons rfl (fun K hK => ?_) (AllReadyH.cons rfl (fun K hK => ?_) AllReadyH.nil)
      · skip
        refine wp_appK HII.out (by omega) Try.underlying45 (.const (.slice none 0 0)) (.tmp 35) rfl w.heap.size (.slice none 0 0) [] rfl (OwnK.nil _ _ _ _) (.slice (some ⟨b, off, none⟩) k cap) (l.take k) rfl ((HT0.out cap).below HD.out) (by simp; omega) HD.out.size ?_
        intro v3 w3 ho3 hg3 _
        rw [List.nil_append] at ho3
        have HO3 := Lib.hid ho3
        have HB3 := Lib.hid (HD.out.grown hg3 HD.out.size (fun j hj => by cases hj))
        clear ho3 hg3
        refine hK.out _ _ (HB3.out) (fun _ => ?_)
        clear hK K
        (try simp only [Act.put, List.setIfInBounds_toArray, List.set_cons_zero, List.set_cons_succ])
        refine wpAnyH_ready (rs := [5]) (by kernel_rfl) (by simp) ?_
        refine AllReadyH.cons rfl (fun K hK => ?_) AllReadyH.nil
        refine wp_buildSlice 45 1 _ rfl #[(0, .int .i64 n)] (by simp [Act.eval, Act.put]) _ (bs_int n w3) ?_
        have HB5 := Lib.hid (HB3.out.alloc HB3.out.size (.cells #[.int .i64 n] 3))
        have HO5 := Lib.hid (HO3.out.call ((Below.refl w3.heap.size w3).alloc (Nat.le_refl _) (.cells #[.int .i64 n] 3)))
        have HN5 : Hid (Ints .i64 (w3.alloc (.cells #[.int .i64 n] 3)) (.slice (some ⟨w3.heap.size, 0, none⟩) 1 1) [n]) := one_ints _ _
        refine hK.out _ _ (HB5.out) (fun _ => ?_)
        clear hK K
        (try simp only [Act.put, List.setIfInBounds_toArray, List.set_cons_zero, List.set_cons_succ])
        refine wpAnyH_ready (rs := [6]) (by kernel_rfl) (by simp) ?_
        refine AllReadyH.cons rfl (fun K hK => ?_) AllReadyH.nil
        refine (fun hgo => wp_appK HII.out (by omega) Try.underlying45 (.tmp 36) (.tmp 38) rfl w.heap.size v3 (l.take k) rfl HO5.out (.slice (some ⟨w3.heap.size, 0, none⟩) 1 1) [n] rfl HN5.out (by simp; omega) HB5.out.size hgo) ?_
        intro v6 w6 ho6 hg6 _
        have HO6 := Lib.hid ho6
        have HB6 := Lib.hid (HB5.out.grown hg6 HB5.out.size (fun j hj => by have := (HO5.out.lt j hj).1; omega))
        clear ho6 hg6
        refine hK.out _ _ (HB6.out) (fun _ => ?_)
        clear hK K
        (try simp only [Act.put, List.setIfInBounds_toArray, List.set_cons_zero, List.set_cons_succ])
        refine wpAnyH_ready (rs := [10]) (by kernel_rfl) (by simp) ?_
        refine AllReadyH.cons rfl (fun K hK => ?_) AllReadyH.nil
        refine wp_appK HII.out (by omega) Try.underlying45 (.tmp 39) (.tmp 42) rfl w.heap.size v6 _ rfl HO6.out (.slice la (len - k) (cap - k)) (l.drop k) rfl ((HD0.out _).below HB6.out) (by have := HL.out.1; simp; omega) HB6.out.size ?_
        intro v8 w8 ho8 hg8 _
        have HO8 := Lib.hid ho8
        have HB8 := Lib.hid (HB6.out.grown hg8 HB6.out.size (fun j hj => by have := (HO6.out.lt j hj).1; omega))
        clear ho8 hg8
        refine hK.out _ _ (HB8.out) (fun _ => ?_)
        clear hK K
        (try simp only [Act.put, List.setIfInBounds_toArray, List.set_cons_zero, List.set_cons_succ])
        refine wpAnyH_ready (rs := [11]) (by kernel_rfl) (by simp) ?_
        refine AllReadyH.cons rfl (fun K hK => ?_) AllReadyH.nil
        go_simp
        refine hK.out _ _ (HB8.out) (fun _ => ?_)
        clear hK K
        (try simp only [Act.put, List.setIfInBounds_toArray, List.set_cons_zero, List.set_cons_succ])
        refine wpAnyH_done (by kernel_rfl) ?_ _
        go_wp2_with fail
        go_ret
        have HE : l.take k ++ [n] ++ l.drop k = insI l n := by rw [HRES.out]; simp
        have HO9 := HO8.out
        rw [HE] at HO9
        exact ⟨_, rfl, ⟨HO9.ints (by have h1 := (insI_len l n).2; have h2 := HL.out.1; unfold maxLen; omega), HRNG.out⟩, HO9.capOK, fun N hN _ => HO9.new.mono hN, HB8.out⟩
      · skip
        refine wp_buildSlice 45 1 _ rfl #[(0, .int .i64 n)] (by simp [Act.eval, Act.put]) _ (bs_int n wr.drew) ?_
        have HB2 := Lib.hid (HD.out.alloc HD.out.size (.cells #[.int .i64 n] 3))
        have HN2 : Hid (Ints .i64 (wr.drew.alloc (.cells #[.int .i64 n] 3)) (.slice (some ⟨wr.drew.heap.size, 0, none⟩) 1 1) [n]) := one_ints _ _
        refine hK.out _ _ (HB2.out) (fun _ => ?_)
        clear hK K
        (try simp only [Act.put, List.setIfInBounds_toArray, List.set_cons_zero, List.set_cons_succ])
        refine wpAnyH_ready (rs := [3]) (by kernel_rfl) (by simp) ?_
        refine AllReadyH.cons rfl (fun K hK => ?_) AllReadyH.nil
        refine wp_appK HII.out (by omega) Try.underlying45 (.const (.slice none 0 0)) (.tmp 35) rfl w.heap.size (.slice none 0 0) [] rfl (OwnK.nil _ _ _ _) (.slice (some ⟨b, off, none⟩) k cap) (l.take k) rfl ((HT0.out cap).below HB2.out) (by simp; omega) HB2.out.size ?_
        intro v3 w3 ho3 hg3 _
        rw [List.nil_append] at ho3
        have HO3 := Lib.hid ho3
        have HB3 := Lib.hid (HB2.out.grown hg3 HB2.out.size (fun j hj => by cases hj))
        have HN3 : Hid (Ints .i64 w3 (.slice (some ⟨wr.drew.heap.size, 0, none⟩) 1 1) [n]) := HN2.out.grownOff hg3 (fun g e => by cases e)
        clear ho3 hg3
        refine hK.out _ _ (HB3.out) (fun _ => ?_)
        clear hK K
        (try simp only [Act.put, List.setIfInBounds_toArray, List.set_cons_zero, List.set_cons_succ])
        refine wpAnyH_ready (rs := [6]) (by kernel_rfl) (by simp) ?_
        refine AllReadyH.cons rfl (fun K hK => ?_) AllReadyH.nil
        refine (fun hgo => wp_appK HII.out (by omega) Try.underlying45 (.tmp 36) (.tmp 38) rfl w.heap.size v3 (l.take k) rfl HO3.out (.slice (some ⟨wr.drew.heap.size, 0, none⟩) 1 1) [n] rfl HN3.out (by simp; omega) HB3.out.size hgo) ?_
        intro v6 w6 ho6 hg6 _
        have HO6 := Lib.hid ho6
        have HB6 := Lib.hid (HB3.out.grown hg6 HB3.out.size (fun j hj => by have := (HO3.out.lt j hj).1; omega))
        clear ho6 hg6
        refine hK.out _ _ (HB6.out) (fun _ => ?_)
        clear hK K
        (try simp only [Act.put, List.setIfInBounds_toArray, List.set_cons_zero, List.set_cons_succ])
        refine wpAnyH_ready (rs := [10]) (by kernel_rfl) (by simp) ?_
        refine AllReadyH.cons rfl (fun K hK => ?_) AllReadyH.nil
        refine wp_appK HII.out (by omega) Try.underlying45 (.tmp 39) (.tmp 42) rfl w.heap.size v6 _ rfl HO6.out (.slice la (len - k) (cap - k)) (l.drop k) rfl ((HD0.out _).below HB6.out) (by have := HL.out.1; simp; omega) HB6.out.size ?_
        intro v8 w8 ho8 hg8 _
        have HO8 := Lib.hid ho8
        have HB8 := Lib.hid (HB6.out.grown hg8 HB6.out.size (fun j hj => by have := (HO6.out.lt j hj).1; omega))
        clear ho8 hg8
        refine hK.out _ _ (HB8.out) (fun _ => ?_)
        clear hK K
        (try simp only [Act.put, List.setIfInBounds_toArray, List.set_cons_zero, List.set_cons_succ])
        refine wpAnyH_ready (rs := [11]) (by kernel_rfl) (by simp) ?_
        refine AllReadyH.cons rfl (fun K hK => ?_) AllReadyH.nil
        go_simp
        refine hK.out _ _ (HB8.out) (fun _ => ?_)
        clear hK K
        (try simp only [Act.put, List.setIfInBounds_toArray, List.set_cons_zero, List.set_cons_succ])
        refine wpAnyH_done (by kernel_rfl) ?_ _
        go_wp2_with fail
        go_ret
        have HE : l.take k ++ [n] ++ l.drop k = insI l n := by rw [HRES.out]; simp
        have HO9 := HO8.out
        rw [HE] at HO9
        exact ⟨_, rfl, ⟨HO9.ints (by have h1 := (insI_len l n).2; have h2 := HL.out.1; unfold maxLen; omega), HRNG.out⟩, HO9.capOK, fun N hN _ => HO9.new.mono hN, HB8.out⟩
end Go.Proofs.Ytcbjjafjomdklaa
