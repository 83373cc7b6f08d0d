/- ValidateList, the reference's, and validateLists. -/
import Derived.Test.YtgcgjnjbhdhhgaaRcD
import Derived.IntWalk
set_option linter.unusedVariables false
namespace Go.Proofs.Ytgcgjnjbhdhhgaa
open Go.RowKit

theorem okAt_bad1 {l : List Int} {n : Int} {i : Nat} (h : l.getD i 0 < 0 ∨ n ≤ l.getD i 0) : okAt l n i = 3 := by unfold okAt; rw [if_pos h]
theorem okAt_bad2 {l : List Int} {n : Int} {i : Nat} (h : ¬ (l.getD i 0 < 0 ∨ n ≤ l.getD i 0)) (h2 : 0 < i ∧ l.getD i 0 ≤ l.getD (i - 1) 0) : okAt l n i = 8 := by unfold okAt; rw [if_neg h, if_pos h2]
theorem vl_here {l : List Int} {n : Int} {k : Nat} {e : Int} (hk : k < l.length) (h0 : vlGo l n (l.length - k) k = vlE l n) (he : okAt l n k = e) (hne : e ≠ 0) : vlE l n = e := by
  rw [← h0, vlGo_next hk, he, if_pos hne]
theorem vl_on {l : List Int} {n : Int} {k : Nat} (hk : k < l.length) (h0 : vlGo l n (l.length - k) k = vlE l n) (he : okAt l n k = 0) : vlGo l n (l.length - (k + 1)) (k + 1) = vlE l n := by
  rw [← h0, vlGo_next hk, he, if_neg (by simp)]

set_option maxRecDepth 100000 in
set_option maxHeartbeats 4000000 in
theorem vlist_any (v : Value) (l : List Int) (n : Int) (w : World) (h : IntsV w v l) (hn0 : -9223372036854775808 ≤ n) (hn : n ≤ 9223372036854775807) :
    Calls Try.prog 11 #[v, .int .i64 n] w fun e w' => e = .returned (.int .i64 (vlE l n)) ∧ w = w' := by
  obtain ⟨⟨a, len, cap, rfl, hl, hm, hr⟩, hrng⟩ := h
  have H := Lib.hid (fun k (hk : k < l.length) => hrng _ (getD_mem hk)); clear hrng
  unfold maxLen at hm
  have HE0 : Hid (len = 0 → vlE l n = 2) := fun h0 => by unfold vlE; rw [if_pos (by omega)]
  have HS : Hid (0 < len → vlGo l n (l.length - 0) 0 = vlE l n) := fun h0 => by unfold vlE; rw [if_neg (by omega)]; rfl
  have HL := Lib.hid hl; clear hl
  by_cases h0 : len = 0
  · have E := HE0.out h0
    subst h0
    rw [E]
    clear E
    go_enter Try.func11, Try.ntmps11
    go_wp2_with fail
    go_ret
    exact ⟨rfl, rfl⟩
  rcases hr with hr | ⟨b, off, rfl, hb, hc⟩
  · omega
  have HS1 := Lib.hid (HS.out (by omega)); clear HS HE0
  have hp : 0 < len := by omega
  obtain ⟨E, HE⟩ : ∃ E, Hid (vlE l n = E) := ⟨_, rfl⟩
  rw [HE.out]
  go_enter Try.func11, Try.ntmps11
  go_wp2_with fail
  go_loop [12] (fun i => ∃ k : Nat, k ≤ len ∧ i = .int .i64 k ∧ vlGo l n (l.length - k) k = vlE l n) (fun i => len - (intOf i).toNat)
  case atStart => exact ⟨0, Nat.zero_le _, rfl, HS1.out⟩
  case round =>
    obtain ⟨k, hk, rfl, hv⟩ := hrel
    have HV := Lib.hid hv; clear hv
    by_cases hlt : k < len
    · have hcell := hc k hlt
      have hx := H.out k (by rw [HL.out]; exact hlt)
      have HK1 : Hid (0 < k → w.cell? ⟨b, off + (k - 1), none⟩ = some (.int .i64 (l.getD (k - 1) 0))) := fun _ => hc (k - 1) (by omega)
      clear hc
      have HKL : Hid (k < l.length) := by show _ < _; rw [HL.out]; exact hlt
      by_cases hbad : l.getD k 0 < 0 ∨ n ≤ l.getD k 0
      · have HR := Lib.hid (vl_here HKL.out HV.out (okAt_bad1 hbad) (by omega))
        obtain ⟨x, HX⟩ : ∃ x, Hid (x = l.getD k 0) := ⟨_, rfl⟩
        rw [← HX.out] at hcell hx hbad
        by_cases hneg : x < 0
        · clear hbad
          go_wp2_with fail
          go_ret
          exact ⟨by rw [← HE.out, HR.out]; rfl, rfl⟩
        · have h1 : n ≤ x := by omega
          clear hbad
          go_wp2_with fail
          go_ret
          exact ⟨by rw [← HE.out, HR.out]; rfl, rfl⟩
      · by_cases hk0 : 0 < k
        · have hcell1 := HK1.out hk0
          by_cases hord : l.getD k 0 ≤ l.getD (k - 1) 0
          · have HR := Lib.hid (vl_here HKL.out HV.out (okAt_bad2 hbad ⟨hk0, hord⟩) (by omega))
            obtain ⟨x, HX⟩ : ∃ x, Hid (x = l.getD k 0) := ⟨_, rfl⟩
            obtain ⟨y, HY⟩ : ∃ y, Hid (y = l.getD (k - 1) 0) := ⟨_, rfl⟩
            rw [← HX.out] at hcell hx hbad hord
            rw [← HY.out] at hcell1 hord
            have h1 : ¬ x < 0 := by omega
            have h2 : x < n := by omega
            clear hbad
            have e1 : (k : Int) - 1 = ((k - 1 : Nat) : Int) := by omega
            go_wp2_with fail
            go_ret
            exact ⟨by rw [← HE.out, HR.out]; rfl, rfl⟩
          · have HR := Lib.hid (vl_on HKL.out HV.out (okAt_of (by omega) (by omega) (fun _ => by omega)))
            obtain ⟨x, HX⟩ : ∃ x, Hid (x = l.getD k 0) := ⟨_, rfl⟩
            obtain ⟨y, HY⟩ : ∃ y, Hid (y = l.getD (k - 1) 0) := ⟨_, rfl⟩
            rw [← HX.out] at hcell hx hbad hord
            rw [← HY.out] at hcell1 hord
            have h1 : ¬ x < 0 := by omega
            have h2 : x < n := by omega
            have h3 : y < x := by omega
            clear hbad hord
            have e1 : (k : Int) - 1 = ((k - 1 : Nat) : Int) := by omega
            go_wp2_with fail
            go_round
            case rel => exact ⟨k + 1, by omega, by go_num, HR.out⟩
            case measure => simp [intOf]; omega
        · obtain rfl : k = 0 := by omega
          have HR := Lib.hid (vl_on HKL.out HV.out (okAt_of (by omega) (by omega) (fun h => by omega)))
          obtain ⟨x, HX⟩ : ∃ x, Hid (x = l.getD 0 0) := ⟨_, rfl⟩
          rw [← HX.out, Nat.add_zero] at hcell
          rw [← HX.out] at hx hbad
          have h1 : ¬ x < 0 := by omega
          have h2 : x < n := by omega
          clear hbad
          go_wp2_with fail
          go_round
          case rel => exact ⟨1, by omega, by go_num, HR.out⟩
          case measure => simp [intOf]; omega
    · obtain rfl : k = len := by omega
      have HR : Hid (E = 0) := by
        show _ = _
        rw [← HE.out, ← HV.out, HL.out, Nat.sub_self]; rfl
      go_wp2_with fail
      go_ret
      exact ⟨by rw [HR.out]; rfl, rfl⟩

set_option maxRecDepth 100000 in
set_option maxHeartbeats 4000000 in
theorem rvlist_any (v : Value) (l : List Int) (n : Int) (w : World) (h : IntsV w v l) (hn0 : -9223372036854775808 ≤ n) (hn : n ≤ 9223372036854775807) :
    Calls Try.prog 12 #[v, .int .i64 n] w fun e w' => e = .returned (.int .i64 (vlE l n)) ∧ Below w.heap.size w w' := by
  obtain ⟨⟨a, len, cap, rfl, hl, hm, hr⟩, hrng⟩ := h
  have H := Lib.hid (fun k (hk : k < l.length) => hrng _ (getD_mem hk)); clear hrng
  unfold maxLen at hm
  have HE0 : Hid (len = 0 → vlE l n = 2) := fun h0 => by unfold vlE; rw [if_pos (by omega)]
  have HS : Hid (0 < len → vlGo l n (l.length - 0) 0 = vlE l n) := fun h0 => by unfold vlE; rw [if_neg (by omega)]; rfl
  have HL := Lib.hid hl; clear hl
  by_cases h0 : len = 0
  · have E := HE0.out h0
    subst h0
    rw [E]
    clear E
    go_enter Try.func12, Try.ntmps12
    go_wp2_with fail
    go_ret
    exact ⟨rfl, Below.refl _ _⟩
  rcases hr with hr | ⟨b, off, rfl, hb, hc⟩
  · omega
  have HS1 := Lib.hid (HS.out (by omega)); clear HS HE0
  have hp : 0 < len := by omega
  obtain ⟨E, HE⟩ : ∃ E, Hid (vlE l n = E) := ⟨_, rfl⟩
  rw [HE.out]
  have HC := Lib.hid hc; clear hc
  have hkb : ((len : Int) == 0) = false := by simp; omega
  go_enter Try.func12, Try.ntmps12
  go_wp2_with fail
  go_loopw [5] (fun i wr => ∃ k : Nat, k ≤ len ∧ i = .int .i64 k ∧ vlGo l n (l.length - k) k = vlE l n ∧ Below w.heap.size w wr) (fun i _ => len - (intOf i).toNat)
  case atStart => exact ⟨0, Nat.zero_le _, rfl, HS1.out, Below.refl _ _⟩
  case round =>
    obtain ⟨k, hk, rfl, hv, hbl⟩ := hrel
    have HV := Lib.hid hv; clear hv
    by_cases hlt : k < len
    · have hcell : wr.cell? ⟨b, off + k, none⟩ = some (.int .i64 (l.getD k 0)) := (hbl.cell (p := ⟨b, off + k, none⟩) hb).trans (HC.out k hlt)
      have hx := H.out k (by rw [HL.out]; exact hlt)
      have HK1 : Hid (0 < k → wr.cell? ⟨b, off + (k - 1), none⟩ = some (.int .i64 (l.getD (k - 1) 0))) := fun _ => (hbl.cell (p := ⟨b, off + (k - 1), none⟩) hb).trans (HC.out (k - 1) (by omega))
      have HKL : Hid (k < l.length) := by show _ < _; rw [HL.out]; exact hlt
      have HBL := Lib.hid hbl; clear hbl
      by_cases hbad : l.getD k 0 < 0 ∨ n ≤ l.getD k 0
      · have HR := Lib.hid (vl_here HKL.out HV.out (okAt_bad1 hbad) (by omega))
        obtain ⟨x, HX⟩ : ∃ x, Hid (x = l.getD k 0) := ⟨_, rfl⟩
        rw [← HX.out] at hcell hx hbad
        by_cases hneg : x < 0
        · clear hbad
          go_wp2_with fail
          go_ret
          exact ⟨by rw [← HE.out, HR.out]; rfl, HBL.out⟩
        · have h1 : n ≤ x := by omega
          clear hbad
          go_wp2_with fail
          go_ret
          exact ⟨by rw [← HE.out, HR.out]; rfl, HBL.out⟩
      · by_cases hk0 : 0 < k
        · have hcell1 := HK1.out hk0
          have hk1 : (0 : Int) < (k : Int) := by omega
          have hk2 : (0 : Int) ≤ ((k - 1 : Nat) : Int) := by omega
          by_cases hord : l.getD k 0 ≤ l.getD (k - 1) 0
          · have HR := Lib.hid (vl_here HKL.out HV.out (okAt_bad2 hbad ⟨hk0, hord⟩) (by omega))
            obtain ⟨x, HX⟩ : ∃ x, Hid (x = l.getD k 0) := ⟨_, rfl⟩
            obtain ⟨y, HY⟩ : ∃ y, Hid (y = l.getD (k - 1) 0) := ⟨_, rfl⟩
            rw [← HX.out] at hcell hx hbad hord
            rw [← HY.out] at hcell1 hord
            have h1 : ¬ x < 0 := by omega
            have h2 : x < n := by omega
            clear hbad
            have e1 : IntKind.i64.wrap ((k : Int) - 1) = ((k - 1 : Nat) : Int) := by rw [show (k : Int) - 1 = ((k - 1 : Nat) : Int) by omega]; exact IntWalk.i64_in _ (by omega)
            go_wp2_with fail
            go_quiet (fail)
            go_wp2_with fail
            go_ret
            exact ⟨by rw [← HE.out, HR.out]; rfl, Below.drewN HBL.out⟩
          · have HR := Lib.hid (vl_on HKL.out HV.out (okAt_of (by omega) (by omega) (fun _ => by omega)))
            obtain ⟨x, HX⟩ : ∃ x, Hid (x = l.getD k 0) := ⟨_, rfl⟩
            obtain ⟨y, HY⟩ : ∃ y, Hid (y = l.getD (k - 1) 0) := ⟨_, rfl⟩
            rw [← HX.out] at hcell hx hbad hord
            rw [← HY.out] at hcell1 hord
            have h1 : ¬ x < 0 := by omega
            have h2 : x < n := by omega
            have h3 : y < x := by omega
            clear hbad hord
            have e1 : IntKind.i64.wrap ((k : Int) - 1) = ((k - 1 : Nat) : Int) := by rw [show (k : Int) - 1 = ((k - 1 : Nat) : Int) by omega]; exact IntWalk.i64_in _ (by omega)
            go_wp2_with fail
            go_quiet (fail)
            clear e1
            go_wp2_with fail
            go_roundw
            case rel => exact ⟨k + 1, by omega, by go_num, HR.out, Below.drewN HBL.out⟩
            case measure => simp [intOf]; omega
        · obtain rfl : k = 0 := by omega
          have HR := Lib.hid (vl_on HKL.out HV.out (okAt_of (by omega) (by omega) (fun h => by omega)))
          obtain ⟨x, HX⟩ : ∃ x, Hid (x = l.getD 0 0) := ⟨_, rfl⟩
          rw [← HX.out, Nat.add_zero] at hcell
          rw [← HX.out] at hx hbad
          have h1 : ¬ x < 0 := by omega
          have h2 : x < n := by omega
          clear hbad
          go_wp2_with fail
          go_quiet (fail)
          go_wp2_with fail
          go_roundw
          case rel => exact ⟨1, by omega, by go_num, HR.out, Below.drewN HBL.out⟩
          case measure => simp [intOf]; omega
    · obtain rfl : k = len := by omega
      have HR : Hid (E = 0) := by
        show _ = _
        rw [← HE.out, ← HV.out, HL.out, Nat.sub_self]; rfl
      go_wp2_with fail
      go_ret
      exact ⟨by rw [HR.out]; rfl, hbl⟩

/-- The first error of these lists. -/
def vlsE : List (List Int) → Int
  | [] => 0
  | l :: r => if vlE l 1024 ≠ 0 then vlE l 1024 else vlsE r

theorem vls_drop {ls : List (List Int)} {k : Nat} (hk : k < ls.length) : vlsE (ls.drop k) = if vlE (ls.getD k []) 1024 ≠ 0 then vlE (ls.getD k []) 1024 else vlsE (ls.drop (k + 1)) := by
  rw [List.drop_eq_getElem_cons hk, vlsE]
  simp [List.getD, List.getElem?_eq_getElem hk]
theorem vlsE_one (l : List Int) : vlsE [l] = vlE l 1024 := by
  simp only [vlsE]; split <;> omega
theorem vlsE_two (l m : List Int) : vlsE [l, m] = if vlE l 1024 ≠ 0 then vlE l 1024 else vlE m 1024 := by
  rw [vlsE, vlsE_one]

/-- The lists that are handed to validateLists. -/
def Lists (w : World) (g m : Nat) (vs : Array Value) (ls : List (List Int)) : Prop := Blk w g vs ∧ vs.size = m ∧ ls.length = m ∧ ∀ k, k < m → IntsV w (vs.getD k undef) (ls.getD k [])

theorem Lists.cell {w : World} {g m : Nat} {vs : Array Value} {ls : List (List Int)} (h : Lists w g m vs ls) {k : Nat} (hk : k < m) : w.cell? ⟨g, k, none⟩ = some (vs.getD k undef) := by
  rw [h.1.cell]
  simp [Array.getD, h.2.1, hk]

theorem lists1 {w : World} {y1 : Value} {l1 : List Int} {t : TypeId} {n : Nat} (hn : n = w.heap.size) (h1 : IntsV w y1 l1) : Lists (w.alloc (.cells #[y1] t)) n 1 #[y1] [l1] := by
  subst hn
  have hb : Below w.heap.size w (w.alloc (.cells #[y1] t)) := (Below.refl _ w).alloc (Nat.le_refl _) _
  refine ⟨Blk.new rfl, rfl, rfl, fun k hk => ?_⟩
  match k, hk with
  | 0, _ => exact h1.below hb
theorem lists2 {w : World} {y1 y2 : Value} {l1 l2 : List Int} {t : TypeId} {n : Nat} (hn : n = w.heap.size) (h1 : IntsV w y1 l1) (h2 : IntsV w y2 l2) : Lists (w.alloc (.cells #[y1, y2] t)) n 2 #[y1, y2] [l1, l2] := by
  subst hn
  have hb : Below w.heap.size w (w.alloc (.cells #[y1, y2] t)) := (Below.refl _ w).alloc (Nat.le_refl _) _
  refine ⟨Blk.new rfl, rfl, rfl, fun k hk => ?_⟩
  match k, hk with
  | 0, _ => exact h1.below hb
  | 1, _ => exact h2.below hb

set_option maxRecDepth 100000 in
set_option maxHeartbeats 4000000 in
theorem vlists_any (g m : Nat) (vs : Array Value) (ls : List (List Int)) (w : World) (h : Lists w g m vs ls) (hm : m ≤ 1000) :
    Calls Try.prog 54 #[.slice (some ⟨g, 0, none⟩) m m] w fun e w' => e = .returned (.int .i64 (vlsE ls)) ∧ w = w' := by
  have HD : Hid (∀ k, k < m → vlsE (ls.drop k) = if vlE (ls.getD k []) 1024 ≠ 0 then vlE (ls.getD k []) 1024 else vlsE (ls.drop (k + 1))) := fun k hk => vls_drop (by rw [h.2.2.1]; exact hk)
  have HZ : Hid (vlsE (ls.drop m) = 0) := by show _ = _; rw [List.drop_eq_nil_of_le (by rw [h.2.2.1]; exact Nat.le_refl _)]; rfl
  have HP := Lib.hid h; clear h
  obtain ⟨E, HE⟩ : ∃ E, Hid (vlsE ls = E) := ⟨_, rfl⟩
  rw [HE.out]
  go_enter Try.func54, Try.ntmps54
  go_wp2_with fail
  go_loop [8] (fun i => ∃ k : Nat, k ≤ m ∧ i = .int .i64 k ∧ vlsE (ls.drop k) = vlsE ls) (fun i => m - (intOf i).toNat)
  case atStart => exact ⟨0, Nat.zero_le _, rfl, rfl⟩
  case round =>
    obtain ⟨k, hk, rfl, hv⟩ := hrel
    have HV := Lib.hid hv; clear hv
    by_cases hlt : k < m
    · have hcell := HP.out.cell hlt
      have hI := HP.out.2.2.2 k hlt
      have hd := HD.out k hlt
      rw [HV.out, HE.out] at hd
      have D := vlist_any (vs.getD k undef) (ls.getD k []) 1024 w hI (by omega) (by omega)
      obtain ⟨y, hy⟩ : ∃ y, vs.getD k undef = y := ⟨_, rfl⟩
      rw [hy] at hcell D
      clear hy hI
      generalize vlE (ls.getD k []) 1024 = e at *
      have HD1 := Lib.hid D; clear D
      by_cases he : e = 0
      · subst he
        rw [if_neg (by simp)] at hd
        have HN : Hid (vlsE (ls.drop (k + 1)) = vlsE ls) := by show _ = _; rw [← hd, HE.out]
        clear hd
        go_wp2_with (go_at_call 11; refine HD1.out.mono ?_; rintro en w1 ⟨rfl, rfl⟩)
        go_round
        case rel => exact ⟨k + 1, by omega, by go_num, HN.out⟩
        case measure => simp [intOf]; omega
      · rw [if_pos he] at hd
        have HN := Lib.hid hd; clear hd
        have hne : (e != 0) = true := by simpa using he
        go_wp2_with (go_at_call 11; refine HD1.out.mono ?_; rintro en w1 ⟨rfl, rfl⟩)
        go_ret
        exact ⟨by rw [HN.out]; rfl, rfl⟩
    · obtain rfl : k = m := by omega
      have HN : Hid (E = 0) := by show _ = _; rw [← HE.out, ← HV.out, HZ.out]
      go_wp2_with fail
      go_ret
      exact ⟨by rw [HN.out]; rfl, rfl⟩

end Go.Proofs.Ytgcgjnjbhdhhgaa
