/- ValidateTable of the code and of the reference. -/
import Derived.Test.YtcbjjafjomdklaaLt
set_option linter.unusedVariables false

set_option linter.unusedSimpArgs false
namespace Go.Proofs.Ytcbjjafjomdklaa
open Go.RowKit

set_option maxRecDepth 100000

/-- The error of ValidateTable. -/
def vtE (n : Int) (l : List Int) : Int := if (l.length : Int) ≠ n then 2 else if 4611686018427387904 < l.sum then 4 else 0

theorem vtE_form {n : Int} {l : List Int} (h : (l.length : Int) ≠ n) : vtE n l = 2 := by unfold vtE; rw [if_pos h]

theorem vtE_over {n : Int} {l : List Int} (h : (l.length : Int) = n) (h2 : 4611686018427387904 < l.sum) : vtE n l = 4 := by unfold vtE; rw [if_neg (by simpa using h), if_pos h2]

theorem vtE_ok {n : Int} {l : List Int} (h : (l.length : Int) = n) (h2 : l.sum ≤ 4611686018427387904) : vtE n l = 0 := by unfold vtE; rw [if_neg (by simpa using h), if_neg (by omega)]

theorem tabOff {c : CpD} (h : c.ok) (v : Value) : offP [c.cells, [v]] 0 = 0 ∧ offP [c.cells, [v]] 1 = 33 ∧ (flatP [c.cells, [v]]).size = 34 := ⟨rfl, by simp [offP, CpD.len h], by rw [flatP_size]; simp [CpD.len h]⟩

theorem NumsV.shape {w : World} {v : Value} {l : List Int} (h : NumsV w v l) : ∃ a k, v = .slice a l.length k ∧ l.length ≤ maxLen := by
  obtain ⟨⟨a, n, k, rfl, e, hm, _⟩, _⟩ := h; exact ⟨a, k, by rw [e], by rw [e]; exact hm⟩

set_option maxHeartbeats 4000000 in
theorem vtab_any (c : CpD) (v : Value) (l : List Int) (n : Int) (w : World) (hc : c.ok) (hI : NumsV w v l) :
    Calls Try.prog 30 #[.agg (flatP [c.cells, [v]]), .int .i64 n] w fun e w' => e = .returned (.int .i64 (vtE n l)) ∧ Below w.heap.size w w' := by
  obtain ⟨X, HX⟩ : ∃ X, Hid (flatP [c.cells, [v]] = X) := ⟨_, rfl⟩
  rw [HX.out]
  have hba := (Below.refl w.heap.size w).alloc (Nat.le_refl _) (.cells X 36)
  have B : Hid (Blk (w.alloc (.cells X 36)) w.heap.size (flatP [c.cells, [v]])) := by show Blk _ _ _; rw [HX.out]; exact Blk.new rfl
  have HO := Lib.hid (tabOff hc v)
  have HS := Lib.hid (sum_any v l _ (hI.below hba).1 hI.2)
  obtain ⟨a, k, rfl, hm⟩ := hI.shape
  have HR : Hid (0 ≤ l.sum) := sum_nonneg fun x hx => (hI.2 x hx).1
  have HBA := Lib.hid hba
  clear hba HX hc hI
  by_cases hn : (l.length : Int) = n
  case neg =>
    have HE := Lib.hid (vtE_form hn)
    have hq : ((l.length : Int) != n) = true := by simpa using hn
    clear hn
    go_enter Try.func30, Try.ntmps30
    go_wp2_with ((with_reducible refine at_load (.tmp 7) ?_); refine wpList_load_1 29 (.tmp 7) rfl w.heap.size 33 (.slice a l.length k) (B.out.cellAt (k := 1) rfl HO.out.2.1) rfl _ Try.underlying29 rfl rfl ?_)
    go_ret
    exact ⟨by rw [HE.out]; rfl, HBA.out⟩
  case pos =>
    have hq : ((l.length : Int) != n) = false := by simpa using hn
    obtain ⟨E, HE⟩ : ∃ E, Hid (vtE n l = E) := ⟨_, rfl⟩
    rw [HE.out]
    have HN := Lib.hid hn
    clear hn
    by_cases hs : l.sum ≤ 18446744073709551615
    · have HL := Lib.hid (sum_lo hs)
      obtain ⟨s, hsv⟩ : ∃ s, l.sum = s := ⟨_, rfl⟩
      rw [HL.out.1, HL.out.2, hsv] at HS
      rw [hsv] at hs HR
      have hr := HR.out
      by_cases hb : s ≤ 4611686018427387904
      · have HE2 : Hid (E = 0) := by rw [← HE.out]; exact vtE_ok HN.out (by rw [hsv]; exact hb)
        clear hsv HL
        go_enter Try.func30, Try.ntmps30
        go_wp2_with (first
          | ((with_reducible refine at_load (.tmp 7) ?_); refine wpList_load_1 29 (.tmp 7) rfl w.heap.size 33 (.slice a l.length k) (B.out.cellAt (k := 1) rfl HO.out.2.1) rfl _ Try.underlying29 rfl rfl ?_)
          | ((with_reducible refine at_load (.tmp 13) ?_); refine wpList_load_1 29 (.tmp 13) rfl w.heap.size 33 (.slice a l.length k) (B.out.cellAt (k := 1) rfl HO.out.2.1) rfl _ Try.underlying29 rfl rfl ?_)
          | (go_at_call 45; refine HS.out.mono ?_; rintro e w1 ⟨rfl, rfl⟩))
        go_ret
        exact ⟨by rw [HE2.out]; rfl, HBA.out⟩
      · have HE2 : Hid (E = 4) := by rw [← HE.out]; exact vtE_over HN.out (by rw [hsv]; omega)
        have hb' : 4611686018427387904 < s := by omega
        clear hsv HL hb
        go_enter Try.func30, Try.ntmps30
        go_wp2_with (first
          | ((with_reducible refine at_load (.tmp 7) ?_); refine wpList_load_1 29 (.tmp 7) rfl w.heap.size 33 (.slice a l.length k) (B.out.cellAt (k := 1) rfl HO.out.2.1) rfl _ Try.underlying29 rfl rfl ?_)
          | ((with_reducible refine at_load (.tmp 13) ?_); refine wpList_load_1 29 (.tmp 13) rfl w.heap.size 33 (.slice a l.length k) (B.out.cellAt (k := 1) rfl HO.out.2.1) rfl _ Try.underlying29 rfl rfl ?_)
          | (go_at_call 45; refine HS.out.mono ?_; rintro e w1 ⟨rfl, rfl⟩))
        go_ret
        exact ⟨by rw [HE2.out]; rfl, HBA.out⟩
    · have HL := Lib.hid (sum_hi (xs := l) (by omega))
      rw [HL.out.1, HL.out.2] at HS
      have HE2 : Hid (E = 4) := by rw [← HE.out]; exact vtE_over HN.out (by omega)
      clear HL hs
      go_enter Try.func30, Try.ntmps30
      go_wp2_with (first
        | ((with_reducible refine at_load (.tmp 7) ?_); refine wpList_load_1 29 (.tmp 7) rfl w.heap.size 33 (.slice a l.length k) (B.out.cellAt (k := 1) rfl HO.out.2.1) rfl _ Try.underlying29 rfl rfl ?_)
        | ((with_reducible refine at_load (.tmp 13) ?_); refine wpList_load_1 29 (.tmp 13) rfl w.heap.size 33 (.slice a l.length k) (B.out.cellAt (k := 1) rfl HO.out.2.1) rfl _ Try.underlying29 rfl rfl ?_)
        | (go_at_call 45; refine HS.out.mono ?_; rintro e w1 ⟨rfl, rfl⟩))
      go_ret
      exact ⟨by rw [HE2.out]; rfl, HBA.out⟩

set_option maxHeartbeats 4000000 in
theorem rvtab_any (c : CpD) (v : Value) (l : List Int) (n : Int) (w : World) (hc : c.ok) (hI : NumsV w v l) :
    Calls Try.prog 6 #[.agg (flatP [c.cells, [v]]), .int .i64 n] w fun e w' => e = .returned (.int .i64 (vtE n l)) ∧ Below w.heap.size w w' := by
  obtain ⟨X, HX⟩ : ∃ X, Hid (flatP [c.cells, [v]] = X) := ⟨_, rfl⟩
  rw [HX.out]
  have hba := (Below.refl w.heap.size w).alloc (Nat.le_refl _) (.cells X 36)
  have B : Hid (Blk (w.alloc (.cells X 36)) w.heap.size (flatP [c.cells, [v]])) := by show Blk _ _ _; rw [HX.out]; exact Blk.new rfl
  have HO := Lib.hid (tabOff hc v)
  have HS := Lib.hid (rsum_any v l _ (hI.below hba).1 hI.2)
  obtain ⟨a, k, rfl, hm⟩ := hI.shape
  have HR : Hid (0 ≤ l.sum) := sum_nonneg fun x hx => (hI.2 x hx).1
  have HBA := Lib.hid hba
  clear hba HX hc hI
  by_cases hn : (l.length : Int) = n
  case neg =>
    have HE := Lib.hid (vtE_form hn)
    have hq : ((l.length : Int) != n) = true := by simpa using hn
    clear hn
    go_enter Try.func6, Try.ntmps6
    go_wp2_with ((with_reducible refine at_load (.tmp 7) ?_); refine wpList_load_1 29 (.tmp 7) rfl w.heap.size 33 (.slice a l.length k) (B.out.cellAt (k := 1) rfl HO.out.2.1) rfl _ Try.underlying29 rfl rfl ?_)
    go_ret
    exact ⟨by rw [HE.out]; rfl, HBA.out⟩
  case pos =>
    have hq : ((l.length : Int) != n) = false := by simpa using hn
    obtain ⟨E, HE⟩ : ∃ E, Hid (vtE n l = E) := ⟨_, rfl⟩
    rw [HE.out]
    have HN := Lib.hid hn
    clear hn
    by_cases hs : l.sum ≤ 18446744073709551615
    · have HL := Lib.hid (sum_lo hs)
      obtain ⟨s, hsv⟩ : ∃ s, l.sum = s := ⟨_, rfl⟩
      rw [HL.out.1, HL.out.2, hsv] at HS
      rw [hsv] at hs HR
      have hr := HR.out
      by_cases hb : s ≤ 4611686018427387904
      · have HE2 : Hid (E = 0) := by rw [← HE.out]; exact vtE_ok HN.out (by rw [hsv]; exact hb)
        clear hsv HL
        go_enter Try.func6, Try.ntmps6
        go_wp2_with (first
          | ((with_reducible refine at_load (.tmp 7) ?_); refine wpList_load_1 29 (.tmp 7) rfl w.heap.size 33 (.slice a l.length k) (B.out.cellAt (k := 1) rfl HO.out.2.1) rfl _ Try.underlying29 rfl rfl ?_)
          | ((with_reducible refine at_load (.tmp 13) ?_); refine wpList_load_1 29 (.tmp 13) rfl w.heap.size 33 (.slice a l.length k) (B.out.cellAt (k := 1) rfl HO.out.2.1) rfl _ Try.underlying29 rfl rfl ?_)
          | (go_at_call 20; refine HS.out.mono ?_; rintro e w1 ⟨rfl, rfl⟩))
        go_ret
        exact ⟨by rw [HE2.out]; rfl, HBA.out⟩
      · have HE2 : Hid (E = 4) := by rw [← HE.out]; exact vtE_over HN.out (by rw [hsv]; omega)
        have hb' : 4611686018427387904 < s := by omega
        clear hsv HL hb
        go_enter Try.func6, Try.ntmps6
        go_wp2_with (first
          | ((with_reducible refine at_load (.tmp 7) ?_); refine wpList_load_1 29 (.tmp 7) rfl w.heap.size 33 (.slice a l.length k) (B.out.cellAt (k := 1) rfl HO.out.2.1) rfl _ Try.underlying29 rfl rfl ?_)
          | ((with_reducible refine at_load (.tmp 13) ?_); refine wpList_load_1 29 (.tmp 13) rfl w.heap.size 33 (.slice a l.length k) (B.out.cellAt (k := 1) rfl HO.out.2.1) rfl _ Try.underlying29 rfl rfl ?_)
          | (go_at_call 20; refine HS.out.mono ?_; rintro e w1 ⟨rfl, rfl⟩))
        go_ret
        exact ⟨by rw [HE2.out]; rfl, HBA.out⟩
    · have HL := Lib.hid (sum_hi (xs := l) (by omega))
      rw [HL.out.1, HL.out.2] at HS
      have HE2 : Hid (E = 4) := by rw [← HE.out]; exact vtE_over HN.out (by omega)
      clear HL hs
      go_enter Try.func6, Try.ntmps6
      go_wp2_with (first
        | ((with_reducible refine at_load (.tmp 7) ?_); refine wpList_load_1 29 (.tmp 7) rfl w.heap.size 33 (.slice a l.length k) (B.out.cellAt (k := 1) rfl HO.out.2.1) rfl _ Try.underlying29 rfl rfl ?_)
        | ((with_reducible refine at_load (.tmp 13) ?_); refine wpList_load_1 29 (.tmp 13) rfl w.heap.size 33 (.slice a l.length k) (B.out.cellAt (k := 1) rfl HO.out.2.1) rfl _ Try.underlying29 rfl rfl ?_)
        | (go_at_call 20; refine HS.out.mono ?_; rintro e w1 ⟨rfl, rfl⟩))
      go_ret
      exact ⟨by rw [HE2.out]; rfl, HBA.out⟩
end Go.Proofs.Ytcbjjafjomdklaa
