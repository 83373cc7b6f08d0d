/- The reader's Wide, Bool, Bytes. -/
import Derived.Test.YtmnojgdfbhdkhaaCdT
import Derived.Test.YtmnojgdfbhdkhaaFromB
set_option linter.unusedVariables false
namespace Go.Proofs.Ytmnojgdfbhdkhaa
open Go.RowKit
variable {lo : Nat}

set_option maxRecDepth 100000 in
set_option maxHeartbeats 4000000 in
theorem wide_any (g : Nat) (rest : List Int) (e n : Int) (w : World) (h : Rdr lo w g rest e) (hn : W256 n) (hw : bytesN n = wV rest e) :
    Calls Try.prog 100 #[.pointer (some ⟨g, 0, none⟩)] w (Reads lo w g (.agg #[.int .u64 (l0 (n)), .int .u64 (l1 (n)), .int .u64 (l2 (n)), .int .u64 (l3 (n))]) (tkR rest e 32) (tkE rest e 32)) := by
  have hglt := h.lt
  have hba := (Below.refl w.heap.size w).alloc (Nat.le_refl _) (.cells #[.int .u64 0, .int .u64 0, .int .u64 0, .int .u64 0] 30)
  have D := word_any g rest e _ (h.below hba)
  have D2 := fromB_any n hn
  have e0 : ((bytesN n).map (Value.int .u8)).toArray = bytesV (wV rest e) := by rw [hw]; rfl
  rw [e0] at D2
  obtain ⟨X, HX⟩ : ∃ X, bytesV (wV rest e) = X := ⟨_, rfl⟩
  rw [HX] at D D2
  have HD := Lib.hid D; clear D
  have HD2 := Lib.hid D2; clear D2
  have HBA := Lib.hid hba; clear hba h HX e0 hw
  go_enter Try.func100, Try.ntmps100
  go_wp2_with (first
    | (go_at_call 113; refine HD.out.mono ?_; rintro en w1 ⟨rfl, hr1, hg1⟩; have HR1 := Lib.hid hr1; clear hr1; have HB1 := Lib.hid (Blk.grown (Blk.new (w := w) (n := w.heap.size) (cs := #[.int .u64 0, .int .u64 0, .int .u64 0, .int .u64 0]) (t := 30) rfl) hg1 (by simp; omega)); have HG1 := Lib.hid hg1; clear hg1)
    | (go_at_call 114; refine (HD2.out _).mono ?_; rintro en w2 ⟨rfl, hb2⟩; have hB2 := HB1.out.call hb2; obtain ⟨k0, k1, k2, k3, k4⟩ := hB2.four; have hlt2 := hB2.lt; have HB2 := Lib.hid hB2; clear hB2; have HBL2 := Lib.hid hb2; clear hb2))
  obtain ⟨tR, hR⟩ := HB2.out.store4 (v0 := .int .u64 (l0 n)) (v1 := .int .u64 (l1 n)) (v2 := .int .u64 (l2 n)) (v3 := .int .u64 (l3 n))
  have hs1 := HG1.out.size
  have b2 : Below w.heap.size w1 w2 := HBL2.out.mono (by simp at hs1; omega)
  refine bodyPost_ret (res_cellR rfl rfl ⟨tR, hR⟩ Try.underlying30 rfl (by kernel_rfl)) rfl ⟨rfl, ?_, ?_⟩
  · exact HR1.out.belowN (below_store4 b2 (Nat.le_refl _)) hglt
  · exact grownBy_cut ((grownBy_of_below HBA.out).trans HG1.out) (below_store4 b2 (Nat.le_refl _))

theorem byt_head {w : World} {a : Option Addr} {c : Nat} {x : Int} (h : Byt w (.slice a 1 c) [x]) : ∃ b o, a = some ⟨b, o, none⟩ ∧ w.cell? ⟨b, o, none⟩ = some (.int .u8 x) := by
  obtain ⟨_, _, _, e, _, _, hr⟩ := h.ints
  cases e
  rcases hr with hr | ⟨b, o, e, _, hc⟩
  · omega
  · exact ⟨b, o, e, hc 0 (by omega)⟩

/-- Bool: value, bytes left, error. -/
def bV (rest : List Int) (e : Int) : Bool := decide (e = 0 ∧ 0 < rest.length ∧ rest.getD 0 0 = 1)
def bR (rest : List Int) (e : Int) : List Int := if e = 0 ∧ 0 < rest.length ∧ rest.getD 0 0 ≤ 1 then rest.drop 1 else rest
def bE (rest : List Int) (e : Int) : Int := if e ≠ 0 then e else if rest.length = 0 then 5 else if 1 < rest.getD 0 0 then 2 else 0

set_option maxRecDepth 100000 in
set_option maxHeartbeats 4000000 in
theorem boolr_any (g : Nat) (rest : List Int) (e : Int) (w : World) (h : Rdr lo w g rest e) :
    Calls Try.prog 102 #[.pointer (some ⟨g, 0, none⟩)] w (Reads lo w g (.bool (bV rest e)) (bR rest e) (bE rest e)) := by
  have HR := Lib.hid h
  obtain ⟨a, l, c, hB, hY, hF⟩ := h
  obtain ⟨_, _, _, e', hll, _, hr⟩ := hY.ints
  cases e'
  have hfits := hY.fits _ _ _ rfl
  unfold maxLen at hfits
  obtain ⟨c0, c1, c2⟩ := Rdr.two hB
  have HY := Lib.hid hY; clear hY hB
  have HF := Lib.hid hF; clear hF
  unfold bV bR bE
  rw [hll]
  by_cases he : e = 0
  case neg =>
    rw [if_neg (fun h => he h.1), if_pos he, decide_eq_false (fun h => he h.1)]
    have hne : (e == 0) = false := by simpa using he
    have T : Hid (Calls Try.prog 115 #[.pointer (some ⟨g, 0, none⟩), .int .u64 1] w (Takes lo w g [] rest e)) := by
      have := take_any g rest e 1 w HR.out (by omega) (by omega)
      unfold tkV tkR tkE at this
      rw [if_pos he, if_pos he, if_pos he] at this
      exact this
    clear hr
    go_enter Try.func102, Try.ntmps102
    go_wp2_with (go_at_call 115; refine T.out.mono ?_; rintro en w1 ⟨a1, l1, c1, rfl, hy1, hf1, hr1, hg1⟩; obtain ⟨_, _, _, e', hl1, _⟩ := hy1.ints; cases e'; obtain rfl : l1 = 0 := hl1.symm; have HR1 := Lib.hid hr1; clear hr1 hy1 hf1 hl1)
    go_ret
    exact ⟨rfl, HR1.out, hg1⟩
  subst he
  simp only [ne_eq, not_true_eq_false, if_false, true_and]
  by_cases h0 : l = 0
  case pos =>
    subst h0
    obtain rfl : rest = [] := List.eq_nil_of_length_eq_zero hll
    rw [if_neg (by omega), if_pos rfl, decide_eq_false (by omega)]
    have T : Hid (Calls Try.prog 115 #[.pointer (some ⟨g, 0, none⟩), .int .u64 1] w (Takes lo w g [] [] 5)) := by
      have := take_any g [] 0 1 w HR.out (by omega) (by omega)
      exact this
    clear hr
    go_enter Try.func102, Try.ntmps102
    go_wp2_with (go_at_call 115; refine T.out.mono ?_; rintro en w1 ⟨a1, l1, c1, rfl, hy1, hf1, hr1, hg1⟩; obtain ⟨_, _, _, e', hl1, _⟩ := hy1.ints; cases e'; obtain rfl : l1 = 0 := hl1.symm; have HR1 := Lib.hid hr1; clear hr1 hy1 hf1 hl1)
    go_ret
    exact ⟨rfl, HR1.out, hg1⟩
  rcases hr with hr | ⟨b, off, rfl, hb, hc⟩
  · omega
  have hx := HY.out.at (k := 0) (by omega)
  have hcell := hc 0 (by omega)
  clear hc
  rw [Nat.add_zero] at hcell
  have HLL := Lib.hid hll; clear hll
  obtain ⟨x, HX⟩ : ∃ x, Hid (x = rest.getD 0 0) := ⟨_, rfl⟩
  rw [← HX.out] at hx hcell ⊢
  have hl0 : 0 < l := by omega
  have hl1 : (0 : Int) < (l : Int) := by omega
  rw [if_neg h0]
  by_cases h1 : 1 < x
  case pos =>
    rw [if_neg (by omega), if_pos h1, decide_eq_false (by omega)]
    have T : Hid (Calls Try.prog 115 #[.pointer (some ⟨g, 0, none⟩), .int .u64 1] (w.setCell ⟨g, 1, none⟩ (.int .i64 2)) (Takes lo (w.setCell ⟨g, 1, none⟩ (.int .i64 2)) g [] rest 2)) :=
      take_any g rest 2 1 _ HR.out.setErr (by omega) (by omega)
    go_enter Try.func102, Try.ntmps102
    go_wp2_with (go_at_call 115; refine T.out.mono ?_; rintro en w1 ⟨a1, l1, c1, rfl, hy1, hf1, hr1, hg1⟩; obtain ⟨_, _, _, e', hl1, _⟩ := hy1.ints; cases e'; obtain rfl : l1 = 0 := hl1.symm; have HR1 := Lib.hid hr1; clear hr1 hy1 hf1 hl1)
    go_ret
    exact ⟨rfl, HR1.out, grownBy_set.trans hg1⟩
  case neg =>
    rw [if_pos (by omega), if_neg h1]
    have T : Hid (Calls Try.prog 115 #[.pointer (some ⟨g, 0, none⟩), .int .u64 1] w (Takes lo w g [x] (rest.drop 1) 0)) := by
      have := take_any g rest 0 1 w HR.out (by omega) (by omega)
      unfold tkV tkR tkE at this
      simp only [ne_eq, not_true_eq_false, if_false] at this
      rw [if_neg (by rw [HLL.out]; omega), if_neg (by rw [HLL.out]; omega), if_neg (by rw [HLL.out]; omega)] at this
      have e1 : rest.take (1 : Int).toNat = [x] := by
        rw [HX.out]
        cases rest with
        | nil => exfalso; have := HLL.out; simp at this; omega
        | cons y r => simp
      rw [e1] at this
      exact this
    have hd : decide (0 < l ∧ x = 1) = (x == 1) := by
      by_cases hx1 : x = 1
      · subst hx1; simp; omega
      · simp [hx1]
    rw [hd]
    go_enter Try.func102, Try.ntmps102
    go_wp2_with (go_at_call 115; refine T.out.mono ?_; rintro en w1 ⟨a1, l1, c1, rfl, hy1, hf1, hr1, hg1⟩; obtain ⟨_, _, _, e', hl1, _⟩ := hy1.ints; cases e'; obtain rfl : l1 = 1 := hl1.symm; have HR1 := Lib.hid hr1; clear hr1 hf1 hl1; have hfit1 := (hy1.fits _ _ _ rfl).1; obtain ⟨b1, o1, rfl, hcc⟩ := byt_head hy1; clear hy1)
    go_ret
    exact ⟨rfl, HR1.out, hg1⟩

end Go.Proofs.Ytmnojgdfbhdkhaa
