/- Stage 2: the walk of WideTexts. -/
import Derived.Test.YtgleleccmpncnaaAwake2
import Derived.Test.YtgleleccmpncnaaTxtR
import Derived.Test.YtgleleccmpncnaaTxtF
import Derived.Test.YtgleleccmpncnaaOpenW
import Derived.Deep.RegionWith
set_option linter.unusedVariables false
namespace Go.Proofs.Ytgleleccmpncnaa
open Go.RowKit

set_option maxHeartbeats 1000000 in
theorem texts_long (n : Int) (hn : W256 n) (s : ByteArray) (hs : s.size ≤ maxLen) (h : 500 < s.size) (w : World) :
    Calls Try.prog 3 #[.agg #[.int .u64 (l0 (n)), .int .u64 (l1 (n)), .int .u64 (l2 (n)), .int .u64 (l3 (n))], .string s] w fun e w' => e = .returned (.bool true) ∧ Below w.heap.size w w' := by
  have hsm : (s.size : Int) ≤ 9223372036854775807 := by unfold maxLen at hs; omega
  have h2 : (500 : Int) < (s.size : Int) := by omega
  have hb : Below w.heap.size w (w.alloc (.cells #[.int .u64 (l0 n), .int .u64 (l1 n), .int .u64 (l2 n), .int .u64 (l3 n)] 24)) := (Below.refl _ _).alloc (Nat.le_refl _) _
  go_enter Try.func3, Try.ntmps3
  go_wp2_with (go_at_call 10; refine (awake2 _).mono ?_; rintro e w1 ⟨rfl, hb1⟩; replace hb := bel0 hb hb1)
  go_ret
  exact ⟨rfl, hb⟩

set_option maxHeartbeats 4000000 in
theorem texts_short (n : Int) (hn : W256 n) (s : ByteArray) (hs : s.size ≤ maxLen) (h : s.size ≤ 500) (w : World) :
    Calls Try.prog 3 #[.agg #[.int .u64 (l0 (n)), .int .u64 (l1 (n)), .int .u64 (l2 (n)), .int .u64 (l3 (n))], .string s] w fun e w' => e = .returned (.bool true) ∧ Below w.heap.size w w' := by
  have hsm : (s.size : Int) ≤ 500 := by omega
  have h2 : ¬ (500 : Int) < (s.size : Int) := by omega
  have D1 := fmt_any n hn
  have D5 := rfmt_any n hn
  obtain ⟨b1, b2, b3⟩ := dec_back hn
  have hts : (strOfNums (decL n.toNat)).size ≤ maxLen := by
    have := (notB_digs b1).2.1
    unfold maxLen; omega
  have D2 := fun w => parse_any (strOfNums (decL n.toNat)) w hts
  rw [b2, b3] at D2
  obtain ⟨t, ht⟩ : ∃ t, strOfNums (decL n.toNat) = t := ⟨_, rfl⟩
  rw [ht] at D1 D2 D5
  have D3 := fun w => parse_any s w hs
  have D4 := fun w => rparse_any s w hs
  have hvW : W256 (parseV s) := by
    unfold parseV
    by_cases hB : notB s = true
    · rw [if_pos hB]
      have h0 := valN_mono (notB_digs hB).2.2 s.size (Nat.le_refl _)
      split
      · exact ⟨h0.1, by assumption⟩
      · exact W256.zero
    · rw [if_neg hB]; exact W256.zero
  obtain ⟨v, hv⟩ : ∃ v, parseV s = v := ⟨_, rfl⟩
  obtain ⟨ev, hev⟩ : ∃ v, parseE s = v := ⟨_, rfl⟩
  rw [hv, hev] at D3 D4
  rw [hv] at hvW
  clear hv hev ht hts b1 b2 b3
  have q1 := eq_wide hn hn
  have q2 := eq_wide hvW hvW
  have H1 := Lib.hid D1; clear D1
  have H2 := Lib.hid D2; clear D2
  have H3 := Lib.hid D3; clear D3
  have H4 := Lib.hid D4; clear D4
  have H5 := Lib.hid D5; clear D5
  have hb : Below w.heap.size w (w.alloc (.cells #[.int .u64 (l0 n), .int .u64 (l1 n), .int .u64 (l2 n), .int .u64 (l3 n)] 24)) := (Below.refl _ _).alloc (Nat.le_refl _) _
  have bA : Blk (w.alloc (.cells #[.int .u64 (l0 n), .int .u64 (l1 n), .int .u64 (l2 n), .int .u64 (l3 n)] 24)) w.heap.size #[.int .u64 (l0 n), .int .u64 (l1 n), .int .u64 (l2 n), .int .u64 (l3 n)] := Blk.new rfl
  go_enter Try.func3, Try.ntmps3
  go_wp2_with (first
    | (go_at_call 11; refine (H1.out _).mono ?_; rintro e w1 ⟨rfl, hb1⟩; replace bA := bA.call hb1; replace hb := bel0 hb hb1; clear hb1; obtain ⟨a0, a1, a2, a3, a4⟩ := bA.four)
    | (go_at_call_of 12 t; refine (H2.out _).mono ?_; rintro e w2 ⟨rfl, hb2⟩; replace bA := bA.call hb2; replace hb := bel0 hb hb2; clear hb2; obtain ⟨a0, a1, a2, a3, a4⟩ := bA.four)
    | (go_at_call_of 12 s; refine (H3.out _).mono ?_; rintro e w3 ⟨rfl, hb3⟩; replace bA := (bA.alloc _).call hb3; have bX := Blk.call hb3 (Blk.new rfl); replace hb := bel1 hb hb3; clear hb3; obtain ⟨a0, a1, a2, a3, a4⟩ := bA.four)
    | (go_at_call 13; refine (H4.out _).mono ?_; rintro e w4 ⟨rfl, hb4⟩; replace bA := (bA.alloc _).call hb4; replace bX := (bX.alloc _).call hb4; have bY := Blk.call hb4 (Blk.new rfl); replace hb := bel1 hb hb4; clear hb4; obtain ⟨a0, a1, a2, a3, a4⟩ := bA.four; have lA := bA.lt)
    | (go_at_call 14; refine (H5.out _).mono ?_; rintro e w5 ⟨rfl, hb5⟩; replace bA := (bA.alloc _).call hb5; replace bX := (bX.alloc _).call hb5; replace bY := (bY.alloc _).call hb5; have bZ := Blk.call hb5 (Blk.new rfl); replace hb := bel1 hb hb5; clear hb5; obtain ⟨a0, a1, a2, a3, a4⟩ := bA.four; obtain ⟨x0, x1, x2, x3, x4⟩ := bX.four; obtain ⟨y0, y1, y2, y3, y4⟩ := bY.four; obtain ⟨z0, z1, z2, z3, z4⟩ := bZ.four)
    | (go_at_call 10; refine (awake2 _).mono ?_; rintro e w6 ⟨rfl, hb6⟩; replace hb := bel0 hb hb6; clear hb6))
  go_ret
  exact ⟨rfl, hb⟩

theorem walk_WideTexts (a0 : List Int) (a1 : ByteArray) (w : World) (w0 : a0.length = 4 ∧ ∀ x ∈ a0, (Lit.int .u64 x).wf = true) (w1 : a1.size ≤ maxLen) :
    Calls Try.prog 3 #[.agg (a0.map (Value.int .u64)).toArray, .string a1] w fun e w' => e = .returned (.bool true) ∧ Below w.heap.size w w' := by
  obtain ⟨n, hn, e⟩ := wide_of w0
  rw [e]
  by_cases h : 500 < a1.size
  · exact texts_long n hn a1 w1 h w
  · exact texts_short n hn a1 w1 (by omega) w

end Go.Proofs.Ytgleleccmpncnaa
