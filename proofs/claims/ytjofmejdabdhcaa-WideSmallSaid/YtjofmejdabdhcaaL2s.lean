/- Stage 2: the walk of WideSmall. -/
import Derived.Test.YtjofmejdabdhcaaAwake2
import Derived.Test.YtjofmejdabdhcaaWide2
import Derived.Test.YtjofmejdabdhcaaWide3
import Derived.Test.YtjofmejdabdhcaaRef5
import Derived.Test.YtjofmejdabdhcaaRef7
import Derived.Test.YtjofmejdabdhcaaOpenW
set_option linter.unusedVariables false
namespace Go.Proofs.Ytjofmejdabdhcaa
open Go.RowKit

theorem divQ_rng {n k : Int} (hn : W256 n) (hk : 0 ≤ k) : W256 (divQ n k) := by
  unfold divQ
  split
  · exact W256.zero
  · exact ⟨Int.ediv_nonneg hn.1 hk, by have := Int.ediv_le_self k hn.1; have := hn.2; omega⟩

set_option maxHeartbeats 4000000 in
theorem small_any (n k : Int) (hn : W256 n) (hk : 0 ≤ k) (hk2 : k ≤ 18446744073709551615) (w : World) :
    Calls Try.prog 4 #[.agg #[.int .u64 (l0 (n)), .int .u64 (l1 (n)), .int .u64 (l2 (n)), .int .u64 (l3 (n))], .int .u64 k] w fun e w' => e = .returned (.bool true) ∧ Below w.heap.size w w' := by
  have hpW := madN_rng hn hk (show (0 : Int) ≤ 0 by omega)
  have hqW := divQ_rng hn hk
  have D1 := mul_any n k hn hk hk2
  have D2 := rmulS_any n k hn hk hk2
  have D3 := div_any n k hn hk hk2
  have D4 := rdiv_any n k hn hk hk2
  obtain ⟨p, hp⟩ : ∃ s, madN n k 0 = s := ⟨_, rfl⟩
  obtain ⟨q, hq⟩ : ∃ d, divQ n k = d := ⟨_, rfl⟩
  obtain ⟨ep, hep⟩ : ∃ s, madF n k 0 = s := ⟨_, rfl⟩
  obtain ⟨r, hr⟩ : ∃ s, divR n k = s := ⟨_, rfl⟩
  obtain ⟨ed, hed⟩ : ∃ c, divE k = c := ⟨_, rfl⟩
  rw [hp] at hpW D1 D2
  rw [hep] at D1 D2
  rw [hq] at hqW D3 D4
  rw [hr, hed] at D3 D4
  clear hp hq hep hr hed
  have q1 := eq_wide hpW hpW
  have q2 := eq_wide hqW hqW
  have H1 := Lib.hid D1; clear D1
  have H2 := Lib.hid D2; clear D2
  have H3 := Lib.hid D3; clear D3
  have H4 := Lib.hid D4; clear D4
  have hb := Below.refl w.heap.size w
  have bA : Blk (w.alloc (.cells #[.int .u64 (l0 n), .int .u64 (l1 n), .int .u64 (l2 n), .int .u64 (l3 n)] 24)) w.heap.size #[.int .u64 (l0 n), .int .u64 (l1 n), .int .u64 (l2 n), .int .u64 (l3 n)] := Blk.new rfl
  go_enter Try.func4, Try.ntmps4
  go_wp2_with (first
    | (go_at_call 18; refine (H1.out _).mono ?_; rintro e w1 ⟨rfl, hb1⟩; replace bA := bA.call hb1; replace hb := bel1 hb hb1; clear hb1; obtain ⟨a0, a1, a2, a3, a4⟩ := bA.four; have lA := bA.lt)
    | (go_at_call 19; refine (H2.out _).mono ?_; rintro e w2 ⟨rfl, hb2⟩; replace bA := (bA.alloc _).call hb2; have bX := Blk.call hb2 (Blk.new rfl); replace hb := bel1 hb hb2; clear hb2; obtain ⟨a0, a1, a2, a3, a4⟩ := bA.four; have lA := bA.lt; have lX := bX.lt)
    | (go_at_call 20; refine (H3.out _).mono ?_; rintro e w3 ⟨rfl, hb3⟩; replace bA := (bA.alloc _).call hb3; replace bX := (bX.alloc _).call hb3; have bY := Blk.call hb3 (Blk.new rfl); replace hb := bel1 hb hb3; clear hb3; obtain ⟨a0, a1, a2, a3, a4⟩ := bA.four; have lA := bA.lt; have lX := bX.lt; have lY := bY.lt)
    | (go_at_call 21; refine (H4.out _).mono ?_; rintro e w4 ⟨rfl, hb4⟩; replace bX := (bX.alloc _).call hb4; replace bY := (bY.alloc _).call hb4; have bZ := Blk.call hb4 (Blk.new rfl); replace hb := bel1 hb hb4; clear hb4; obtain ⟨x0, x1, x2, x3, x4⟩ := bX.four; obtain ⟨y0, y1, y2, y3, y4⟩ := bY.four; obtain ⟨z0, z1, z2, z3, z4⟩ := bZ.four; have lX := bX.lt; have lY := bY.lt; have lZ := bZ.lt)
    | (go_at_call 17; refine (awake2 _).mono ?_; rintro e w9 ⟨rfl, hb9⟩))
  go_ret
  exact ⟨rfl, bel1 hb hb9⟩

theorem walk_WideSmall (a0 : List Int) (a1 : Int) (w : World) (w0 : a0.length = 4 ∧ ∀ x ∈ a0, (Lit.int .u64 x).wf = true) (w1 : (Lit.int .u64 a1).wf = true) :
    Calls Try.prog 4 #[.agg (a0.map (Value.int .u64)).toArray, .int .u64 a1] w fun e w' => e = .returned (.bool true) ∧ Below w.heap.size w w' := by
  obtain ⟨n, hn, e⟩ := wide_of w0
  rw [e]
  exact small_any n a1 hn (wf_u64 w1).1 (wf_u64 w1).2 w

end Go.Proofs.Ytjofmejdabdhcaa
