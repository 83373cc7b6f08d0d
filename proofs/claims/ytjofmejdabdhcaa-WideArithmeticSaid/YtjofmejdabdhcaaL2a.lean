/- Stage 2: the walk of WideArithmetic. -/
import Derived.Test.YtjofmejdabdhcaaAwake2
import Derived.Test.YtjofmejdabdhcaaWide2
import Derived.Test.YtjofmejdabdhcaaWide4
import Derived.Test.YtjofmejdabdhcaaRef1
import Derived.Test.YtjofmejdabdhcaaRef2
import Derived.Test.YtjofmejdabdhcaaEq
import Derived.Test.YtjofmejdabdhcaaOpenW
set_option linter.unusedVariables false
namespace Go.Proofs.Ytjofmejdabdhcaa
open Go.RowKit

set_option maxHeartbeats 4000000 in
theorem arith_any (n m x : Int) (hn : W256 n) (hm : W256 m) (hx : 0 ≤ x) (hx2 : x ≤ 18446744073709551615) (w : World) :
    Calls Try.prog 3 #[.agg #[.int .u64 (l0 (n)), .int .u64 (l1 (n)), .int .u64 (l2 (n)), .int .u64 (l3 (n))], .agg #[.int .u64 (l0 (m)), .int .u64 (l1 (m)), .int .u64 (l2 (m)), .int .u64 (l3 (m))], .int .u64 x] w fun e w' => e = .returned (.bool true) ∧ Below w.heap.size w w' := by
  obtain ⟨s, hs⟩ : ∃ s, addN n m = s := ⟨_, rfl⟩
  obtain ⟨d, hd⟩ : ∃ d, subN n m = d := ⟨_, rfl⟩
  obtain ⟨es, hes⟩ : ∃ s, addF n m = s := ⟨_, rfl⟩
  obtain ⟨ed, hed⟩ : ∃ s, subF n m = s := ⟨_, rfl⟩
  obtain ⟨cm, hcm⟩ : ∃ c, cmpN n m = c := ⟨_, rfl⟩
  have hsW := addN_rng hn hm
  have hdW := subN_rng hn hm
  have D1 := wadd_any n m hn hm
  have D2 := radd_any n m hn hm
  have D3 := wsub_any n m hn hm
  have D4 := rsub_any n m hn hm
  have D5 := wcmp_any n m hn hm
  have D6 := rcmp_any n m hn hm
  rw [hs] at hsW D1 D2
  rw [hd] at hdW D3 D4
  rw [hes] at D1 D2
  rw [hed] at D3 D4
  rw [hcm] at D5 D6
  clear hs hd hes hed hcm
  have q1 := eq_wide hsW hsW
  have q2 := eq_wide hdW hdW
  have hxW : W256 x := ⟨hx, by omega⟩
  have q3 := eq_wide hxW hxW
  have ex : l0 x = x ∧ l1 x = 0 ∧ l2 x = 0 ∧ l3 x = 0 := by unfold l0 l1 l2 l3; omega
  rw [ex.1, ex.2.1, ex.2.2.1, ex.2.2.2] at q3
  clear ex
  have H1 := Lib.hid D1; clear D1
  have H2 := Lib.hid D2; clear D2
  have H3 := Lib.hid D3; clear D3
  have H4 := Lib.hid D4; clear D4
  have H5 := Lib.hid D5; clear D5
  have H6 := Lib.hid D6; clear D6
  have H7 := Lib.hid (from1 x hx hx2)
  have hb := Below.refl w.heap.size w
  have bA : Blk ((w.alloc (.cells #[.int .u64 (l0 n), .int .u64 (l1 n), .int .u64 (l2 n), .int .u64 (l3 n)] 24)).alloc (.cells #[.int .u64 (l0 m), .int .u64 (l1 m), .int .u64 (l2 m), .int .u64 (l3 m)] 24)) w.heap.size #[.int .u64 (l0 n), .int .u64 (l1 n), .int .u64 (l2 n), .int .u64 (l3 n)] := (Blk.new rfl).alloc _
  have bB : Blk ((w.alloc (.cells #[.int .u64 (l0 n), .int .u64 (l1 n), .int .u64 (l2 n), .int .u64 (l3 n)] 24)).alloc (.cells #[.int .u64 (l0 m), .int .u64 (l1 m), .int .u64 (l2 m), .int .u64 (l3 m)] 24)) (w.heap.size + 1) #[.int .u64 (l0 m), .int .u64 (l1 m), .int .u64 (l2 m), .int .u64 (l3 m)] := Blk.new (by simp)
  go_enter Try.func3, Try.ntmps3
  go_wp2_with (first
    | (go_at_call 10; refine (H1.out _).mono ?_; rintro e w1 ⟨rfl, hb1⟩; replace bA := bA.call hb1; replace bB := bB.call hb1; replace hb := bel2 hb hb1; clear hb1; obtain ⟨a0, a1, a2, a3, a4⟩ := bA.four; obtain ⟨b0, b1, b2, b3, b4⟩ := bB.four; have lA := bA.lt; have lB := bB.lt)
    | (go_at_call 11; refine (H2.out _).mono ?_; rintro e w2 ⟨rfl, hb2⟩; replace bA := (bA.alloc _).call hb2; replace bB := (bB.alloc _).call hb2; have bX := Blk.call hb2 (Blk.new rfl); replace hb := bel1 hb hb2; clear hb2; obtain ⟨a0, a1, a2, a3, a4⟩ := bA.four; obtain ⟨b0, b1, b2, b3, b4⟩ := bB.four; have lA := bA.lt; have lB := bB.lt)
    | (go_at_call 12; refine (H3.out _).mono ?_; rintro e w3 ⟨rfl, hb3⟩; replace bA := (bA.alloc _).call hb3; replace bB := (bB.alloc _).call hb3; replace bX := (bX.alloc _).call hb3; have bY := Blk.call hb3 (Blk.new rfl); replace hb := bel1 hb hb3; clear hb3; obtain ⟨a0, a1, a2, a3, a4⟩ := bA.four; obtain ⟨b0, b1, b2, b3, b4⟩ := bB.four; have lA := bA.lt; have lB := bB.lt)
    | (go_at_call 13; refine (H4.out _).mono ?_; rintro e w4 ⟨rfl, hb4⟩; replace bA := (bA.alloc _).call hb4; replace bB := (bB.alloc _).call hb4; replace bX := (bX.alloc _).call hb4; replace bY := (bY.alloc _).call hb4; have bZ := Blk.call hb4 (Blk.new rfl); replace hb := bel1 hb hb4; clear hb4))
  refine wp_region_fam2 (by kernel_rfl) (by kernel_rfl) ?_
  intro T F hT hF hG
  obtain ⟨a0, a1, a2, a3⟩ := fam_four hF (bA.alloc _)
  obtain ⟨b0, b1, b2, b3⟩ := fam_four hF (bB.alloc _)
  obtain ⟨x0, x1, x2, x3⟩ := fam_four hF (bX.alloc _)
  obtain ⟨y0, y1, y2, y3⟩ := fam_four hF (bY.alloc _)
  obtain ⟨z0, z1, z2, z3⟩ := fam_four hF (bZ.alloc _)
  obtain ⟨u0, u1, u2, u3⟩ := fam_four hF (Blk.new rfl)
  have HB := Lib.hid (hb.alloc hb.size (.cells #[.int .u64 (l0 d), .int .u64 (l1 d), .int .u64 (l2 d), .int .u64 (l3 d)] 24)); clear hb
  clear bA bB bX bY bZ
  repeat (go_big_quiet_step ((first
    | (go_at_call 14; exact fam_call hF hG (Nat.le_refl _) (H5.out _))
    | (go_at_call 15; exact fam_call hF hG (Nat.le_refl _) (H6.out _))
    | (go_at_call 16; exact fam_call hF hG (Nat.le_refl _) (H7.out _))
    | (go_at_call 17; exact fam_call hF hG (Nat.le_refl _) (awake2 _)))))
  refine wpQuiet_nil ?_
  rintro _ ⟨t, rfl⟩
  go_wp2_with fail
  go_ret
  exact ⟨rfl, bel0 HB.out (hF t)⟩

theorem walk_WideArithmetic (a0 a1 : List Int) (a2 : Int) (w : World) (w0 : a0.length = 4 ∧ ∀ x ∈ a0, (Lit.int .u64 x).wf = true) (w1 : a1.length = 4 ∧ ∀ x ∈ a1, (Lit.int .u64 x).wf = true) (w2 : (Lit.int .u64 a2).wf = true) :
    Calls Try.prog 3 #[.agg (a0.map (Value.int .u64)).toArray, .agg (a1.map (Value.int .u64)).toArray, .int .u64 a2] w fun e w' => e = .returned (.bool true) ∧ Below w.heap.size w w' := by
  obtain ⟨n, hn, e⟩ := wide_of w0
  obtain ⟨m, hm, e'⟩ := wide_of w1
  rw [e, e']
  exact arith_any n m a2 hn hm (wf_u64 w2).1 (wf_u64 w2).2 w

end Go.Proofs.Ytjofmejdabdhcaa
