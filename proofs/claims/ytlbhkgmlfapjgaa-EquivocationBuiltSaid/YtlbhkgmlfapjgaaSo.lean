/- The base's Some: some validators. -/
import Derived.Test.YtlbhkgmlfapjgaaOwL
set_option linter.unusedVariables false

set_option linter.unusedSimpArgs false
namespace Go.Proofs.Ytlbhkgmlfapjgaa
open Go.RowKit

set_option maxRecDepth 100000

/-- What Some's loop holds. -/
def SomeI (w : World) (v i : Value) (n : Nat) (wr : World) : Prop :=
  ∃ (k : Nat) (l : List Int), k ≤ n ∧ i = .int .i64 k ∧ l.length ≤ k ∧ (∀ x ∈ l, 0 ≤ x ∧ x ≤ 1000) ∧ OwnK .i64 3 wr w.heap.size v l ∧ Below w.heap.size w wr

theorem own_one (w : World) (B : Nat) (x : Int) (h : B ≤ w.heap.size) : OwnK .i64 3 (w.alloc (.cells #[.int .i64 x] 3)) B (.slice (some ⟨w.heap.size, 0, none⟩) 1 1) [x] :=
  World.ownsRow_lit w #[.int .i64 x] 1 h (by unfold maxLen; omega) rfl

set_option maxHeartbeats 4000000 in
theorem some_any (n : Nat) (k : Int) (w : World) (hn : n ≤ 60) :
    Calls Try.prog 19 #[.int .i64 n, .int .i64 k] w fun e w' => ∃ v l, e = .returned v ∧ OwnK .i64 3 w' w.heap.size v l ∧ l.length ≤ max n 1 ∧ (∀ x ∈ l, 0 ≤ x ∧ x ≤ 1000) ∧ Below w.heap.size w w' := by
  have HII := Lib.hid info_int
  go_enter Try.func19, Try.ntmps19
  go_wp2_with fail
  go_loopw [5, 6] (fun v i wr => SomeI w v i n wr) (fun _ i _ => n - (intOf i).toNat)
  case atStart => exact ⟨0, [], Nat.zero_le _, rfl, Nat.zero_le _, by simp, OwnK.nil _ _ _ _, Below.refl _ _⟩
  case round =>
    obtain ⟨i, l, hi, rfl, hl, hrng, hown, hbl⟩ := hrel
    have HOW := Lib.hid hown
    have HBL := Lib.hid hbl
    have HRG := Lib.hid hrng
    obtain ⟨va, vc, rfl⟩ := hown.shapeL
    clear hown hbl hrng
    by_cases hlt : i < n
    case neg =>
      by_cases h0 : l.length = 0
      · by_cases hn0 : 0 < n
        · have hn0' : (0 : Int) < n := by omega
          rw [h0] at HOW
          rw [h0]
          go_wp2_with fail
          go_ret
          exact ⟨_, [0], rfl, own_one _ _ _ HBL.out.size, by simp; omega, by simp, HBL.out.alloc HBL.out.size _⟩
        · obtain rfl : n = 0 := by omega
          rw [h0] at HOW
          rw [h0]
          go_wp2_with fail
          go_ret
          exact ⟨_, l, rfl, HOW.out, by omega, HRG.out, HBL.out⟩
      · have h0' : ((l.length : Int) == 0) = false := by simp; exact fun h => h0 (by rw [h]; rfl)
        obtain ⟨m, hm⟩ : ∃ m, l.length = m := ⟨_, rfl⟩
        rw [hm] at HOW h0' ⊢
        have HM := Lib.hid hm
        clear hm h0
        go_wp2_with fail
        go_ret
        exact ⟨_, l, rfl, HOW.out, by omega, HRG.out, HBL.out⟩
    have hlt' : (i : Int) < n := by omega
    obtain ⟨q, hq⟩ : ∃ q : Bool, (bits .and .i64 (k / 2 ^ i) 1 == 1) = q := ⟨_, rfl⟩
    obtain ⟨m, hm⟩ : ∃ m, l.length = m := ⟨_, rfl⟩
    have HM := Lib.hid hm
    rw [hm] at HOW hl ⊢
    clear hm
    cases q
    case false =>
      go_wp2_with fail
      go_roundw
      case rel => exact ⟨i + 1, l, by omega, by go_num, by rw [HM.out]; omega, HRG.out, HOW.out, HBL.out⟩
      case measure => simp [intOf]; omega
    case true =>
      go_wp2_with ((with_reducible refine at_app (.tmp 18) (.tmp 20) ?_); refine wpList_app1 HII.out (by omega) Try.underlying25 (.tmp 18) (.tmp 20) rfl rfl w.heap.size _ l rfl (HOW.out.grown (World.grownBy_alloc _ (.cells #[.int .i64 (i : Int)] 3) none) (fun n _ => by simp)) wr.heap.size 1 (i : Int) rfl ((Blk.new rfl).cell 0) (by rw [HM.out]; omega) (by have := HBL.out.size; simp; omega) ?_; intro v3 w3 h3 g3 o3; have HOW3 := Lib.hid h3; have HG3 := Lib.hid g3; clear h3 g3 o3)
      have hbn : Below w.heap.size w (wr.alloc (.cells #[.int .i64 (i : Int)] 3)) := HBL.out.alloc HBL.out.size _
      go_roundw
      case rel => exact ⟨i + 1, l ++ [(i : Int)], by omega, by go_num, by rw [List.length_append, HM.out]; simp; omega, fun x hx => by rcases List.mem_append.1 hx with h | h; exact HRG.out x h; rw [List.mem_singleton.1 h]; omega, HOW3.out, hbn.grown HG3.out hbn.size (fun n e => (HOW.out.lt n e).1)⟩
      case measure => simp [intOf]; omega
end Go.Proofs.Ytlbhkgmlfapjgaa
