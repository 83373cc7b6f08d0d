/- The reference's Insert, Punish. -/
import Derived.Test.YtdlbobpglgjhiaaEvA
set_option linter.unusedVariables false

set_option linter.unusedSimpArgs false
namespace Go.Proofs.Ytdlbobpglgjhiaa
open Go.RowKit

set_option maxRecDepth 100000

theorem size_int (w : World) : (sizeOf 3).run Try.prog w = .ok 1 w := Try.sizeOf3 w

/-- What Insert promises. -/
def InsE (v : Value) (l : List Int) (n : Int) (w : World) (e : Ending) (w' : World) : Prop :=
  ∃ v', e = .returned v' ∧ IntsV w' v' (insI l n) ∧ CapOK v' ∧ (∀ N, N ≤ w.heap.size → New N v → New N v') ∧ Below w.heap.size w w'

theorem insI_rng {l : List Int} {n : Int} (hl : ∀ x ∈ l, -9223372036854775808 ≤ x ∧ x ≤ 9223372036854775807) (hn : -9223372036854775808 ≤ n ∧ n ≤ 9223372036854775807) : ∀ x ∈ insI l n, -9223372036854775808 ≤ x ∧ x ≤ 9223372036854775807 := fun x hx => by
  rcases insI_mem.1 hx with rfl | h
  · exact hn
  · exact hl x h

theorem one_ints (n : Int) (u : World) : Ints .i64 (u.alloc (.cells #[.int .i64 n] 3)) (.slice (some ⟨u.heap.size, 0, none⟩) 1 1) [n] :=
  ⟨_, 1, 1, rfl, rfl, by unfold maxLen; omega, .inr ⟨u.heap.size, 0, rfl, by simp, fun i hi => by
    obtain rfl : i = 0 := by omega
    exact (Blk.new rfl).cell 0⟩⟩
end Go.Proofs.Ytdlbobpglgjhiaa
