/- The walk of RecordsLists. -/
import Derived.Test.YtgcgjnjbhdhhgaaRcW
set_option linter.unusedVariables false
namespace Go.Proofs.Ytgcgjnjbhdhhgaa
open Go.RowKit

theorem IsRow.intsV {w : World} {a : Option Addr} {len cap : Nat} {zs : List Int} (h : IsRow .i64 w a len cap zs) : IntsV w (.slice a len cap) (zs.take len) := ⟨h.ints.1, fun x hx => wf_i64 (h.ints.2 x hx)⟩

set_option maxRecDepth 100000 in
set_option maxHeartbeats 4000000 in
theorem walk_RecordsLists (a0 : Option Addr) (len0 cap0 : Nat) (z0 : List Int) (a1 : Int) (w : World) (w0 : IsRow .i64 w a0 len0 cap0 z0) (w1 : (Lit.int .i64 a1).wf = true) :
    Calls Try.prog 3 #[.slice a0 len0 cap0, .int .i64 a1] w fun e w' => e = .returned (.bool true) ∧ Below w.heap.size w w' := by
  have hI := w0.intsV
  obtain ⟨h1, h2⟩ := wf_i64 w1
  have hm : len0 ≤ maxLen := by rcases w0 with ⟨_, rfl, _⟩ | ⟨x, _, hx1, hx2, _⟩; exact Nat.zero_le _; omega
  unfold maxLen at hm
  have D1 := Lib.hid (vlist_any (.slice a0 len0 cap0) (z0.take len0) a1 w hI h1 h2)
  have D2 := Lib.hid (rvlist_any (.slice a0 len0 cap0) (z0.take len0) a1 w hI h1 h2)
  obtain ⟨E, hE⟩ : ∃ E, vlE (z0.take len0) a1 = E := ⟨_, rfl⟩
  rw [hE] at D1 D2
  have DA := Lib.hid awake5
  clear hE w0 w1 hI
  by_cases h300 : 300 < len0
  · go_enter Try.func3, Try.ntmps3
    go_wp2_with (go_at_call 10; refine (DA.out _).mono ?_; rintro e u1 ⟨rfl, hb1⟩)
    go_ret
    exact ⟨rfl, hb1⟩
  · go_enter Try.func3, Try.ntmps3
    go_wp2_with (first
      | (go_at_call 11; refine D1.out.mono ?_; rintro e u1 ⟨rfl, rfl⟩)
      | (go_at_call 12; refine D2.out.mono ?_; rintro e u2 ⟨rfl, hb2⟩; have HB2 := Lib.hid hb2; clear hb2)
      | (go_at_call 10; refine (DA.out _).mono ?_; rintro e u3 ⟨rfl, hb3⟩; have HB3 := Lib.hid hb3; clear hb3))
    go_ret
    exact ⟨rfl, HB2.out.trans (HB3.out.mono HB2.out.size)⟩

end Go.Proofs.Ytgcgjnjbhdhhgaa
