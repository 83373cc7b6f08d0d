/- The Append functions of codec but AppendUint and AppendCheckpoint. -/
import Derived.Test.YtmnojgdfbhdkhaaCdC
set_option linter.unusedVariables false
namespace Go.Proofs.Ytmnojgdfbhdkhaa
open Go.RowKit

theorem isb_rng {n : Nat} {xs : List Int} (h : IsBytes n xs) : ∀ x ∈ xs, 0 ≤ x ∧ x ≤ 255 := fun x hx => wf_u8 (h.2 x hx)
theorem byt_root {w : World} {g : Nat} {xs : List Int} (h : IsBytes 32 xs) (hB : Blk w g (bytesV xs)) : Byt w (.slice (some ⟨g, 0, none⟩) 32 32) xs := by
  have := Byt.of_blk (cap := 32) hB (by rw [h.1]; unfold maxLen; omega) (isb_rng h)
  rwa [h.1] at this

set_option maxHeartbeats 1000000 in
theorem abool_any (v : Value) (bs : List Int) (x : Bool) (w : World) (h : Byt w v bs) (hb : bs.length ≤ 100000000000) :
    Calls Try.prog 68 #[v, .bool x] w (App w (bs ++ [if x then 1 else 0])) := by
  obtain ⟨va, vl, vc, rfl⟩ := h.shape
  have H := Lib.hid h; clear h
  cases x
  all_goals
    have HFL : Hid (∀ z : Int, [bs, [z]].flatten.length ≤ 1000000000000) := by intro z; simp; omega
    go_enter Try.func68, Try.ntmps68
    go_wp2_with (go_at_call 46; refine (concat_any _ 2 #[_, _] [bs, [_]] _ (parts2 (by simp) (H.out.alloc _) (byt_one (by omega) _)) (by omega) (HFL.out _)).mono ?_; rintro e w3 ⟨v3, rfl, hb3, hbl3⟩; have HB3 := Lib.hid hb3; clear hb3; have HBL3 := Lib.hid hbl3; clear hbl3)
    go_ret
    refine ⟨v3, rfl, ?_, ?_⟩
    · simpa using HB3.out
    · exact (((Below.refl _ _).alloc (Nat.le_refl _) _).alloc (by simp) _).trans (HBL3.out.mono (by simp; omega))

set_option maxHeartbeats 1000000 in
theorem aroot_any (v : Value) (bs : List Int) (xs : List Int) (w : World) (h : Byt w v bs) (hx : IsBytes 32 xs) (hb : bs.length ≤ 100000000000) :
    Calls Try.prog 65 #[v, .agg (bytesV xs)] w (App w (bs ++ xs)) := by
  obtain ⟨va, vl, vc, rfl⟩ := h.shape
  have HFL : Hid ([bs, xs].flatten.length ≤ 1000000000000) := by show _ ≤ _; simp [hx.1]; omega
  have hX0 : (bytesV xs).size = 32 := bytesV_size hx.1
  obtain ⟨X, HX⟩ : ∃ X, Hid (X = bytesV xs) := ⟨_, rfl⟩
  rw [← HX.out] at hX0 ⊢
  have P1 : Hid (Parts ((w.alloc (.cells X 24)).alloc (.cells #[.slice va vl vc, .slice (some ⟨w.heap.size, 0, none⟩) 32 32] 51)) (w.heap.size + 1) 2 #[.slice va vl vc, .slice (some ⟨w.heap.size, 0, none⟩) 32 32] [bs, xs]) :=
    parts2 (by simp) (h.alloc _) (byt_root hx (by rw [← HX.out]; exact Blk.new rfl))
  clear h
  go_enter Try.func65, Try.ntmps65
  go_wp2_with (go_at_call 46; refine (concat_any _ 2 _ [bs, xs] _ P1.out (by omega) HFL.out).mono ?_; rintro e w3 ⟨v3, rfl, hb3, hbl3⟩; have HB3 := Lib.hid hb3; clear hb3; have HBL3 := Lib.hid hbl3; clear hbl3)
  go_ret
  refine ⟨v3, rfl, ?_, ?_⟩
  · simpa using HB3.out
  · exact (((Below.refl _ _).alloc (Nat.le_refl _) _).alloc (by simp) _).trans (HBL3.out.mono (by simp; omega))

end Go.Proofs.Ytmnojgdfbhdkhaa
