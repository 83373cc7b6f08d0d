/- string(b) of a slice of bytes; awake of stage 4. -/
import Derived.Test.YtjlfacdmfcbjfaaCdS
import Derived.Laws.BytesArg
import Derived.Lib.BufferRead
set_option linter.unusedVariables false
namespace Go.Proofs.Ytjlfacdmfcbjfaa
open Go.RowKit

theorem conv_any {w : World} {v : Value} {xs : List Int} (h : Byt w v xs) : (convert 22 9 v).run Try.prog w = .ok (.string (strOfNums xs)) w := by
  obtain ⟨a, l, c, rfl, hl, hm, hr⟩ := h.ints
  by_cases h0 : l = 0
  · subst h0
    obtain rfl : xs = [] := List.eq_nil_of_length_eq_zero hl
    rcases a with _ | a
    · exact run_convert_bytes_nil w 22 5 (by kernel_rfl) (by kernel_rfl) 0 c 9 (by kernel_rfl)
    · rw [run_convert_bytes_string w 22 9 5 (some a) 0 c (by kernel_rfl) (by kernel_rfl) (by kernel_rfl), run_bytesToString w a 0 c [] (by simp [loadCells, loadCellsFrom])]
      rfl
  · rcases hr with hr | ⟨b, off, rfl, _, hc⟩
    · omega
    · exact run_convert_bytes_arg w 22 5 (by kernel_rfl) (by kernel_rfl) b off l c xs hl hc 9 (by kernel_rfl)

theorem pu300 : pu [172, 2] 10 0 = (300, 2, 0) := by decide +kernel

set_option maxRecDepth 100000 in
set_option maxHeartbeats 4000000 in
theorem awake4 (w : World) : Calls Try.prog 9 #[] w fun e w' => e = .returned (.bool true) ∧ Below w.heap.size w w' := by
  have D1 := fun w => auint_any (.slice none 0 0) [] 300 w (byt_nil _) (by omega) (by omega) (by simp)
  have e300 : [] ++ uenc (300 : Int).toNat = [172, 2] := by decide +kernel
  rw [e300] at D1
  clear e300
  have D3 := fun g w h => uint_any g [172, 2] 0 1000 w h (by omega) (by omega)
  have e1 : ruV [172, 2] 0 1000 = 300 := by unfold ruV; rw [pu300]; rfl
  have e2 : ruR [172, 2] 0 1000 = [] := by unfold ruR; rw [pu300]; rfl
  have e3 : ruE [172, 2] 0 1000 = 0 := by unfold ruE; rw [pu300]; rfl
  rw [e1, e2, e3] at D3
  clear e1 e2 e3
  have D4 := fun g w h => close_any g [] 0 w h
  have e4 : closeF [] 0 = 0 := rfl
  rw [e4] at D4
  clear e4
  have D5 := fun w => cksum_any (.slice none 0 0) [] w (byt_nil w)
  have e5 : ck [] = 1 := by decide +kernel
  rw [e5] at D5
  clear e5
  have H1 := Lib.hid D1; clear D1
  have H3 := Lib.hid D3; clear D3
  have H4 := Lib.hid D4; clear D4
  have H5 := Lib.hid D5; clear D5
  obtain ⟨S, HS⟩ : ∃ S, Hid (S = strOfNums [172, 2]) := ⟨_, rfl⟩
  go_enter Try.func9, Try.ntmps9
  go_wp2_with (first
    | (go_at_call 10; refine (H1.out _).mono ?_; rintro e w1 ⟨v1, rfl, hy1, hb1⟩; obtain ⟨a1, l1, c1, rfl⟩ := hy1.shape; have HY1 := Lib.hid hy1; clear hy1; have HB1 := Lib.hid hb1; clear hb1)
    | (go_at_call 24; refine (newr_any _ [172, 2] _ HY1.out (by simp)).mono ?_; rintro e w2 ⟨g, rfl, hr2, hs2, hb2⟩; have HR2 := Lib.hid hr2; clear hr2; have hc1 := conv_any (HY1.out.below hb2); rw [← HS.out] at hc1; have HB2 := Lib.hid hb2; clear hb2
       have hc2 : ∀ t, (convert 22 9 (.slice (some ⟨w2.heap.size, 0, none⟩) 2 2)).run Try.prog (w2.alloc (.cells #[.int .u8 172, .int .u8 2] t)) = .ok (.string S) (w2.alloc (.cells #[.int .u8 172, .int .u8 2] t)) := by
         intro t; rw [HS.out]; exact conv_any (Byt.of_blk (xs := [172, 2]) (Blk.new rfl) (by unfold maxLen; simp) (by simp)))
    | (go_at_call 25; refine (H3.out _ _ (HR2.out.below ((Below.refl _ _).alloc (Nat.le_refl _) _))).mono ?_; rintro e w3 ⟨rfl, hr3, hg3⟩; have HR3 := Lib.hid hr3; clear hr3; have HG3 := Lib.hid hg3; clear hg3)
    | (go_at_call 33; refine (H4.out _ _ HR3.out).mono ?_; rintro e w4 ⟨rfl, rfl⟩)
    | (go_at_call 22; refine (H5.out _).mono ?_; rintro e w5 ⟨rfl, rfl⟩))
  go_ret
  refine ⟨rfl, ?_⟩
  have b1 := HB1.out.trans (HB2.out.mono HB1.out.size)
  exact (b1.alloc b1.size _).trans (grownBy_below HG3.out (Nat.le_trans HB1.out.size hs2) (by have := b1.size; simp; omega))

end Go.Proofs.Ytjlfacdmfcbjfaa
