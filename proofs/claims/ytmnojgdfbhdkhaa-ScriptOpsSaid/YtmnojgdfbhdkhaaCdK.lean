/- string(b) of a slice of bytes; awake of stage 4. -/
import Derived.Test.YtmnojgdfbhdkhaaCdS
import Derived.Laws.BytesArg
import Derived.Lib.BufferRead
set_option linter.unusedVariables false
namespace Go.Proofs.Ytmnojgdfbhdkhaa
open Go.RowKit

theorem conv_any {w : World} {v : Value} {xs : List Int} (h : Byt w v xs) : (convert 51 9 v).run Try.prog w = .ok (.string (strOfNums xs)) w := by
  obtain ⟨a, l, c, rfl, hl, hm, hr⟩ := h.ints
  by_cases h0 : l = 0
  · subst h0
    obtain rfl : xs = [] := List.eq_nil_of_length_eq_zero hl
    rcases a with _ | a
    · exact run_convert_bytes_nil w 51 5 (by kernel_rfl) (by kernel_rfl) 0 c 9 (by kernel_rfl)
    · rw [run_convert_bytes_string w 51 9 5 (some a) 0 c (by kernel_rfl) (by kernel_rfl) (by kernel_rfl), run_bytesToString w a 0 c [] (by simp [loadCells, loadCellsFrom])]
      rfl
  · rcases hr with hr | ⟨b, off, rfl, _, hc⟩
    · omega
    · exact run_convert_bytes_arg w 51 5 (by kernel_rfl) (by kernel_rfl) b off l c xs hl hc 9 (by kernel_rfl)

theorem pu300 : pu [172, 2] 10 0 = (300, 2, 0) := by decide +kernel

end Go.Proofs.Ytmnojgdfbhdkhaa
