/- Builds of blocks and lists that the laws' awake functions share; SameInts of equal lists. (Moved out of BtE and BtF.) -/
import Derived.Test.YtdbkphkgjaecoaaTrE
import Derived.Test.YtdbkphkgjaecoaaVa
set_option linter.unusedVariables false

set_option linter.unusedSimpArgs false
namespace Go.Proofs.Ytdbkphkgjaecoaa
open Go.RowKit

set_option maxRecDepth 100000

/-- Blocks that are built of a root, or of a root, a parent and a slot. -/
theorem build_bR {r : List Int} (hr : IsBytes 32 r) (u : World) : (Instr.build 49 #[(2, .agg (bytesL r).toArray)]).run Try.prog u = .ok (.agg (flatP (bk4 0 r zeroR zeroR).parts)) u := by
  have hl := bytesL_len hr
  refine build_struct (zero := flatP zeBk10) zeBk_hz Try.underlying49 (places := #[(0, 66), (66, 1), (67, 32), (99, 32), (131, 32), (163, 4), (167, 4), (171, 33), (204, 33), (237, 1)]) (fun w => by kernel_rfl) ?_ u
  show Instr.fill _ (flatP zeBk10) [(2, .agg (bytesL r).toArray)] = _
  rw [fill_part (i := 2) (o := 67) 2 (bytesL zeroR) (bytesL r) rfl rfl (by rw [hl]; rfl) rfl (by rw [hl]; rfl)]
  unfold Instr.fill
  simp [flatP, zeBk10, bk4, BkD.parts, CpD.cells, wideL, l0, l1, l2, l3, List.replicate]

theorem build_bRP {s : Int} {r p : List Int} (hr : IsBytes 32 r) (hp : IsBytes 32 p) (u : World) : (Instr.build 49 #[(2, .agg (bytesL r).toArray), (3, .agg (bytesL p).toArray), (1, .int .u64 s)]).run Try.prog u = .ok (.agg (flatP (bk4 s r p zeroR).parts)) u := by
  have hl := bytesL_len hr
  have hl1 := bytesL_len hp
  refine build_struct (zero := flatP zeBk10) zeBk_hz Try.underlying49 (places := #[(0, 66), (66, 1), (67, 32), (99, 32), (131, 32), (163, 4), (167, 4), (171, 33), (204, 33), (237, 1)]) (fun w => by kernel_rfl) ?_ u
  show Instr.fill _ (flatP zeBk10) [(2, .agg (bytesL r).toArray), (3, .agg (bytesL p).toArray), (1, .int .u64 s)] = _
  rw [fill_part (i := 2) (o := 67) 2 (bytesL zeroR) (bytesL r) rfl rfl (by rw [hl]; rfl) rfl (by rw [hl]; rfl), fill_part (i := 3) (o := 99) 3 (bytesL zeroR) (bytesL p) rfl rfl (by rw [hl1]; rfl) (by simp [zeBk10, offP, hl, bytesL_len zeroR_is]) (by rw [hl1]; rfl), fill_part (i := 1) (o := 66) 1 [.int .u64 0] [.int .u64 s] rfl rfl rfl rfl rfl]
  unfold Instr.fill
  simp [flatP, zeBk10, bk4, BkD.parts, CpD.cells, wideL, l0, l1, l2, l3, List.replicate]

theorem bs_int2 (m n : Int) (u : World) : (Instr.buildSlice 22 2 #[(0, .int .i64 m), (1, .int .i64 n)]).run Try.prog u = .ok (.slice (some ⟨u.heap.size, 0, none⟩) 2 2) (u.alloc (.cells #[.int .i64 m, .int .i64 n] 3)) := by kernel_rfl

theorem ints_two11 {w : World} {g : Nat} {m n : Int} (h : Blk w g #[.int .i64 m, .int .i64 n]) (hm : -9223372036854775808 ≤ m ∧ m ≤ 9223372036854775807) (hn : -9223372036854775808 ≤ n ∧ n ≤ 9223372036854775807) : IntsV w (.slice (some ⟨g, 0, none⟩) 2 2) [m, n] := by
  refine ⟨⟨_, _, _, rfl, rfl, by unfold maxLen; omega, .inr ⟨g, 0, rfl, h.lt, fun i hi => ?_⟩⟩, fun x hx => ?_⟩
  · have : i = 0 ∨ i = 1 := by omega
    rcases this with rfl | rfl
    · exact h.cell 0
    · exact h.cell 1
  · simp at hx
    rcases hx with rfl | rfl
    · exact hm
    · exact hn

theorem same_12 (v1 v2 : Value) (l : List Int) (u : World) (h1 : IntsV u v1 l) (h2 : IntsV u v2 l) : Calls Try.prog 10 #[v1, v2] u fun e w' => e = .returned (.bool true) ∧ Below u.heap.size u w' :=
  (sints2 v1 v2 l l u h1 h2).mono fun e w' ⟨b, he, hb, hbl⟩ => ⟨by rw [he, hb.2 rfl], hbl⟩

theorem rowInts {w : World} {a : Option Addr} {len cap : Nat} {zs : List Int} (h : IsRow .i64 w a len cap zs) : IntsV w (.slice a len cap) (zs.take len) := ⟨h.ints.1, fun x hx => wf_i64 (h.ints.2 x hx)⟩
end Go.Proofs.Ytdbkphkgjaecoaa
