/- The law's awake of stage 7. -/
import Derived.Test.YtcbjjafjomdklaaBkD
set_option linter.unusedVariables false

set_option linter.unusedSimpArgs false
namespace Go.Proofs.Ytcbjjafjomdklaa
open Go.RowKit Go.Maps

set_option maxRecDepth 100000

def zeC : CpD := ⟨0, zeroR⟩

theorem zeC_ok : zeC.ok := ⟨by show (0 : Int) ≤ 0; omega, by show (0 : Int) ≤ _; omega, zeroR_is⟩

theorem build_cpd {n : Int} {r : List Int} (hr : IsBytes 32 r) (u : World) : (Instr.build 34 #[(0, .int .u64 n), (1, .agg (bytesL r).toArray)]).run Try.prog u = .ok (.agg (CpD.mk n r).cells.toArray) u := by
  have hl := bytesL_len hr
  refine build_struct (zero := flatP [[.int .u64 0], bytesL zeroR]) (fun w => by kernel_rfl) Try.underlying34 (places := #[(0, 1), (1, 32)]) (fun w => by kernel_rfl) ?_ u
  show Instr.fill _ (flatP [[.int .u64 0], bytesL zeroR]) [(0, .int .u64 n), (1, .agg (bytesL r).toArray)] = _
  rw [fill_part 0 [.int .u64 0] [.int .u64 n] rfl rfl rfl rfl rfl, fill_part (i := 1) (o := 1) 1 (bytesL zeroR) (bytesL r) rfl rfl (by rw [hl]; rfl) rfl (by rw [hl]; rfl)]
  unfold Instr.fill
  simp [flatP, CpD.cells]

theorem build_tbv {c : CpD} (hc : c.ok) (a : Option Addr) (m k : Nat) (u : World) : (Instr.build 36 #[(0, .agg c.cells.toArray), (1, .slice a m k)]).run Try.prog u = .ok (.agg (flatP [c.cells, [.slice a m k]])) u := by
  have hl := CpD.len hc
  refine build_struct (zero := flatP [zeC.cells, [nilS]]) (fun w => by kernel_rfl) Try.underlying36 (places := #[(0, 33), (33, 1)]) (fun w => by kernel_rfl) ?_ u
  show Instr.fill _ (flatP [zeC.cells, [nilS]]) [(0, .agg c.cells.toArray), (1, .slice a m k)] = _
  rw [fill_part 0 zeC.cells c.cells rfl rfl (by rw [hl]; rfl) rfl (by rw [hl]; rfl), fill_part (i := 1) (o := 33) 1 [nilS] [.slice a m k] rfl rfl rfl (by simp [offP, hl]) rfl]
  rfl

theorem below_mapped {N mb : Nat} {w0 w w' : World} (h : Below N w0 w) (hg : w.grownBy w' (some mb)) (hN : N ≤ mb) (hs : N ≤ w.heap.size) : Below N w0 w' :=
  ⟨hg.os.trans h.os, hg.tape.trans h.tape, hg.output.trans h.output, Nat.le_trans h.size hg.size, fun k hk => (hg.block k (by omega) (by simp; omega)).trans (h.block k hk)⟩

def fourC : CpD := ⟨4, zeroR⟩

theorem fourC_ok : fourC.ok := ⟨by show (0 : Int) ≤ 4; omega, by show (4 : Int) ≤ _; omega, zeroR_is⟩

theorem bz_four (u : World) : (Instr.build 34 #[(0, .int .u64 4)]).run Try.prog u = .ok (.agg fourC.cells.toArray) u := by kernel_rfl

/-- A new row of two numbers. -/
theorem nums_two {w : World} {g : Nat} {x y : Int} {k : Nat} (h : Blk w g #[.int .u64 x, .int .u64 y]) (hx : 0 ≤ x ∧ x ≤ 18446744073709551615) (hy : 0 ≤ y ∧ y ≤ 18446744073709551615) : NumsV w (.slice (some ⟨g, 0, none⟩) 2 k) [x, y] := by
  refine ⟨⟨_, 2, _, rfl, rfl, by unfold maxLen; omega, .inr ⟨g, 0, rfl, h.lt, fun i hi => ?_⟩⟩, fun z hz => by simp at hz; rcases hz with rfl | rfl; exact hx; exact hy⟩
  rw [Nat.zero_add, h.cell]
  rcases i with _ | _ | i
  · rfl
  · rfl
  · omega

theorem regE_first {n lim : Int} {c : CpD} {l : List Int} (h : (l.length : Int) = n) (h2 : l.sum ≤ 4611686018427387904) (h3 : 1 ≤ lim) : regE n lim [] c l = 0 := by
  unfold regE
  rw [vtE_ok h h2]
  simp [tget]; omega

theorem regE_again {n lim : Int} {c : CpD} {v : Value} {l : List Int} {E : List TeD} (h : (l.length : Int) = n) (h2 : l.sum ≤ 4611686018427387904) : regE n lim (⟨c, v, l⟩ :: E) c l = 9 := by
  unfold regE
  rw [vtE_ok h h2]
  simp [tget]

theorem tget_self (c : CpD) (v : Value) (l : List Int) (E : List TeD) : tget (⟨c, v, l⟩ :: E) c = some ⟨c, v, l⟩ := by simp [tget]

theorem tlst_self (c : CpD) (v : Value) (l : List Int) (E : List TeD) : tlst (⟨c, v, l⟩ :: E) c = l := by simp [tlst, tget]

theorem reg_first (b mb : Nat) (n lim : Int) (c : CpD) (v : Value) (l : List Int) (w : World) (hB : BookIs w b mb n lim []) (hc : c.ok) (hI : NumsV w v l) (hn : n ≤ 1024) (hlim : lim ≤ 64) (h : (l.length : Int) = n) (h2 : l.sum ≤ 4611686018427387904) (h3 : 1 ≤ lim) :
    Calls Try.prog 17 #[.pointer (some ⟨b, 0, none⟩), .agg (flatP [c.cells, [v]])] w fun e w' => e = .returned (.int .i64 0) ∧ w.grownBy w' (some mb) ∧ ∃ v', New w.heap.size v' ∧ BookIs w' b mb n lim [⟨c, v', l⟩] := by
  refine (reg_any b mb n lim [] c v l w hB hc hI hn hlim).mono ?_
  rintro e w' ⟨h1, h4, _, h5⟩
  have hr := regE_first (c := c) h h2 h3
  rw [hr] at h1
  exact ⟨h1, h4, h5 hr⟩

theorem reg_again (b mb : Nat) (n lim : Int) (E : List TeD) (c : CpD) (v v1 : Value) (l : List Int) (w : World) (hB : BookIs w b mb n lim (⟨c, v1, l⟩ :: E)) (hc : c.ok) (hI : NumsV w v l) (hn : n ≤ 1024) (hlim : lim ≤ 64) (h : (l.length : Int) = n) (h2 : l.sum ≤ 4611686018427387904) :
    Calls Try.prog 17 #[.pointer (some ⟨b, 0, none⟩), .agg (flatP [c.cells, [v]])] w fun e w' => e = .returned (.int .i64 9) ∧ w.grownBy w' (some mb) ∧ BookIs w' b mb n lim (⟨c, v1, l⟩ :: E) := by
  refine (reg_any b mb n lim _ c v l w hB hc hI hn hlim).mono ?_
  rintro e w' ⟨h1, h4, h5, _⟩
  have hr := regE_again (lim := lim) (c := c) (v := v1) (E := E) h h2
  rw [hr] at h1 h5
  exact ⟨h1, h4, h5 (by decide)⟩

theorem known_self (b mb : Nat) (n lim : Int) (E : List TeD) (c : CpD) (v : Value) (l : List Int) (w : World) (hB : BookIs w b mb n lim (⟨c, v, l⟩ :: E)) (hc : c.ok) :
    Calls Try.prog 31 #[.pointer (some ⟨b, 0, none⟩), cpX c] w fun e w' => e = .returned (.bool true) ∧ Below w.heap.size w w' := by
  have := known_any b mb n lim _ c w hB hc
  rw [tget_self] at this; exact this

theorem bal_self (b mb : Nat) (n lim : Int) (E : List TeD) (c : CpD) (v : Value) (l : List Int) (i : Nat) (x : Int) (hx : l.getD i 0 = x) (w : World) (hB : BookIs w b mb n lim (⟨c, v, l⟩ :: E)) (hc : c.ok) :
    Calls Try.prog 49 #[.pointer (some ⟨b, 0, none⟩), cpX c, .int .i64 i] w fun e w' => e = .returned (.int .u64 x) ∧ Below w.heap.size w w' := by
  have := bal_any b mb n lim _ c i w hB hc
  rw [balV_nat, tlst_self, hx] at this; exact this
end Go.Proofs.Ytcbjjafjomdklaa
