/- The law's awake of stage 7. -/
import Derived.Test.YtdfemompijhohaaBkD
set_option linter.unusedVariables false
set_option linter.unusedSimpArgs false
namespace Go.Proofs.Ytdfemompijhohaa
open Go.RowKit Go.Maps
set_option maxRecDepth 100000

def zeC : CpD := ⟨0, zeroR⟩
theorem zeC_ok : zeC.ok := ⟨by show (0 : Int) ≤ 0; omega, by show (0 : Int) ≤ _; omega, zeroR_is⟩

theorem build_cpd {n : Int} {r : List Int} (hr : IsBytes 32 r) (u : World) : (Instr.build 26 #[(0, .int .u64 n), (1, .agg (bytesL r).toArray)]).run Try.prog u = .ok (.agg (CpD.mk n r).cells.toArray) u := by
  have hl := bytesL_len hr
  refine build_struct (zero := flatP [[.int .u64 0], bytesL zeroR]) (fun w => by kernel_rfl) Try.underlying26 (places := #[(0, 1), (1, 32)]) (fun w => by kernel_rfl) ?_ u
  show Instr.fill _ (flatP [[.int .u64 0], bytesL zeroR]) [(0, .int .u64 n), (1, .agg (bytesL r).toArray)] = _
  rw [fill_part 0 [.int .u64 0] [.int .u64 n] rfl rfl rfl rfl rfl, fill_part (i := 1) (o := 1) 1 (bytesL zeroR) (bytesL r) rfl rfl (by rw [hl]; rfl) rfl (by rw [hl]; rfl)]
  unfold Instr.fill
  simp [flatP, CpD.cells]

theorem build_tbv {c : CpD} (hc : c.ok) (a : Option Addr) (m k : Nat) (u : World) : (Instr.build 29 #[(0, .agg c.cells.toArray), (1, .slice a m k)]).run Try.prog u = .ok (.agg (flatP [c.cells, [.slice a m k]])) u := by
  have hl := CpD.len hc
  refine build_struct (zero := flatP [zeC.cells, [nilS]]) (fun w => by kernel_rfl) Try.underlying29 (places := #[(0, 33), (33, 1)]) (fun w => by kernel_rfl) ?_ u
  show Instr.fill _ (flatP [zeC.cells, [nilS]]) [(0, .agg c.cells.toArray), (1, .slice a m k)] = _
  rw [fill_part 0 zeC.cells c.cells rfl rfl (by rw [hl]; rfl) rfl (by rw [hl]; rfl), fill_part (i := 1) (o := 33) 1 [nilS] [.slice a m k] rfl rfl rfl (by simp [offP, hl]) rfl]
  rfl

theorem below_mapped {N mb : Nat} {w0 w w' : World} (h : Below N w0 w) (hg : w.grownBy w' (some mb)) (hN : N ≤ mb) (hs : N ≤ w.heap.size) : Below N w0 w' :=
  ⟨hg.os.trans h.os, hg.tape.trans h.tape, hg.output.trans h.output, Nat.le_trans h.size hg.size, fun k hk => (hg.block k (by omega) (by simp; omega)).trans (h.block k hk)⟩

def fourC : CpD := ⟨4, zeroR⟩
theorem fourC_ok : fourC.ok := ⟨by show (0 : Int) ≤ 4; omega, by show (4 : Int) ≤ _; omega, zeroR_is⟩
theorem bz_four (u : World) : (Instr.build 26 #[(0, .int .u64 4)]).run Try.prog u = .ok (.agg fourC.cells.toArray) u := by kernel_rfl

/-- A new row of two numbers. -/
theorem nums_two {w : World} {g : Nat} {x y : Int} {k : Nat} (h : Blk w g #[.int .u64 x, .int .u64 y]) (hx : 0 ≤ x ∧ x ≤ 18446744073709551615) (hy : 0 ≤ y ∧ y ≤ 18446744073709551615) : NumsV w (.slice (some ⟨g, 0, none⟩) 2 k) [x, y] := by
  refine ⟨⟨_, 2, _, rfl, rfl, by unfold maxLen; omega, .inr ⟨g, 0, rfl, h.lt, fun i hi => ?_⟩⟩, fun z hz => by simp at hz; rcases hz with rfl | rfl; exact hx; exact hy⟩
  rw [Nat.zero_add, h.cell]
  rcases i with _ | _ | i
  · rfl
  · rfl
  · omega

theorem regE_first {n lim : Int} {c : CpD} {l : List Int} (h : (l.length : Int) = n) (h2 : l.sum ≤ 4611686018427387904) (h3 : 1 ≤ lim) : regE n lim [] c l = 0 := by
  unfold regE
  rw [vtE_ok h h2]
  simp [tget]; omega
theorem regE_again {n lim : Int} {c : CpD} {v : Value} {l : List Int} {E : List TeD} (h : (l.length : Int) = n) (h2 : l.sum ≤ 4611686018427387904) : regE n lim (⟨c, v, l⟩ :: E) c l = 9 := by
  unfold regE
  rw [vtE_ok h h2]
  simp [tget]

theorem tget_self (c : CpD) (v : Value) (l : List Int) (E : List TeD) : tget (⟨c, v, l⟩ :: E) c = some ⟨c, v, l⟩ := by simp [tget]
theorem tlst_self (c : CpD) (v : Value) (l : List Int) (E : List TeD) : tlst (⟨c, v, l⟩ :: E) c = l := by simp [tlst, tget]

theorem reg_first (b mb : Nat) (n lim : Int) (c : CpD) (v : Value) (l : List Int) (w : World) (hB : BookIs w b mb n lim []) (hc : c.ok) (hI : NumsV w v l) (hn : n ≤ 1024) (hlim : lim ≤ 64) (h : (l.length : Int) = n) (h2 : l.sum ≤ 4611686018427387904) (h3 : 1 ≤ lim) :
    Calls Try.prog 17 #[.pointer (some ⟨b, 0, none⟩), .agg (flatP [c.cells, [v]])] w fun e w' => e = .returned (.int .i64 0) ∧ w.grownBy w' (some mb) ∧ ∃ v', New w.heap.size v' ∧ BookIs w' b mb n lim [⟨c, v', l⟩] := by
  refine (reg_any b mb n lim [] c v l w hB hc hI hn hlim).mono ?_
  rintro e w' ⟨h1, h4, _, h5⟩
  have hr := regE_first (c := c) h h2 h3
  rw [hr] at h1
  exact ⟨h1, h4, h5 hr⟩
theorem reg_again (b mb : Nat) (n lim : Int) (E : List TeD) (c : CpD) (v v1 : Value) (l : List Int) (w : World) (hB : BookIs w b mb n lim (⟨c, v1, l⟩ :: E)) (hc : c.ok) (hI : NumsV w v l) (hn : n ≤ 1024) (hlim : lim ≤ 64) (h : (l.length : Int) = n) (h2 : l.sum ≤ 4611686018427387904) :
    Calls Try.prog 17 #[.pointer (some ⟨b, 0, none⟩), .agg (flatP [c.cells, [v]])] w fun e w' => e = .returned (.int .i64 9) ∧ w.grownBy w' (some mb) ∧ BookIs w' b mb n lim (⟨c, v1, l⟩ :: E) := by
  refine (reg_any b mb n lim _ c v l w hB hc hI hn hlim).mono ?_
  rintro e w' ⟨h1, h4, h5, _⟩
  have hr := regE_again (lim := lim) (c := c) (v := v1) (E := E) h h2
  rw [hr] at h1 h5
  exact ⟨h1, h4, h5 (by decide)⟩
theorem known_self (b mb : Nat) (n lim : Int) (E : List TeD) (c : CpD) (v : Value) (l : List Int) (w : World) (hB : BookIs w b mb n lim (⟨c, v, l⟩ :: E)) (hc : c.ok) :
    Calls Try.prog 12 #[.pointer (some ⟨b, 0, none⟩), cpX c] w fun e w' => e = .returned (.bool true) ∧ Below w.heap.size w w' := by
  have := known_any b mb n lim _ c w hB hc
  rw [tget_self] at this; exact this
theorem bal_self (b mb : Nat) (n lim : Int) (E : List TeD) (c : CpD) (v : Value) (l : List Int) (i : Nat) (x : Int) (hx : l.getD i 0 = x) (w : World) (hB : BookIs w b mb n lim (⟨c, v, l⟩ :: E)) (hc : c.ok) :
    Calls Try.prog 20 #[.pointer (some ⟨b, 0, none⟩), cpX c, .int .i64 i] w fun e w' => e = .returned (.int .u64 x) ∧ Below w.heap.size w w' := by
  have := bal_any b mb n lim _ c i w hB hc
  rw [balV_nat, tlst_self, hx] at this; exact this
theorem total_self (b mb : Nat) (n lim : Int) (E : List TeD) (c : CpD) (v : Value) (l : List Int) (x : Int) (hx : l.sum = x) (w : World) (hB : BookIs w b mb n lim (⟨c, v, l⟩ :: E)) (hc : c.ok) :
    Calls Try.prog 21 #[.pointer (some ⟨b, 0, none⟩), cpX c] w fun e w' => e = .returned (.int .u64 x) ∧ Below w.heap.size w w' := by
  have := total_any b mb n lim _ c w hB hc
  rw [tlst_self, hx] at this; exact this

set_option maxHeartbeats 800000 in
theorem awake7_any (w : World) : Calls Try.prog 7 #[] w fun e w' => e = .returned (.bool true) ∧ Below w.heap.size w w' := by
  have HN := Lib.hid (newb_ok 2 3 w (by omega) (by omega) (by omega) (by omega))
  have B4 := Lib.hid bz_four
  obtain ⟨X, hX⟩ : ∃ X, Hid (fourC.cells.toArray = X) := ⟨_, rfl⟩
  rw [hX.out] at B4
  have BT := Lib.hid (fun (a : Option Addr) (m k : Nat) (u : World) => build_tbv fourC_ok a m k u)
  rw [hX.out] at BT
  obtain ⟨Z, hZ⟩ : ∃ Z, flatP [zeC.cells, [nilS]] = Z := ⟨_, rfl⟩
  have hsz : Z.size = 34 := by rw [← hZ]; rfl
  obtain ⟨hz34, hst⟩ := zero_array (P := Try.prog) (t := 29) (n := 34) Z (by rw [← hZ]; kernel_rfl) hsz (by rw [← hZ]; kernel_rfl)
  have hY : ∀ v : Value, (flatP [fourC.cells, [v]]).size = 34 := fun v => (tabOff fourC_ok v).2.2
  have hsY : ∀ {v : Value}, Z.size = (flatP [fourC.cells, [v]]).size := fun {v} => by rw [hsz, hY]
  have hiY : ∀ {v : Value}, (Try.prog.info? 29).map (·.size) = some (flatP [fourC.cells, [v]]).size := fun {v} => by rw [hY]; kernel_rfl
  have hoY : ∀ {a : Option Addr} {m k : Nat}, ∀ v ∈ flatP [fourC.cells, [.slice a m k]], v.oneCell' = true := fun {a m k} => flatP_one fun p hp v hv => by
    simp only [List.mem_cons, List.not_mem_nil, or_false] at hp
    rcases hp with rfl | rfl
    · exact CpD.one _ v hv
    · rw [List.mem_singleton.1 hv]; rfl
  clear hst hZ
  go_enter Try.func7, Try.ntmps7
  go_wp2_with (first
    | (go_at_call 10; refine HN.out.mono ?_; rintro e w1 ⟨rfl, hk1, hb1⟩; have HK1 := Lib.hid hk1; have HB1 := Lib.hid hb1; clear hk1 hb1)
    | ((with_reducible refine at_build (some 14) ?_); refine wpList_build rfl 26 _ rfl #[(0, .int .u64 4)] (by simp [Act.eval]) (.agg X) (B4.out _) ?_)
    | ((with_reducible refine at_build (some 16) ?_); refine wpList_build rfl 29 _ rfl #[(0, .agg X), (1, .slice (some ⟨w1.heap.size, 0, none⟩) 2 2)] (by simp [Act.eval, Act.put]) _ (BT.out _ _ _ _) ?_)
    | ((with_reducible refine at_store (.tmp 3) ?_); refine wpList_store_blk rfl 29 (.tmp 3) _ rfl (w1.heap.size + 1) (flatP [fourC.cells, [.slice (some ⟨w1.heap.size, 0, none⟩) 2 2]]) rfl rfl Z (Blk.new (by simp)) hsY hiY hoY ?_; intro w2 U2 B2; have HB12 := Lib.hid (U2.below (((Below.refl w1.heap.size w1).alloc (Nat.le_refl _) (.cells #[.int .u64 5, .int .u64 7] 22)).alloc (by simp) (.cells Z 29)) (by simp)); have HK2 := Lib.hid (HK1.out.call HB12.out); have HB2 := Lib.hid (HB1.out.trans (HB12.out.mono HB1.out.size)); have HV2 := Lib.hid (nums_two (k := 2) (U2.blk ((Blk.new (n := w1.heap.size) (w := w1) (t := 22) rfl).alloc (.cells Z 29)) (by omega)) (by omega) (by omega)); have HT2 := Lib.hid B2; clear U2 B2)
    | ((with_reducible refine at_load (.tmp 3) ?_); refine wpList_load_g 29 (.tmp 3) rfl (w1.heap.size + 1) rfl (flatP [fourC.cells, [.slice (some ⟨w1.heap.size, 0, none⟩) 2 2]]) _ HT3.out Try.underlying29 rfl hiY rfl ?_)
    | ((with_reducible refine at_load (.tmp 3) ?_); refine wpList_load_g 29 (.tmp 3) rfl (w1.heap.size + 1) rfl (flatP [fourC.cells, [.slice (some ⟨w1.heap.size, 0, none⟩) 2 2]]) _ HT2.out Try.underlying29 rfl hiY rfl ?_)
    | (go_at_call 17; refine (reg_again _ _ 2 3 [] fourC _ _ [5, 7] _ HK3.out fourC_ok HV3.out (by omega) (by omega) rfl (by decide)).mono ?_; rintro e w4 ⟨rfl, hg4, hk4⟩; have HK4 := Lib.hid hk4; have HT4 := Lib.hid (HT3.out.keptMap HK3.out.map hg4); have HB4 := Lib.hid (below_mapped HB3.out hg4 (Nat.le_refl _) HB3.out.size); clear hg4 hk4)
    | (go_at_call 17; refine (reg_first _ _ 2 3 fourC _ [5, 7] _ HK2.out fourC_ok HV2.out (by omega) (by omega) rfl (by decide) (by omega)).mono ?_; rintro e w3 ⟨rfl, hg3, v3, hn3, hk3⟩; have HK3 := Lib.hid hk3; have HT3 := Lib.hid (HT2.out.keptMap HK2.out.map hg3); have HV3 := Lib.hid (HV2.out.keptMap HK2.out.map hg3); have HB3 := Lib.hid (below_mapped HB2.out hg3 (Nat.le_refl _) HB2.out.size); clear hg3 hn3 hk3)
    | ((with_reducible refine at_load (.tmp 29) ?_); refine wpList_load_part 26 (.tmp 29) rfl (w1.heap.size + 1) _ 0 0 fourC.cells HT4.out rfl rfl rfl _ Try.underlying26 rfl rfl rfl ?_)
    | ((with_reducible refine at_load (.tmp 35) ?_); refine wpList_load_part 26 (.tmp 35) rfl (w1.heap.size + 1) _ 0 0 fourC.cells HT5.out rfl rfl rfl _ Try.underlying26 rfl rfl rfl ?_)
    | ((with_reducible refine at_load (.tmp 42) ?_); refine wpList_load_part 26 (.tmp 42) rfl (w1.heap.size + 1) _ 0 0 fourC.cells HT6.out rfl rfl rfl _ Try.underlying26 rfl rfl rfl ?_)
    | (go_at_call 12; refine (known_self _ _ 2 3 [] fourC _ [5, 7] _ HK4.out fourC_ok).mono ?_; rintro e w5 ⟨rfl, hb5⟩; have HK5 := Lib.hid (HK4.out.call hb5); have HT5 := Lib.hid (HT4.out.call hb5); have HB5 := Lib.hid (HB4.out.trans (hb5.mono HB4.out.size)); clear hb5)
    | (go_at_call 20; refine (bal_self _ _ 2 3 [] fourC _ [5, 7] 1 7 rfl _ HK5.out fourC_ok).mono ?_; rintro e w6 ⟨rfl, hb6⟩; have HK6 := Lib.hid (HK5.out.call hb6); have HT6 := Lib.hid (HT5.out.call hb6); have HB6 := Lib.hid (HB5.out.trans (hb6.mono HB5.out.size)); clear hb6)
    | (go_at_call 21; refine (total_self _ _ 2 3 [] fourC _ [5, 7] 12 rfl _ HK6.out fourC_ok).mono ?_; rintro e w7 ⟨rfl, hb7⟩; have HB7 := Lib.hid (HB6.out.trans (hb7.mono HB6.out.size)); clear hb7))
  go_ret
  exact ⟨rfl, HB7.out⟩

end Go.Proofs.Ytdfemompijhohaa
