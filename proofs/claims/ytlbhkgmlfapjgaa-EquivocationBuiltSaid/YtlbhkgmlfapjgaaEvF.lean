/- The base's slashings. -/
import Derived.Test.YtlbhkgmlfapjgaaEvE
import Derived.Test.YtlbhkgmlfapjgaaSo
import Derived.Test.YtlbhkgmlfapjgaaRt
set_option linter.unusedVariables false

set_option linter.unusedSimpArgs false
namespace Go.Proofs.Ytlbhkgmlfapjgaa
open Go.RowKit

set_option maxRecDepth 100000

theorem ok_cl {s t : Int} {r : List Int} {v : Value} (h1 : 0 ≤ s ∧ s ≤ 18446744073709551615) (h2 : 0 ≤ t ∧ t ≤ 18446744073709551615) (hr : IsBytes 32 r) : (⟨s, t, r, v⟩ : ClD).ok := ⟨h1, h2, hr⟩

def zeClP : List (List Value) := [[.int .u64 0], [.int .u64 0], bytesL zeroR, [.slice none 0 0]]

theorem build_cl4 (x : ClD) (hx : x.ok) (hv : x.v.cells = #[x.v]) (u : World) : (Instr.build 27 #[(0, .int .u64 x.source), (1, .int .u64 x.target), (2, .agg (bytesL x.root).toArray), (3, x.v)]).run Try.prog u = .ok (.agg x.cells.toArray) u := by
  have hl := bytesL_len hx.2.2
  refine build_struct (zero := flatP zeClP) (fun w => by kernel_rfl) Try.underlying27 (places := #[(0, 1), (1, 1), (2, 32), (34, 1)]) (fun w => by kernel_rfl) ?_ u
  show Instr.fill _ (flatP zeClP) [(0, .int .u64 x.source), (1, .int .u64 x.target), (2, .agg (bytesL x.root).toArray), (3, x.v)] = _
  rw [fill_part 0 [.int .u64 0] [.int .u64 x.source] rfl rfl rfl rfl rfl, fill_part (i := 1) (o := 1) 1 [.int .u64 0] [.int .u64 x.target] rfl rfl rfl rfl rfl, fill_part (i := 2) (o := 2) 2 (bytesL zeroR) (bytesL x.root) rfl rfl (by rw [hl]; rfl) rfl (by rw [hl]; rfl), fill_part (i := 3) (o := 34) 3 [.slice none 0 0] [x.v] rfl (by rw [hv]) rfl (by simp [zeClP, offP, hl]) rfl]
  unfold Instr.fill
  simp [flatP, zeClP, ClD.cells, ClD.parts]

theorem build_sl2 (x y : ClD) (hx : x.ok) (hy : y.ok) (u : World) : (Instr.build 31 #[(0, .agg x.cells.toArray), (1, .agg y.cells.toArray)]).run Try.prog u = .ok (.agg (flatP [x.cells, y.cells])) u := by
  have hl := ClD.len hx
  have hl2 := ClD.len hy
  refine build_struct (zero := flatP [zeClP.flatten, zeClP.flatten]) (fun w => by kernel_rfl) Try.underlying31 (places := #[(0, 35), (35, 35)]) (fun w => by kernel_rfl) ?_ u
  show Instr.fill _ (flatP [zeClP.flatten, zeClP.flatten]) [(0, .agg x.cells.toArray), (1, .agg y.cells.toArray)] = _
  rw [fill_part 0 zeClP.flatten x.cells rfl rfl (by rw [hl]; rfl) rfl (by rw [hl]; rfl), fill_part (i := 1) (o := 35) 1 zeClP.flatten y.cells rfl rfl (by rw [hl2]; rfl) (by simp [offP, hl]) (by rw [hl2]; rfl)]
  rfl

theorem ClD.one {x : ClD} (hv : x.v.oneCell' = true) : ∀ v ∈ x.cells, v.oneCell' = true := by
  intro v hv'
  rw [ClD.cells_eq] at hv'
  simp only [List.mem_cons, List.mem_append, List.not_mem_nil, or_false] at hv'
  rcases hv' with rfl | rfl | hv' | rfl
  · rfl
  · rfl
  · exact bytesL_one _ _ hv'
  · exact hv

/-- A slashing that lies in a block, part by part. -/
def slP (x y : ClD) : List (List Value) := [[.int .u64 x.source], [.int .u64 x.target], bytesL x.root, [x.v], [.int .u64 y.source], [.int .u64 y.target], bytesL y.root, [y.v]]

theorem slP_flat (x y : ClD) : flatP (slP x y) = flatP [x.cells, y.cells] := by simp [flatP, slP, ClD.cells_eq]

theorem slP_off {x y : ClD} (hx : x.ok) : offP (slP x y) 4 = 35 ∧ offP (slP x y) 5 = 36 ∧ offP (slP x y) 6 = 37 := by
  simp [slP, offP, bytesL_len hx.2.2]

theorem sl_off {x y : ClD} (hx : x.ok) : offP [x.cells, y.cells] 0 = 0 ∧ offP [x.cells, y.cells] 1 = 35 := by simp [offP, ClD.len hx]

/-- What a built slashing is. -/
def SlaB (n : Nat) (w : World) (v : Value) : Prop :=
  ∃ (x y : ClD) (l m : List Int), v = .agg (flatP [x.cells, y.cells]) ∧ x.ok ∧ y.ok ∧ IntsV w x.v l ∧ IntsV w y.v m ∧ l.length ≤ max n 1 ∧ m.length ≤ max n 1

theorem one_sl {v : Value} {w : World} {l : List Int} (h : IntsV w v l) : v.cells = #[v] ∧ v.oneCell' = true := by
  obtain ⟨a, n, c, rfl⟩ := ints_shape' h.1
  exact ⟨rfl, rfl⟩

/-- What holds while the slashing is being built: b: the variable's block. -/
structure SlS (n : Nat) (w : World) (Z : Array Value) (b : Nat) (u : World) (x y : ClD) : Prop where
  okx : x.ok
  oky : y.ok
  blk : Blk u b (flatP [x.cells, y.cells])
  res : Blk u w.heap.size Z
  lx : ∃ l, IntsV u x.v l ∧ Off b x.v ∧ Off w.heap.size x.v ∧ l.length ≤ max n 1
  ly : ∃ l, IntsV u y.v l ∧ Off b y.v ∧ Off w.heap.size y.v ∧ l.length ≤ max n 1
  below : Below w.heap.size w u
  lt : w.heap.size < b

theorem ints_upd {u u' : World} {b : Nat} {v : Value} {l : List Int} (h : IntsV u v l) (U : Upd b u u') (ho : Off b v) : IntsV u' v l := ⟨h.1.grownOff (upd_grown U) (fun g e => by cases e; exact ho), h.2⟩

theorem SlS.put {n : Nat} {w : World} {Z : Array Value} {b : Nat} {u u' : World} {x y x' y' : ClD} (h : SlS n w Z b u x y) (U : Upd b u u') (B : Blk u' b (flatP [x'.cells, y'.cells])) (hx : x'.ok) (hy : y'.ok) (h1 : x'.v = x.v ∨ x'.v = y.v) (h2 : y'.v = x.v ∨ y'.v = y.v) : SlS n w Z b u' x' y' := by
  obtain ⟨l, a1, a2, a3, a4⟩ := h.lx
  obtain ⟨m, b1, b2, b3, b4⟩ := h.ly
  have hl := h.lt
  refine ⟨hx, hy, B, U.blk h.res (by omega), ?_, ?_, U.below h.below (by omega), h.lt⟩
  · rcases h1 with e | e <;> rw [e]
    · exact ⟨l, ints_upd a1 U a2, a2, a3, a4⟩
    · exact ⟨m, ints_upd b1 U b2, b2, b3, b4⟩
  · rcases h2 with e | e <;> rw [e]
    · exact ⟨l, ints_upd a1 U a2, a2, a3, a4⟩
    · exact ⟨m, ints_upd b1 U b2, b2, b3, b4⟩

theorem Upd.after {b : Nat} {w w1 w2 : World} (h1 : Upd b w w1) (h2 : Upd b w1 w2) : Upd b w w2 := ⟨h2.os.trans h1.os, h2.tape.trans h1.tape, h2.output.trans h1.output, h2.size.trans h1.size, fun k hk => (h2.block k hk).trans (h1.block k hk)⟩

theorem SlS.call {n : Nat} {w : World} {Z : Array Value} {b : Nat} {u u' : World} {x y : ClD} (h : SlS n w Z b u x y) (hb : Below u.heap.size u u') : SlS n w Z b u' x y := by
  obtain ⟨l, a1, a2, a3, a4⟩ := h.lx
  obtain ⟨m, b1, b2, b3, b4⟩ := h.ly
  exact ⟨h.okx, h.oky, h.blk.call hb, h.res.call hb, ⟨l, a1.below hb, a2, a3, a4⟩, ⟨m, b1.below hb, b2, b3, b4⟩, h.below.trans (hb.mono h.below.size), h.lt⟩

theorem SlS.one {n : Nat} {w : World} {Z : Array Value} {b : Nat} {u : World} {x y : ClD} (h : SlS n w Z b u x y) : (∀ v ∈ x.cells, v.oneCell' = true) ∧ ∀ v ∈ y.cells, v.oneCell' = true := by
  obtain ⟨l, a1, _⟩ := h.lx
  obtain ⟨m, b1, _⟩ := h.ly
  exact ⟨ClD.one (one_sl a1).2, ClD.one (one_sl b1).2⟩

theorem SlS.ones {n : Nat} {w : World} {Z : Array Value} {b : Nat} {u : World} {x y : ClD} (h : SlS n w Z b u x y) : ∀ v ∈ flatP [x.cells, y.cells], v.oneCell' = true := by
  refine flatP_one ?_
  intro p hp
  rcases List.mem_cons.1 hp with rfl | hp
  · exact h.one.1
  · rw [List.mem_singleton.1 hp]; exact h.one.2

theorem SlS.done {n : Nat} {w : World} {Z : Array Value} {b : Nat} {u u' : World} {x y : ClD} (h : SlS n w Z b u x y) (U : Upd w.heap.size u u') : SlaB n u' (.agg (flatP [x.cells, y.cells])) := by
  obtain ⟨l, a1, a2, a3, a4⟩ := h.lx
  obtain ⟨m, b1, b2, b3, b4⟩ := h.ly
  exact ⟨x, y, l, m, rfl, h.okx, h.oky, ints_upd a1 U a3, ints_upd b1 U b3, a4, b4⟩

theorem SlS.parts {n : Nat} {w : World} {Z : Array Value} {b : Nat} {u : World} {x y : ClD} (h : SlS n w Z b u x y) : Blk u b (flatP (slP x y)) := h.blk.to (slP_flat x y).symm

set_option maxHeartbeats 16000000 in
theorem slashing_any (n : Nat) (k : Int) (w : World) (hn : n ≤ 60) :
    Calls Try.prog 16 #[.int .i64 n, .int .i64 k] w fun e w' => ∃ v, e = .returned v ∧ SlaB n w' v ∧ Below w.heap.size w w' := by
  have HRS := Lib.hid root_some
  have HSO := Lib.hid (fun k u => some_any n k u hn)
  obtain ⟨Z, hZ⟩ : ∃ Z, flatP [zeClP.flatten, zeClP.flatten] = Z := ⟨_, rfl⟩
  have hszZ : Z.size = 70 := by rw [← hZ]; rfl
  obtain ⟨hz70, hst⟩ := zero_array (P := Try.prog) (t := 31) (n := 70) Z (by rw [← hZ]; kernel_rfl) hszZ (by rw [← hZ]; kernel_rfl)
  clear hst hZ
  have HCL := Lib.hid build_cl4
  have HSL := Lib.hid build_sl2
  have h70 : (Try.prog.info? 31).map (·.size) = some 70 := by kernel_rfl
  have h35 : (Try.prog.info? 27).map (·.size) = some 35 := by kernel_rfl
  have h32 : (Try.prog.info? 24).map (·.size) = some 32 := by kernel_rfl
  have h1 : (Try.prog.info? 22).map (·.size) = some 1 := by kernel_rfl
  obtain ⟨z, hz⟩ : ∃ z, Int.tmod (k / 4096) 8 = z := ⟨_, rfl⟩
  have HK0 : Hid (Blk (w.alloc (.cells Z 31)) w.heap.size Z) := Blk.new rfl
  have HB0 := Lib.hid ((Below.refl w.heap.size w).alloc (Nat.le_refl _) (.cells Z 31))
  by_cases hz0 : z = 0
  · skip
    have q0 : (z == 0) = true := by simpa using hz0
    clear hz0
    go_enter Try.func16, Try.ntmps16
    go_wp2_with (first
      | ((with_reducible refine at_load (.tmp 5) ?_); refine wpList_load_g 31 (.tmp 5) rfl w4.heap.size rfl (flatP [c2.cells, c1.cells]) _ S7.out.blk Try.underlying31 rfl (by rw [fmt_sl S7.out.okx S7.out.oky]; exact h70) rfl ?_)
      | ((with_reducible refine at_store (.tmp 4) ?_); refine wpList_store_blk rfl 31 (.tmp 4) _ rfl w.heap.size (flatP [c2.cells, c1.cells]) rfl rfl Z S7.out.res (by rw [hszZ, fmt_sl S7.out.okx S7.out.oky]) (by rw [fmt_sl S7.out.okx S7.out.oky]; exact h70) S7.out.ones ?_; intro w9 U9 B9; have HBX := Lib.hid (U9.below S7.out.below (Nat.le_refl _)); have HRX := Lib.hid B9; have HD := Lib.hid (S7.out.done U9); clear U9 B9)
      | ((with_reducible refine at_store (.tmp 28) ?_); refine wpList_store_part rfl 27 (.tmp 28) _ rfl w4.heap.size [c2.cells, c2.cells] 1 c2.cells c1.cells S6.out.blk rfl (by rw [(sl_off S6.out.okx).2]; rfl) rfl (by rw [ClD.len S5.out.okx, ClD.len S5.out.oky]) (by rw [ClD.len S5.out.okx]; exact h35) S5.out.one.1 ?_; intro w7 U B; have Uw7 := Lib.hid U; have S7 := Lib.hid (S5.out.put (x' := c2) (y' := c1) (Uw6.out.after U) B S5.out.oky S5.out.okx (.inr rfl) (.inl rfl)); clear U B)
      | ((with_reducible refine at_store (.tmp 27) ?_); refine wpList_store_part rfl 27 (.tmp 27) _ rfl w4.heap.size [c1.cells, c2.cells] 0 c1.cells c2.cells S5.out.blk rfl (by rw [(sl_off S5.out.okx).1]; rfl) rfl (by rw [ClD.len S5.out.okx, ClD.len S5.out.oky]) (by rw [ClD.len S5.out.oky]; exact h35) S5.out.one.2 ?_; intro w6 U B; have Uw6 := Lib.hid U; have S6 := Lib.hid (S5.out.put (x' := c2) (y' := c2) U B S5.out.oky S5.out.oky (.inr rfl) (.inr rfl)); clear U B)
      | ((with_reducible refine at_load (.tmp 25) ?_); refine wpList_load_rng 27 (.tmp 25) rfl w4.heap.size 0 (c1.cells) (sl_at S5.out.blk S5.out.okx).1 rfl _ Try.underlying27 rfl (by rw [ClD.len S5.out.okx]; exact h35) rfl ?_)
      | ((with_reducible refine at_load (.tmp 23) ?_); refine wpList_load_rng 27 (.tmp 23) rfl w4.heap.size 35 (c2.cells) (sl_at S5.out.blk S5.out.okx).2 rfl _ Try.underlying27 rfl (by rw [ClD.len S5.out.oky]; exact h35) rfl ?_)
      | ((with_reducible refine at_build (some 17) ?_); refine wpList_build_g 31 _ rfl #[(0, .agg c1.cells.toArray), (1, .agg c2.cells.toArray)] (by simp [Act.eval, Act.put]) (.agg X) (HX.out _) rfl ?_)
      | ((with_reducible refine at_build (some 16) ?_); refine wpList_build_g 27 _ rfl #[(0, .int .u64 2), (1, .int .u64 4), (2, .agg (bytesL r3).toArray), (3, v4)] (by simp [Act.eval, Act.put]) (.agg (⟨2, 4, r3, v4⟩ : ClD).cells.toArray) (HCL.out ⟨2, 4, r3, v4⟩ (ok_cl (by omega) (by omega) HR3.out) (one_sl HI4.out).1 _) rfl ?_; obtain ⟨c2, hc2⟩ : ∃ c : ClD, Hid ((⟨2, 4, r3, v4⟩ : ClD) = c) := ⟨_, Lib.hid rfl⟩; rw [hc2.out]; have HO2 : Hid c2.ok := (by show c2.ok; rw [← hc2.out]; exact (ok_cl (by omega) (by omega) HR3.out)); have HI5 : Hid (IntsV w4 c2.v l4) := (by show IntsV w4 c2.v l4; rw [← hc2.out]; exact HI4.out); obtain ⟨X, hX⟩ : ∃ X, flatP [c1.cells, c2.cells] = X := ⟨_, rfl⟩; have HX : Hid (∀ u, (Instr.build 31 #[(0, .agg c1.cells.toArray), (1, .agg c2.cells.toArray)]).run Try.prog u = .ok (.agg X) u) := (fun u => by rw [← hX]; exact HSL.out c1 c2 HO1.out HO2.out u); have HXE := Lib.hid hX; have HXS : Hid (X.size = 70) := (by show X.size = 70; rw [← hX]; exact fmt_sl HO1.out HO2.out); have HX1 : Hid (∀ v ∈ X, v.oneCell' = true) := (by show ∀ v ∈ X, _; rw [← hX]; refine flatP_one ?_; intro p hp; rcases List.mem_cons.1 hp with rfl | hp; exact ClD.one (one_sl HC4.out).2; rw [List.mem_singleton.1 hp]; exact ClD.one (one_sl HI5.out).2); clear hX)
      | ((with_reducible refine at_build (some 10) ?_); refine wpList_build_g 27 _ rfl #[(0, .int .u64 1), (1, .int .u64 5), (2, .agg (bytesL r1).toArray), (3, v2)] (by simp [Act.eval, Act.put]) (.agg (⟨1, 5, r1, v2⟩ : ClD).cells.toArray) (HCL.out ⟨1, 5, r1, v2⟩ (ok_cl (by omega) (by omega) HR1.out) (one_sl HI2.out).1 _) rfl ?_; obtain ⟨c1, hc1⟩ : ∃ c : ClD, Hid ((⟨1, 5, r1, v2⟩ : ClD) = c) := ⟨_, Lib.hid rfl⟩; rw [hc1.out]; have HO1 : Hid c1.ok := (by show c1.ok; rw [← hc1.out]; exact (ok_cl (by omega) (by omega) HR1.out)); have HI3 : Hid (IntsV w2 c1.v l2) := (by show IntsV w2 c1.v l2; rw [← hc1.out]; exact HI2.out))
      | (go_at_call 19; refine (HSO.out _ w3).mono ?_; rintro e w4 ⟨v4, l4, rfl, ho4, hl4, hr4, hb4⟩; have HI4 : Hid (IntsV w4 v4 l4) := Lib.hid ⟨ho4.ints (by unfold maxLen; omega), fun x hx => by have := hr4 x hx; omega⟩; have HL4 := Lib.hid hl4; have HF4 := Lib.hid (ho4.new.off HK3.out.lt); have HC4 := Lib.hid (HC3.out.below hb4); have HB4 := Lib.hid (HB3.out.trans (hb4.mono HB3.out.size)); have HK4 := Lib.hid (HK3.out.call hb4); clear ho4 hl4 hr4 hb4)
      | (go_at_call 33; refine (HRS.out _ w2).mono ?_; rintro e w3 ⟨⟨r3, hr3, rfl⟩, hb3⟩; have HR3 := Lib.hid hr3; have HC3 := Lib.hid (HI3.out.below hb3); have HB3 := Lib.hid (HB2.out.trans (hb3.mono HB2.out.size)); have HK3 := Lib.hid (HK2.out.call hb3); clear hr3 hb3)
      | (go_at_call 19; refine (HSO.out _ w1).mono ?_; rintro e w2 ⟨v2, l2, rfl, ho2, hl2, hr2, hb2⟩; have HI2 : Hid (IntsV w2 v2 l2) := Lib.hid ⟨ho2.ints (by unfold maxLen; omega), fun x hx => by have := hr2 x hx; omega⟩; have HL2 := Lib.hid hl2; have HF2 := Lib.hid (ho2.new.off HK1.out.lt); have HB2 := Lib.hid (HB1.out.trans (hb2.mono HB1.out.size)); have HK2 := Lib.hid (HK1.out.call hb2); clear ho2 hl2 hr2 hb2)
      | (go_at_call 33; refine (HRS.out _ _).mono ?_; rintro e w1 ⟨⟨r1, hr1, rfl⟩, hb1⟩; have HR1 := Lib.hid hr1; have HB1 := Lib.hid (HB0.out.trans (hb1.mono HB0.out.size)); have HK1 := Lib.hid (HK0.out.call hb1); clear hr1 hb1)
      | ((with_reducible refine at_store (.tmp 5) ?_); refine wpList_store_blk rfl 31 (.tmp 5) _ rfl w4.heap.size X rfl rfl Z (Blk.new rfl) (by rw [hszZ, HXS.out]) (by rw [HXS.out]; exact h70) HX1.out ?_; intro w5 U5 B5; have hb5 := U5.below ((Below.refl w4.heap.size w4).alloc (Nat.le_refl _) (.cells Z 31)) (Nat.le_refl _); have HK5 : Hid (Blk w5 w4.heap.size (flatP [c1.cells, c2.cells])) := (by show Blk w5 w4.heap.size _; rw [HXE.out]; exact B5); have S5 : Hid (SlS n w Z w4.heap.size w5 c1 c2) := (by refine ⟨HO1.out, HO2.out, HK5.out, HK4.out.call hb5, ⟨l2, HC4.out.below hb5, HC4.out.1.off (Nat.le_refl _), ?_, HL2.out⟩, ⟨l4, HI5.out.below hb5, HI5.out.1.off (Nat.le_refl _), ?_, HL4.out⟩, HB4.out.trans (hb5.mono HB4.out.size), HK4.out.lt⟩; rw [← hc1.out]; exact HF2.out; rw [← hc2.out]; exact HF4.out); clear U5 B5 hb5)
      | fail)
    exact bodyPost_ret (res_cellB rfl rfl HRX.out Try.underlying31 rfl (by rw [fmt_sl S7.out.okx S7.out.oky]; exact h70)) rfl ⟨_, rfl, HD.out, HBX.out⟩
  by_cases hz1 : z = 1
  · skip
    have q0 : (z == 0) = false := by simpa using hz0
    have q1 : (z == 1) = true := by simpa using hz1
    clear hz0 hz1
    go_enter Try.func16, Try.ntmps16
    go_wp2_with (first
      | ((with_reducible refine at_load (.tmp 5) ?_); refine wpList_load_g 31 (.tmp 5) rfl w4.heap.size rfl (flatP [c1.cells, (⟨c2.source, 5, c2.root, c2.v⟩ : ClD).cells]) _ S6.out.blk Try.underlying31 rfl (by rw [fmt_sl S6.out.okx S6.out.oky]; exact h70) rfl ?_)
      | ((with_reducible refine at_store (.tmp 4) ?_); refine wpList_store_blk rfl 31 (.tmp 4) _ rfl w.heap.size (flatP [c1.cells, (⟨c2.source, 5, c2.root, c2.v⟩ : ClD).cells]) rfl rfl Z S6.out.res (by rw [hszZ, fmt_sl S6.out.okx S6.out.oky]) (by rw [fmt_sl S6.out.okx S6.out.oky]; exact h70) S6.out.ones ?_; intro w9 U9 B9; have HBX := Lib.hid (U9.below S6.out.below (Nat.le_refl _)); have HRX := Lib.hid B9; have HD := Lib.hid (S6.out.done U9); clear U9 B9)
      | ((with_reducible refine at_store (.tmp 32) ?_); refine wpList_store_part1 rfl 22 (.tmp 32) _ rfl w4.heap.size (slP c1 c2) 5 _ (.int .u64 5) S5.out.parts rfl (by rw [(slP_off S5.out.okx).2.1]; rfl) rfl h1 rfl rfl ?_; intro w6 U B; have S6 := Lib.hid (S5.out.put (x' := c1) (y' := (⟨c2.source, 5, c2.root, c2.v⟩ : ClD)) U (B.to (slP_flat c1 (⟨c2.source, 5, c2.root, c2.v⟩ : ClD))) S5.out.okx (ok_cl S5.out.oky.1 (by omega) S5.out.oky.2.2) (.inl rfl) (.inr rfl)); clear U B)
      | ((with_reducible refine at_build (some 17) ?_); refine wpList_build_g 31 _ rfl #[(0, .agg c1.cells.toArray), (1, .agg c2.cells.toArray)] (by simp [Act.eval, Act.put]) (.agg X) (HX.out _) rfl ?_)
      | ((with_reducible refine at_build (some 16) ?_); refine wpList_build_g 27 _ rfl #[(0, .int .u64 2), (1, .int .u64 4), (2, .agg (bytesL r3).toArray), (3, v4)] (by simp [Act.eval, Act.put]) (.agg (⟨2, 4, r3, v4⟩ : ClD).cells.toArray) (HCL.out ⟨2, 4, r3, v4⟩ (ok_cl (by omega) (by omega) HR3.out) (one_sl HI4.out).1 _) rfl ?_; obtain ⟨c2, hc2⟩ : ∃ c : ClD, Hid ((⟨2, 4, r3, v4⟩ : ClD) = c) := ⟨_, Lib.hid rfl⟩; rw [hc2.out]; have HO2 : Hid c2.ok := (by show c2.ok; rw [← hc2.out]; exact (ok_cl (by omega) (by omega) HR3.out)); have HI5 : Hid (IntsV w4 c2.v l4) := (by show IntsV w4 c2.v l4; rw [← hc2.out]; exact HI4.out); obtain ⟨X, hX⟩ : ∃ X, flatP [c1.cells, c2.cells] = X := ⟨_, rfl⟩; have HX : Hid (∀ u, (Instr.build 31 #[(0, .agg c1.cells.toArray), (1, .agg c2.cells.toArray)]).run Try.prog u = .ok (.agg X) u) := (fun u => by rw [← hX]; exact HSL.out c1 c2 HO1.out HO2.out u); have HXE := Lib.hid hX; have HXS : Hid (X.size = 70) := (by show X.size = 70; rw [← hX]; exact fmt_sl HO1.out HO2.out); have HX1 : Hid (∀ v ∈ X, v.oneCell' = true) := (by show ∀ v ∈ X, _; rw [← hX]; refine flatP_one ?_; intro p hp; rcases List.mem_cons.1 hp with rfl | hp; exact ClD.one (one_sl HC4.out).2; rw [List.mem_singleton.1 hp]; exact ClD.one (one_sl HI5.out).2); clear hX)
      | ((with_reducible refine at_build (some 10) ?_); refine wpList_build_g 27 _ rfl #[(0, .int .u64 1), (1, .int .u64 5), (2, .agg (bytesL r1).toArray), (3, v2)] (by simp [Act.eval, Act.put]) (.agg (⟨1, 5, r1, v2⟩ : ClD).cells.toArray) (HCL.out ⟨1, 5, r1, v2⟩ (ok_cl (by omega) (by omega) HR1.out) (one_sl HI2.out).1 _) rfl ?_; obtain ⟨c1, hc1⟩ : ∃ c : ClD, Hid ((⟨1, 5, r1, v2⟩ : ClD) = c) := ⟨_, Lib.hid rfl⟩; rw [hc1.out]; have HO1 : Hid c1.ok := (by show c1.ok; rw [← hc1.out]; exact (ok_cl (by omega) (by omega) HR1.out)); have HI3 : Hid (IntsV w2 c1.v l2) := (by show IntsV w2 c1.v l2; rw [← hc1.out]; exact HI2.out))
      | (go_at_call 19; refine (HSO.out _ w3).mono ?_; rintro e w4 ⟨v4, l4, rfl, ho4, hl4, hr4, hb4⟩; have HI4 : Hid (IntsV w4 v4 l4) := Lib.hid ⟨ho4.ints (by unfold maxLen; omega), fun x hx => by have := hr4 x hx; omega⟩; have HL4 := Lib.hid hl4; have HF4 := Lib.hid (ho4.new.off HK3.out.lt); have HC4 := Lib.hid (HC3.out.below hb4); have HB4 := Lib.hid (HB3.out.trans (hb4.mono HB3.out.size)); have HK4 := Lib.hid (HK3.out.call hb4); clear ho4 hl4 hr4 hb4)
      | (go_at_call 33; refine (HRS.out _ w2).mono ?_; rintro e w3 ⟨⟨r3, hr3, rfl⟩, hb3⟩; have HR3 := Lib.hid hr3; have HC3 := Lib.hid (HI3.out.below hb3); have HB3 := Lib.hid (HB2.out.trans (hb3.mono HB2.out.size)); have HK3 := Lib.hid (HK2.out.call hb3); clear hr3 hb3)
      | (go_at_call 19; refine (HSO.out _ w1).mono ?_; rintro e w2 ⟨v2, l2, rfl, ho2, hl2, hr2, hb2⟩; have HI2 : Hid (IntsV w2 v2 l2) := Lib.hid ⟨ho2.ints (by unfold maxLen; omega), fun x hx => by have := hr2 x hx; omega⟩; have HL2 := Lib.hid hl2; have HF2 := Lib.hid (ho2.new.off HK1.out.lt); have HB2 := Lib.hid (HB1.out.trans (hb2.mono HB1.out.size)); have HK2 := Lib.hid (HK1.out.call hb2); clear ho2 hl2 hr2 hb2)
      | (go_at_call 33; refine (HRS.out _ _).mono ?_; rintro e w1 ⟨⟨r1, hr1, rfl⟩, hb1⟩; have HR1 := Lib.hid hr1; have HB1 := Lib.hid (HB0.out.trans (hb1.mono HB0.out.size)); have HK1 := Lib.hid (HK0.out.call hb1); clear hr1 hb1)
      | ((with_reducible refine at_store (.tmp 5) ?_); refine wpList_store_blk rfl 31 (.tmp 5) _ rfl w4.heap.size X rfl rfl Z (Blk.new rfl) (by rw [hszZ, HXS.out]) (by rw [HXS.out]; exact h70) HX1.out ?_; intro w5 U5 B5; have hb5 := U5.below ((Below.refl w4.heap.size w4).alloc (Nat.le_refl _) (.cells Z 31)) (Nat.le_refl _); have HK5 : Hid (Blk w5 w4.heap.size (flatP [c1.cells, c2.cells])) := (by show Blk w5 w4.heap.size _; rw [HXE.out]; exact B5); have S5 : Hid (SlS n w Z w4.heap.size w5 c1 c2) := (by refine ⟨HO1.out, HO2.out, HK5.out, HK4.out.call hb5, ⟨l2, HC4.out.below hb5, HC4.out.1.off (Nat.le_refl _), ?_, HL2.out⟩, ⟨l4, HI5.out.below hb5, HI5.out.1.off (Nat.le_refl _), ?_, HL4.out⟩, HB4.out.trans (hb5.mono HB4.out.size), HK4.out.lt⟩; rw [← hc1.out]; exact HF2.out; rw [← hc2.out]; exact HF4.out); clear U5 B5 hb5)
      | fail)
    exact bodyPost_ret (res_cellB rfl rfl HRX.out Try.underlying31 rfl (by rw [fmt_sl S6.out.okx S6.out.oky]; exact h70)) rfl ⟨_, rfl, HD.out, HBX.out⟩
  by_cases hz2 : z = 2
  · skip
    have q0 : (z == 0) = false := by simpa using hz0
    have q1 : (z == 1) = false := by simpa using hz1
    have q2 : (z == 2) = true := by simpa using hz2
    clear hz0 hz1 hz2
    go_enter Try.func16, Try.ntmps16
    go_wp2_with (first
      | ((with_reducible refine at_load (.tmp 5) ?_); refine wpList_load_g 31 (.tmp 5) rfl w4.heap.size rfl (flatP [c1.cells, c1.cells]) _ S6.out.blk Try.underlying31 rfl (by rw [fmt_sl S6.out.okx S6.out.oky]; exact h70) rfl ?_)
      | ((with_reducible refine at_store (.tmp 4) ?_); refine wpList_store_blk rfl 31 (.tmp 4) _ rfl w.heap.size (flatP [c1.cells, c1.cells]) rfl rfl Z S6.out.res (by rw [hszZ, fmt_sl S6.out.okx S6.out.oky]) (by rw [fmt_sl S6.out.okx S6.out.oky]; exact h70) S6.out.ones ?_; intro w9 U9 B9; have HBX := Lib.hid (U9.below S6.out.below (Nat.le_refl _)); have HRX := Lib.hid B9; have HD := Lib.hid (S6.out.done U9); clear U9 B9)
      | ((with_reducible refine at_store (.tmp 37) ?_); refine wpList_store_part rfl 27 (.tmp 37) _ rfl w4.heap.size [c1.cells, c2.cells] 1 c2.cells c1.cells S5.out.blk rfl (by rw [(sl_off S5.out.okx).2]; rfl) rfl (by rw [ClD.len S5.out.okx, ClD.len S5.out.oky]) (by rw [ClD.len S5.out.okx]; exact h35) S5.out.one.1 ?_; intro w6 U B; have Uw6 := Lib.hid U; have S6 := Lib.hid (S5.out.put (x' := c1) (y' := c1) U B S5.out.okx S5.out.okx (.inl rfl) (.inl rfl)); clear U B)
      | ((with_reducible refine at_load (.tmp 35) ?_); refine wpList_load_rng 27 (.tmp 35) rfl w4.heap.size 0 (c1.cells) (sl_at S5.out.blk S5.out.okx).1 rfl _ Try.underlying27 rfl (by rw [ClD.len S5.out.okx]; exact h35) rfl ?_)
      | ((with_reducible refine at_build (some 17) ?_); refine wpList_build_g 31 _ rfl #[(0, .agg c1.cells.toArray), (1, .agg c2.cells.toArray)] (by simp [Act.eval, Act.put]) (.agg X) (HX.out _) rfl ?_)
      | ((with_reducible refine at_build (some 16) ?_); refine wpList_build_g 27 _ rfl #[(0, .int .u64 2), (1, .int .u64 4), (2, .agg (bytesL r3).toArray), (3, v4)] (by simp [Act.eval, Act.put]) (.agg (⟨2, 4, r3, v4⟩ : ClD).cells.toArray) (HCL.out ⟨2, 4, r3, v4⟩ (ok_cl (by omega) (by omega) HR3.out) (one_sl HI4.out).1 _) rfl ?_; obtain ⟨c2, hc2⟩ : ∃ c : ClD, Hid ((⟨2, 4, r3, v4⟩ : ClD) = c) := ⟨_, Lib.hid rfl⟩; rw [hc2.out]; have HO2 : Hid c2.ok := (by show c2.ok; rw [← hc2.out]; exact (ok_cl (by omega) (by omega) HR3.out)); have HI5 : Hid (IntsV w4 c2.v l4) := (by show IntsV w4 c2.v l4; rw [← hc2.out]; exact HI4.out); obtain ⟨X, hX⟩ : ∃ X, flatP [c1.cells, c2.cells] = X := ⟨_, rfl⟩; have HX : Hid (∀ u, (Instr.build 31 #[(0, .agg c1.cells.toArray), (1, .agg c2.cells.toArray)]).run Try.prog u = .ok (.agg X) u) := (fun u => by rw [← hX]; exact HSL.out c1 c2 HO1.out HO2.out u); have HXE := Lib.hid hX; have HXS : Hid (X.size = 70) := (by show X.size = 70; rw [← hX]; exact fmt_sl HO1.out HO2.out); have HX1 : Hid (∀ v ∈ X, v.oneCell' = true) := (by show ∀ v ∈ X, _; rw [← hX]; refine flatP_one ?_; intro p hp; rcases List.mem_cons.1 hp with rfl | hp; exact ClD.one (one_sl HC4.out).2; rw [List.mem_singleton.1 hp]; exact ClD.one (one_sl HI5.out).2); clear hX)
      | ((with_reducible refine at_build (some 10) ?_); refine wpList_build_g 27 _ rfl #[(0, .int .u64 1), (1, .int .u64 5), (2, .agg (bytesL r1).toArray), (3, v2)] (by simp [Act.eval, Act.put]) (.agg (⟨1, 5, r1, v2⟩ : ClD).cells.toArray) (HCL.out ⟨1, 5, r1, v2⟩ (ok_cl (by omega) (by omega) HR1.out) (one_sl HI2.out).1 _) rfl ?_; obtain ⟨c1, hc1⟩ : ∃ c : ClD, Hid ((⟨1, 5, r1, v2⟩ : ClD) = c) := ⟨_, Lib.hid rfl⟩; rw [hc1.out]; have HO1 : Hid c1.ok := (by show c1.ok; rw [← hc1.out]; exact (ok_cl (by omega) (by omega) HR1.out)); have HI3 : Hid (IntsV w2 c1.v l2) := (by show IntsV w2 c1.v l2; rw [← hc1.out]; exact HI2.out))
      | (go_at_call 19; refine (HSO.out _ w3).mono ?_; rintro e w4 ⟨v4, l4, rfl, ho4, hl4, hr4, hb4⟩; have HI4 : Hid (IntsV w4 v4 l4) := Lib.hid ⟨ho4.ints (by unfold maxLen; omega), fun x hx => by have := hr4 x hx; omega⟩; have HL4 := Lib.hid hl4; have HF4 := Lib.hid (ho4.new.off HK3.out.lt); have HC4 := Lib.hid (HC3.out.below hb4); have HB4 := Lib.hid (HB3.out.trans (hb4.mono HB3.out.size)); have HK4 := Lib.hid (HK3.out.call hb4); clear ho4 hl4 hr4 hb4)
      | (go_at_call 33; refine (HRS.out _ w2).mono ?_; rintro e w3 ⟨⟨r3, hr3, rfl⟩, hb3⟩; have HR3 := Lib.hid hr3; have HC3 := Lib.hid (HI3.out.below hb3); have HB3 := Lib.hid (HB2.out.trans (hb3.mono HB2.out.size)); have HK3 := Lib.hid (HK2.out.call hb3); clear hr3 hb3)
      | (go_at_call 19; refine (HSO.out _ w1).mono ?_; rintro e w2 ⟨v2, l2, rfl, ho2, hl2, hr2, hb2⟩; have HI2 : Hid (IntsV w2 v2 l2) := Lib.hid ⟨ho2.ints (by unfold maxLen; omega), fun x hx => by have := hr2 x hx; omega⟩; have HL2 := Lib.hid hl2; have HF2 := Lib.hid (ho2.new.off HK1.out.lt); have HB2 := Lib.hid (HB1.out.trans (hb2.mono HB1.out.size)); have HK2 := Lib.hid (HK1.out.call hb2); clear ho2 hl2 hr2 hb2)
      | (go_at_call 33; refine (HRS.out _ _).mono ?_; rintro e w1 ⟨⟨r1, hr1, rfl⟩, hb1⟩; have HR1 := Lib.hid hr1; have HB1 := Lib.hid (HB0.out.trans (hb1.mono HB0.out.size)); have HK1 := Lib.hid (HK0.out.call hb1); clear hr1 hb1)
      | ((with_reducible refine at_store (.tmp 5) ?_); refine wpList_store_blk rfl 31 (.tmp 5) _ rfl w4.heap.size X rfl rfl Z (Blk.new rfl) (by rw [hszZ, HXS.out]) (by rw [HXS.out]; exact h70) HX1.out ?_; intro w5 U5 B5; have hb5 := U5.below ((Below.refl w4.heap.size w4).alloc (Nat.le_refl _) (.cells Z 31)) (Nat.le_refl _); have HK5 : Hid (Blk w5 w4.heap.size (flatP [c1.cells, c2.cells])) := (by show Blk w5 w4.heap.size _; rw [HXE.out]; exact B5); have S5 : Hid (SlS n w Z w4.heap.size w5 c1 c2) := (by refine ⟨HO1.out, HO2.out, HK5.out, HK4.out.call hb5, ⟨l2, HC4.out.below hb5, HC4.out.1.off (Nat.le_refl _), ?_, HL2.out⟩, ⟨l4, HI5.out.below hb5, HI5.out.1.off (Nat.le_refl _), ?_, HL4.out⟩, HB4.out.trans (hb5.mono HB4.out.size), HK4.out.lt⟩; rw [← hc1.out]; exact HF2.out; rw [← hc2.out]; exact HF4.out); clear U5 B5 hb5)
      | fail)
    exact bodyPost_ret (res_cellB rfl rfl HRX.out Try.underlying31 rfl (by rw [fmt_sl S6.out.okx S6.out.oky]; exact h70)) rfl ⟨_, rfl, HD.out, HBX.out⟩
  by_cases hz3 : z = 3
  · skip
    have q0 : (z == 0) = false := by simpa using hz0
    have q1 : (z == 1) = false := by simpa using hz1
    have q2 : (z == 2) = false := by simpa using hz2
    have q3 : (z == 3) = true := by simpa using hz3
    clear hz0 hz1 hz2 hz3
    go_enter Try.func16, Try.ntmps16
    go_wp2_with (first
      | ((with_reducible refine at_load (.tmp 5) ?_); refine wpList_load_g 31 (.tmp 5) rfl w4.heap.size rfl (flatP [c1.cells, (⟨6, c2.target, c2.root, c2.v⟩ : ClD).cells]) _ S6.out.blk Try.underlying31 rfl (by rw [fmt_sl S6.out.okx S6.out.oky]; exact h70) rfl ?_)
      | ((with_reducible refine at_store (.tmp 4) ?_); refine wpList_store_blk rfl 31 (.tmp 4) _ rfl w.heap.size (flatP [c1.cells, (⟨6, c2.target, c2.root, c2.v⟩ : ClD).cells]) rfl rfl Z S6.out.res (by rw [hszZ, fmt_sl S6.out.okx S6.out.oky]) (by rw [fmt_sl S6.out.okx S6.out.oky]; exact h70) S6.out.ones ?_; intro w9 U9 B9; have HBX := Lib.hid (U9.below S6.out.below (Nat.le_refl _)); have HRX := Lib.hid B9; have HD := Lib.hid (S6.out.done U9); clear U9 B9)
      | ((with_reducible refine at_store (.tmp 41) ?_); refine wpList_store_part1 rfl 22 (.tmp 41) _ rfl w4.heap.size (slP c1 c2) 4 _ (.int .u64 6) S5.out.parts rfl (by rw [(slP_off S5.out.okx).1]; rfl) rfl h1 rfl rfl ?_; intro w6 U B; have S6 := Lib.hid (S5.out.put (x' := c1) (y' := (⟨6, c2.target, c2.root, c2.v⟩ : ClD)) U (B.to (slP_flat c1 (⟨6, c2.target, c2.root, c2.v⟩ : ClD))) S5.out.okx (ok_cl (by omega) S5.out.oky.2.1 S5.out.oky.2.2) (.inl rfl) (.inr rfl)); clear U B)
      | ((with_reducible refine at_build (some 17) ?_); refine wpList_build_g 31 _ rfl #[(0, .agg c1.cells.toArray), (1, .agg c2.cells.toArray)] (by simp [Act.eval, Act.put]) (.agg X) (HX.out _) rfl ?_)
      | ((with_reducible refine at_build (some 16) ?_); refine wpList_build_g 27 _ rfl #[(0, .int .u64 2), (1, .int .u64 4), (2, .agg (bytesL r3).toArray), (3, v4)] (by simp [Act.eval, Act.put]) (.agg (⟨2, 4, r3, v4⟩ : ClD).cells.toArray) (HCL.out ⟨2, 4, r3, v4⟩ (ok_cl (by omega) (by omega) HR3.out) (one_sl HI4.out).1 _) rfl ?_; obtain ⟨c2, hc2⟩ : ∃ c : ClD, Hid ((⟨2, 4, r3, v4⟩ : ClD) = c) := ⟨_, Lib.hid rfl⟩; rw [hc2.out]; have HO2 : Hid c2.ok := (by show c2.ok; rw [← hc2.out]; exact (ok_cl (by omega) (by omega) HR3.out)); have HI5 : Hid (IntsV w4 c2.v l4) := (by show IntsV w4 c2.v l4; rw [← hc2.out]; exact HI4.out); obtain ⟨X, hX⟩ : ∃ X, flatP [c1.cells, c2.cells] = X := ⟨_, rfl⟩; have HX : Hid (∀ u, (Instr.build 31 #[(0, .agg c1.cells.toArray), (1, .agg c2.cells.toArray)]).run Try.prog u = .ok (.agg X) u) := (fun u => by rw [← hX]; exact HSL.out c1 c2 HO1.out HO2.out u); have HXE := Lib.hid hX; have HXS : Hid (X.size = 70) := (by show X.size = 70; rw [← hX]; exact fmt_sl HO1.out HO2.out); have HX1 : Hid (∀ v ∈ X, v.oneCell' = true) := (by show ∀ v ∈ X, _; rw [← hX]; refine flatP_one ?_; intro p hp; rcases List.mem_cons.1 hp with rfl | hp; exact ClD.one (one_sl HC4.out).2; rw [List.mem_singleton.1 hp]; exact ClD.one (one_sl HI5.out).2); clear hX)
      | ((with_reducible refine at_build (some 10) ?_); refine wpList_build_g 27 _ rfl #[(0, .int .u64 1), (1, .int .u64 5), (2, .agg (bytesL r1).toArray), (3, v2)] (by simp [Act.eval, Act.put]) (.agg (⟨1, 5, r1, v2⟩ : ClD).cells.toArray) (HCL.out ⟨1, 5, r1, v2⟩ (ok_cl (by omega) (by omega) HR1.out) (one_sl HI2.out).1 _) rfl ?_; obtain ⟨c1, hc1⟩ : ∃ c : ClD, Hid ((⟨1, 5, r1, v2⟩ : ClD) = c) := ⟨_, Lib.hid rfl⟩; rw [hc1.out]; have HO1 : Hid c1.ok := (by show c1.ok; rw [← hc1.out]; exact (ok_cl (by omega) (by omega) HR1.out)); have HI3 : Hid (IntsV w2 c1.v l2) := (by show IntsV w2 c1.v l2; rw [← hc1.out]; exact HI2.out))
      | (go_at_call 19; refine (HSO.out _ w3).mono ?_; rintro e w4 ⟨v4, l4, rfl, ho4, hl4, hr4, hb4⟩; have HI4 : Hid (IntsV w4 v4 l4) := Lib.hid ⟨ho4.ints (by unfold maxLen; omega), fun x hx => by have := hr4 x hx; omega⟩; have HL4 := Lib.hid hl4; have HF4 := Lib.hid (ho4.new.off HK3.out.lt); have HC4 := Lib.hid (HC3.out.below hb4); have HB4 := Lib.hid (HB3.out.trans (hb4.mono HB3.out.size)); have HK4 := Lib.hid (HK3.out.call hb4); clear ho4 hl4 hr4 hb4)
      | (go_at_call 33; refine (HRS.out _ w2).mono ?_; rintro e w3 ⟨⟨r3, hr3, rfl⟩, hb3⟩; have HR3 := Lib.hid hr3; have HC3 := Lib.hid (HI3.out.below hb3); have HB3 := Lib.hid (HB2.out.trans (hb3.mono HB2.out.size)); have HK3 := Lib.hid (HK2.out.call hb3); clear hr3 hb3)
      | (go_at_call 19; refine (HSO.out _ w1).mono ?_; rintro e w2 ⟨v2, l2, rfl, ho2, hl2, hr2, hb2⟩; have HI2 : Hid (IntsV w2 v2 l2) := Lib.hid ⟨ho2.ints (by unfold maxLen; omega), fun x hx => by have := hr2 x hx; omega⟩; have HL2 := Lib.hid hl2; have HF2 := Lib.hid (ho2.new.off HK1.out.lt); have HB2 := Lib.hid (HB1.out.trans (hb2.mono HB1.out.size)); have HK2 := Lib.hid (HK1.out.call hb2); clear ho2 hl2 hr2 hb2)
      | (go_at_call 33; refine (HRS.out _ _).mono ?_; rintro e w1 ⟨⟨r1, hr1, rfl⟩, hb1⟩; have HR1 := Lib.hid hr1; have HB1 := Lib.hid (HB0.out.trans (hb1.mono HB0.out.size)); have HK1 := Lib.hid (HK0.out.call hb1); clear hr1 hb1)
      | ((with_reducible refine at_store (.tmp 5) ?_); refine wpList_store_blk rfl 31 (.tmp 5) _ rfl w4.heap.size X rfl rfl Z (Blk.new rfl) (by rw [hszZ, HXS.out]) (by rw [HXS.out]; exact h70) HX1.out ?_; intro w5 U5 B5; have hb5 := U5.below ((Below.refl w4.heap.size w4).alloc (Nat.le_refl _) (.cells Z 31)) (Nat.le_refl _); have HK5 : Hid (Blk w5 w4.heap.size (flatP [c1.cells, c2.cells])) := (by show Blk w5 w4.heap.size _; rw [HXE.out]; exact B5); have S5 : Hid (SlS n w Z w4.heap.size w5 c1 c2) := (by refine ⟨HO1.out, HO2.out, HK5.out, HK4.out.call hb5, ⟨l2, HC4.out.below hb5, HC4.out.1.off (Nat.le_refl _), ?_, HL2.out⟩, ⟨l4, HI5.out.below hb5, HI5.out.1.off (Nat.le_refl _), ?_, HL4.out⟩, HB4.out.trans (hb5.mono HB4.out.size), HK4.out.lt⟩; rw [← hc1.out]; exact HF2.out; rw [← hc2.out]; exact HF4.out); clear U5 B5 hb5)
      | fail)
    exact bodyPost_ret (res_cellB rfl rfl HRX.out Try.underlying31 rfl (by rw [fmt_sl S6.out.okx S6.out.oky]; exact h70)) rfl ⟨_, rfl, HD.out, HBX.out⟩
  by_cases hz4 : z = 4
  · skip
    have q0 : (z == 0) = false := by simpa using hz0
    have q1 : (z == 1) = false := by simpa using hz1
    have q2 : (z == 2) = false := by simpa using hz2
    have q3 : (z == 3) = false := by simpa using hz3
    have q4 : (z == 4) = true := by simpa using hz4
    clear hz0 hz1 hz2 hz3 hz4
    go_enter Try.func16, Try.ntmps16
    go_wp2_with (first
      | ((with_reducible refine at_load (.tmp 5) ?_); refine wpList_load_g 31 (.tmp 5) rfl w4.heap.size rfl (flatP [c1.cells, (⟨1, 5, r6, c2.v⟩ : ClD).cells]) _ S10.out.blk Try.underlying31 rfl (by rw [fmt_sl S10.out.okx S10.out.oky]; exact h70) rfl ?_)
      | ((with_reducible refine at_store (.tmp 4) ?_); refine wpList_store_blk rfl 31 (.tmp 4) _ rfl w.heap.size (flatP [c1.cells, (⟨1, 5, r6, c2.v⟩ : ClD).cells]) rfl rfl Z S10.out.res (by rw [hszZ, fmt_sl S10.out.okx S10.out.oky]) (by rw [fmt_sl S10.out.okx S10.out.oky]; exact h70) S10.out.ones ?_; intro w9 U9 B9; have HBX := Lib.hid (U9.below S10.out.below (Nat.le_refl _)); have HRX := Lib.hid B9; have HD := Lib.hid (S10.out.done U9); clear U9 B9)
      | ((with_reducible refine at_store (.tmp 50) ?_); refine wpList_store_part rfl 24 (.tmp 50) _ rfl w4.heap.size (slP c1 (⟨1, 5, c2.root, c2.v⟩ : ClD)) 6 (bytesL c2.root) (bytesL r6) S8.out.parts rfl (by rw [(slP_off S8.out.okx).2.2]; rfl) rfl (by rw [bytesL_len HR6.out, bytesL_len S5.out.oky.2.2]) (by rw [bytesL_len HR6.out]; exact h32) (bytesL_one _) ?_; intro w10 U B; have S10 := Lib.hid (S8.out.put (x' := c1) (y' := (⟨1, 5, r6, c2.v⟩ : ClD)) U (B.to (slP_flat c1 (⟨1, 5, r6, c2.v⟩ : ClD))) S8.out.okx (ok_cl (by omega) (by omega) HR6.out) (.inl rfl) (.inr rfl)); clear U B)
      | ((with_reducible refine at_store (.tmp 48) ?_); refine wpList_store_part1 rfl 22 (.tmp 48) _ rfl w4.heap.size (slP c1 (⟨c2.source, 5, c2.root, c2.v⟩ : ClD)) 4 _ (.int .u64 1) S7.out.parts rfl (by rw [(slP_off S7.out.okx).1]; rfl) rfl h1 rfl rfl ?_; intro w8 U B; have S8 := Lib.hid (S7.out.put (x' := c1) (y' := (⟨1, 5, c2.root, c2.v⟩ : ClD)) U (B.to (slP_flat c1 (⟨1, 5, c2.root, c2.v⟩ : ClD))) S7.out.okx (ok_cl (by omega) (by omega) S5.out.oky.2.2) (.inl rfl) (.inr rfl)); clear U B)
      | ((with_reducible refine at_store (.tmp 46) ?_); refine wpList_store_part1 rfl 22 (.tmp 46) _ rfl w4.heap.size (slP c1 c2) 5 _ (.int .u64 5) S6.out.parts rfl (by rw [(slP_off S6.out.okx).2.1]; rfl) rfl h1 rfl rfl ?_; intro w7 U B; have S7 := Lib.hid (S6.out.put (x' := c1) (y' := (⟨c2.source, 5, c2.root, c2.v⟩ : ClD)) U (B.to (slP_flat c1 (⟨c2.source, 5, c2.root, c2.v⟩ : ClD))) S6.out.okx (ok_cl S5.out.oky.1 (by omega) S5.out.oky.2.2) (.inl rfl) (.inr rfl)); clear U B)
      | (go_at_call 33; refine (HRS.out _ w5).mono ?_; rintro e w6 ⟨⟨r6, hr6, rfl⟩, hb6⟩; have HR6 := Lib.hid hr6; have S6 := Lib.hid (S5.out.call hb6); clear hr6 hb6)
      | ((with_reducible refine at_build (some 17) ?_); refine wpList_build_g 31 _ rfl #[(0, .agg c1.cells.toArray), (1, .agg c2.cells.toArray)] (by simp [Act.eval, Act.put]) (.agg X) (HX.out _) rfl ?_)
      | ((with_reducible refine at_build (some 16) ?_); refine wpList_build_g 27 _ rfl #[(0, .int .u64 2), (1, .int .u64 4), (2, .agg (bytesL r3).toArray), (3, v4)] (by simp [Act.eval, Act.put]) (.agg (⟨2, 4, r3, v4⟩ : ClD).cells.toArray) (HCL.out ⟨2, 4, r3, v4⟩ (ok_cl (by omega) (by omega) HR3.out) (one_sl HI4.out).1 _) rfl ?_; obtain ⟨c2, hc2⟩ : ∃ c : ClD, Hid ((⟨2, 4, r3, v4⟩ : ClD) = c) := ⟨_, Lib.hid rfl⟩; rw [hc2.out]; have HO2 : Hid c2.ok := (by show c2.ok; rw [← hc2.out]; exact (ok_cl (by omega) (by omega) HR3.out)); have HI5 : Hid (IntsV w4 c2.v l4) := (by show IntsV w4 c2.v l4; rw [← hc2.out]; exact HI4.out); obtain ⟨X, hX⟩ : ∃ X, flatP [c1.cells, c2.cells] = X := ⟨_, rfl⟩; have HX : Hid (∀ u, (Instr.build 31 #[(0, .agg c1.cells.toArray), (1, .agg c2.cells.toArray)]).run Try.prog u = .ok (.agg X) u) := (fun u => by rw [← hX]; exact HSL.out c1 c2 HO1.out HO2.out u); have HXE := Lib.hid hX; have HXS : Hid (X.size = 70) := (by show X.size = 70; rw [← hX]; exact fmt_sl HO1.out HO2.out); have HX1 : Hid (∀ v ∈ X, v.oneCell' = true) := (by show ∀ v ∈ X, _; rw [← hX]; refine flatP_one ?_; intro p hp; rcases List.mem_cons.1 hp with rfl | hp; exact ClD.one (one_sl HC4.out).2; rw [List.mem_singleton.1 hp]; exact ClD.one (one_sl HI5.out).2); clear hX)
      | ((with_reducible refine at_build (some 10) ?_); refine wpList_build_g 27 _ rfl #[(0, .int .u64 1), (1, .int .u64 5), (2, .agg (bytesL r1).toArray), (3, v2)] (by simp [Act.eval, Act.put]) (.agg (⟨1, 5, r1, v2⟩ : ClD).cells.toArray) (HCL.out ⟨1, 5, r1, v2⟩ (ok_cl (by omega) (by omega) HR1.out) (one_sl HI2.out).1 _) rfl ?_; obtain ⟨c1, hc1⟩ : ∃ c : ClD, Hid ((⟨1, 5, r1, v2⟩ : ClD) = c) := ⟨_, Lib.hid rfl⟩; rw [hc1.out]; have HO1 : Hid c1.ok := (by show c1.ok; rw [← hc1.out]; exact (ok_cl (by omega) (by omega) HR1.out)); have HI3 : Hid (IntsV w2 c1.v l2) := (by show IntsV w2 c1.v l2; rw [← hc1.out]; exact HI2.out))
      | (go_at_call 19; refine (HSO.out _ w3).mono ?_; rintro e w4 ⟨v4, l4, rfl, ho4, hl4, hr4, hb4⟩; have HI4 : Hid (IntsV w4 v4 l4) := Lib.hid ⟨ho4.ints (by unfold maxLen; omega), fun x hx => by have := hr4 x hx; omega⟩; have HL4 := Lib.hid hl4; have HF4 := Lib.hid (ho4.new.off HK3.out.lt); have HC4 := Lib.hid (HC3.out.below hb4); have HB4 := Lib.hid (HB3.out.trans (hb4.mono HB3.out.size)); have HK4 := Lib.hid (HK3.out.call hb4); clear ho4 hl4 hr4 hb4)
      | (go_at_call 33; refine (HRS.out _ w2).mono ?_; rintro e w3 ⟨⟨r3, hr3, rfl⟩, hb3⟩; have HR3 := Lib.hid hr3; have HC3 := Lib.hid (HI3.out.below hb3); have HB3 := Lib.hid (HB2.out.trans (hb3.mono HB2.out.size)); have HK3 := Lib.hid (HK2.out.call hb3); clear hr3 hb3)
      | (go_at_call 19; refine (HSO.out _ w1).mono ?_; rintro e w2 ⟨v2, l2, rfl, ho2, hl2, hr2, hb2⟩; have HI2 : Hid (IntsV w2 v2 l2) := Lib.hid ⟨ho2.ints (by unfold maxLen; omega), fun x hx => by have := hr2 x hx; omega⟩; have HL2 := Lib.hid hl2; have HF2 := Lib.hid (ho2.new.off HK1.out.lt); have HB2 := Lib.hid (HB1.out.trans (hb2.mono HB1.out.size)); have HK2 := Lib.hid (HK1.out.call hb2); clear ho2 hl2 hr2 hb2)
      | (go_at_call 33; refine (HRS.out _ _).mono ?_; rintro e w1 ⟨⟨r1, hr1, rfl⟩, hb1⟩; have HR1 := Lib.hid hr1; have HB1 := Lib.hid (HB0.out.trans (hb1.mono HB0.out.size)); have HK1 := Lib.hid (HK0.out.call hb1); clear hr1 hb1)
      | ((with_reducible refine at_store (.tmp 5) ?_); refine wpList_store_blk rfl 31 (.tmp 5) _ rfl w4.heap.size X rfl rfl Z (Blk.new rfl) (by rw [hszZ, HXS.out]) (by rw [HXS.out]; exact h70) HX1.out ?_; intro w5 U5 B5; have hb5 := U5.below ((Below.refl w4.heap.size w4).alloc (Nat.le_refl _) (.cells Z 31)) (Nat.le_refl _); have HK5 : Hid (Blk w5 w4.heap.size (flatP [c1.cells, c2.cells])) := (by show Blk w5 w4.heap.size _; rw [HXE.out]; exact B5); have S5 : Hid (SlS n w Z w4.heap.size w5 c1 c2) := (by refine ⟨HO1.out, HO2.out, HK5.out, HK4.out.call hb5, ⟨l2, HC4.out.below hb5, HC4.out.1.off (Nat.le_refl _), ?_, HL2.out⟩, ⟨l4, HI5.out.below hb5, HI5.out.1.off (Nat.le_refl _), ?_, HL4.out⟩, HB4.out.trans (hb5.mono HB4.out.size), HK4.out.lt⟩; rw [← hc1.out]; exact HF2.out; rw [← hc2.out]; exact HF4.out); clear U5 B5 hb5)
      | fail)
    exact bodyPost_ret (res_cellB rfl rfl HRX.out Try.underlying31 rfl (by rw [fmt_sl S10.out.okx S10.out.oky]; exact h70)) rfl ⟨_, rfl, HD.out, HBX.out⟩
  have q0 : (z == 0) = false := by simpa using hz0
  have q1 : (z == 1) = false := by simpa using hz1
  have q2 : (z == 2) = false := by simpa using hz2
  have q3 : (z == 3) = false := by simpa using hz3
  have q4 : (z == 4) = false := by simpa using hz4
  clear hz0 hz1 hz2 hz3 hz4
  go_enter Try.func16, Try.ntmps16
  go_wp2_with (first
    | ((with_reducible refine at_load (.tmp 5) ?_); refine wpList_load_g 31 (.tmp 5) rfl w4.heap.size rfl (flatP [c1.cells, c2.cells]) _ S5.out.blk Try.underlying31 rfl (by rw [fmt_sl S5.out.okx S5.out.oky]; exact h70) rfl ?_)
    | ((with_reducible refine at_store (.tmp 4) ?_); refine wpList_store_blk rfl 31 (.tmp 4) _ rfl w.heap.size (flatP [c1.cells, c2.cells]) rfl rfl Z S5.out.res (by rw [hszZ, fmt_sl S5.out.okx S5.out.oky]) (by rw [fmt_sl S5.out.okx S5.out.oky]; exact h70) S5.out.ones ?_; intro w9 U9 B9; have HBX := Lib.hid (U9.below S5.out.below (Nat.le_refl _)); have HRX := Lib.hid B9; have HD := Lib.hid (S5.out.done U9); clear U9 B9)
    | ((with_reducible refine at_build (some 17) ?_); refine wpList_build_g 31 _ rfl #[(0, .agg c1.cells.toArray), (1, .agg c2.cells.toArray)] (by simp [Act.eval, Act.put]) (.agg X) (HX.out _) rfl ?_)
    | ((with_reducible refine at_build (some 16) ?_); refine wpList_build_g 27 _ rfl #[(0, .int .u64 2), (1, .int .u64 4), (2, .agg (bytesL r3).toArray), (3, v4)] (by simp [Act.eval, Act.put]) (.agg (⟨2, 4, r3, v4⟩ : ClD).cells.toArray) (HCL.out ⟨2, 4, r3, v4⟩ (ok_cl (by omega) (by omega) HR3.out) (one_sl HI4.out).1 _) rfl ?_; obtain ⟨c2, hc2⟩ : ∃ c : ClD, Hid ((⟨2, 4, r3, v4⟩ : ClD) = c) := ⟨_, Lib.hid rfl⟩; rw [hc2.out]; have HO2 : Hid c2.ok := (by show c2.ok; rw [← hc2.out]; exact (ok_cl (by omega) (by omega) HR3.out)); have HI5 : Hid (IntsV w4 c2.v l4) := (by show IntsV w4 c2.v l4; rw [← hc2.out]; exact HI4.out); obtain ⟨X, hX⟩ : ∃ X, flatP [c1.cells, c2.cells] = X := ⟨_, rfl⟩; have HX : Hid (∀ u, (Instr.build 31 #[(0, .agg c1.cells.toArray), (1, .agg c2.cells.toArray)]).run Try.prog u = .ok (.agg X) u) := (fun u => by rw [← hX]; exact HSL.out c1 c2 HO1.out HO2.out u); have HXE := Lib.hid hX; have HXS : Hid (X.size = 70) := (by show X.size = 70; rw [← hX]; exact fmt_sl HO1.out HO2.out); have HX1 : Hid (∀ v ∈ X, v.oneCell' = true) := (by show ∀ v ∈ X, _; rw [← hX]; refine flatP_one ?_; intro p hp; rcases List.mem_cons.1 hp with rfl | hp; exact ClD.one (one_sl HC4.out).2; rw [List.mem_singleton.1 hp]; exact ClD.one (one_sl HI5.out).2); clear hX)
    | ((with_reducible refine at_build (some 10) ?_); refine wpList_build_g 27 _ rfl #[(0, .int .u64 1), (1, .int .u64 5), (2, .agg (bytesL r1).toArray), (3, v2)] (by simp [Act.eval, Act.put]) (.agg (⟨1, 5, r1, v2⟩ : ClD).cells.toArray) (HCL.out ⟨1, 5, r1, v2⟩ (ok_cl (by omega) (by omega) HR1.out) (one_sl HI2.out).1 _) rfl ?_; obtain ⟨c1, hc1⟩ : ∃ c : ClD, Hid ((⟨1, 5, r1, v2⟩ : ClD) = c) := ⟨_, Lib.hid rfl⟩; rw [hc1.out]; have HO1 : Hid c1.ok := (by show c1.ok; rw [← hc1.out]; exact (ok_cl (by omega) (by omega) HR1.out)); have HI3 : Hid (IntsV w2 c1.v l2) := (by show IntsV w2 c1.v l2; rw [← hc1.out]; exact HI2.out))
    | (go_at_call 19; refine (HSO.out _ w3).mono ?_; rintro e w4 ⟨v4, l4, rfl, ho4, hl4, hr4, hb4⟩; have HI4 : Hid (IntsV w4 v4 l4) := Lib.hid ⟨ho4.ints (by unfold maxLen; omega), fun x hx => by have := hr4 x hx; omega⟩; have HL4 := Lib.hid hl4; have HF4 := Lib.hid (ho4.new.off HK3.out.lt); have HC4 := Lib.hid (HC3.out.below hb4); have HB4 := Lib.hid (HB3.out.trans (hb4.mono HB3.out.size)); have HK4 := Lib.hid (HK3.out.call hb4); clear ho4 hl4 hr4 hb4)
    | (go_at_call 33; refine (HRS.out _ w2).mono ?_; rintro e w3 ⟨⟨r3, hr3, rfl⟩, hb3⟩; have HR3 := Lib.hid hr3; have HC3 := Lib.hid (HI3.out.below hb3); have HB3 := Lib.hid (HB2.out.trans (hb3.mono HB2.out.size)); have HK3 := Lib.hid (HK2.out.call hb3); clear hr3 hb3)
    | (go_at_call 19; refine (HSO.out _ w1).mono ?_; rintro e w2 ⟨v2, l2, rfl, ho2, hl2, hr2, hb2⟩; have HI2 : Hid (IntsV w2 v2 l2) := Lib.hid ⟨ho2.ints (by unfold maxLen; omega), fun x hx => by have := hr2 x hx; omega⟩; have HL2 := Lib.hid hl2; have HF2 := Lib.hid (ho2.new.off HK1.out.lt); have HB2 := Lib.hid (HB1.out.trans (hb2.mono HB1.out.size)); have HK2 := Lib.hid (HK1.out.call hb2); clear ho2 hl2 hr2 hb2)
    | (go_at_call 33; refine (HRS.out _ _).mono ?_; rintro e w1 ⟨⟨r1, hr1, rfl⟩, hb1⟩; have HR1 := Lib.hid hr1; have HB1 := Lib.hid (HB0.out.trans (hb1.mono HB0.out.size)); have HK1 := Lib.hid (HK0.out.call hb1); clear hr1 hb1)
    | ((with_reducible refine at_store (.tmp 5) ?_); refine wpList_store_blk rfl 31 (.tmp 5) _ rfl w4.heap.size X rfl rfl Z (Blk.new rfl) (by rw [hszZ, HXS.out]) (by rw [HXS.out]; exact h70) HX1.out ?_; intro w5 U5 B5; have hb5 := U5.below ((Below.refl w4.heap.size w4).alloc (Nat.le_refl _) (.cells Z 31)) (Nat.le_refl _); have HK5 : Hid (Blk w5 w4.heap.size (flatP [c1.cells, c2.cells])) := (by show Blk w5 w4.heap.size _; rw [HXE.out]; exact B5); have S5 : Hid (SlS n w Z w4.heap.size w5 c1 c2) := (by refine ⟨HO1.out, HO2.out, HK5.out, HK4.out.call hb5, ⟨l2, HC4.out.below hb5, HC4.out.1.off (Nat.le_refl _), ?_, HL2.out⟩, ⟨l4, HI5.out.below hb5, HI5.out.1.off (Nat.le_refl _), ?_, HL4.out⟩, HB4.out.trans (hb5.mono HB4.out.size), HK4.out.lt⟩; rw [← hc1.out]; exact HF2.out; rw [← hc2.out]; exact HF4.out); clear U5 B5 hb5)
    | fail)
  exact bodyPost_ret (res_cellB rfl rfl HRX.out Try.underlying31 rfl (by rw [fmt_sl S5.out.okx S5.out.oky]; exact h70)) rfl ⟨_, rfl, HD.out, HBX.out⟩
end Go.Proofs.Ytlbhkgmlfapjgaa
