/- The law's awake of stage 12; a tree's variable; slices of nodes written out. -/
import Derived.Test.YtdbkphkgjaecoaaAnB
import Derived.Test.YtdbkphkgjaecoaaAnC
import Derived.Test.YtdbkphkgjaecoaaAnD
import Derived.Test.YtdbkphkgjaecoaaBtK
import Derived.Deep.CutRange
import Derived.Test.YtdbkphkgjaecoaaElM
set_option linter.unusedVariables false

set_option linter.unusedSimpArgs false
namespace Go.Proofs.Ytdbkphkgjaecoaa
open Go.RowKit

set_option maxRecDepth 100000

/-- A tree's variable in block bt, and what was before. -/
structure AnS (w : World) (bt : Nat) (s : Value) (ns : List NdD) (u : World) : Prop where
  t : Blk u bt #[s]
  n : NodesV u s ns
  b : Below w.heap.size w u

theorem AnS.call {w u u' : World} {bt : Nat} {s : Value} {ns : List NdD} (h : AnS w bt s ns u) (hb : Below u.heap.size u u') : AnS w bt s ns u' := ⟨h.t.call hb, h.n.call hb, h.b.trans (hb.mono h.b.size)⟩

/-- Nodes written out. -/
def ndX (ns : List NdD) : List (Array Value) := ns.map fun d => d.cells.toArray

theorem bs_nodes {ns : List NdD} (h : ∀ d ∈ ns, d.ok) (hn : 0 < ns.length) (hm : ns.length ≤ 1000) (u : World) :
    (Instr.buildSlice 23 ns.length (prtN 0 (ndX ns)).toArray).run Try.prog u = .ok (.slice (some ⟨u.heap.size, 0, none⟩) ns.length ns.length) (u.alloc (.cells (rowsL (ndX ns)).toArray 51)) := by
  have h := buildElN (P := Try.prog) (t := 23) (e := 51) (Z := flatP (zeBkP ++ [[.int .i64 0], [.int .i64 0]])) (sz := 240) Try.underlying23 (fun w => by kernel_rfl) (by kernel_rfl) (by omega) (ndX ns) (fun X hX => by
    obtain ⟨d, hd, rfl⟩ := List.mem_map.1 hX
    rw [List.size_toArray, NdD.len (h d hd)]) (by simpa [ndX] using hn) (by simp [ndX]; omega) u
  have e : (ndX ns).length = ns.length := by simp [ndX]
  rwa [e] at h

theorem new_nodes {ns : List NdD} (h : ∀ d ∈ ns, d.ok) (hm : ns.length ≤ 1000) (u : World) : NodesV (u.alloc (.cells (rowsL (ndX ns)).toArray 51)) (.slice (some ⟨u.heap.size, 0, none⟩) ns.length ns.length) ns := by
  have hB : Blk (u.alloc (.cells (rowsL (ndX ns)).toArray 51)) u.heap.size (rowsL (ndX ns)).toArray := Blk.new rfl
  refine ⟨_, _, rfl, by unfold maxLen; omega, .inr ⟨u.heap.size, 0, rfl, hB.lt, ndX ns, ?_, by simp [ndX], ?_⟩⟩
  · have := hB.range; simpa using this
  · intro p hp
    obtain ⟨i, hi, rfl⟩ := List.mem_iff_getElem.1 hp
    simp only [List.length_zip, ndX, List.length_map] at hi
    simp only [List.getElem_zip, ndX, List.getElem_map]
    exact ⟨rfl, h _ (List.getElem_mem _)⟩

theorem build_ndA (x : BkD) (up : Int) (hx : x.ok) (u : World) : (Instr.build 51 #[(0, .agg (flatP x.parts)), (1, .int .i64 up)]).run Try.prog u = .ok (.agg (⟨x, up, 0⟩ : NdD).cells.toArray) u := by
  have hl := BkD.flen hx
  refine build_struct (zero := flatP [zeBkP.flatten, [.int .i64 0], [.int .i64 0]]) (fun w => by kernel_rfl) Try.underlying51 (places := #[(0, 238), (238, 1), (239, 1)]) (fun w => by kernel_rfl) ?_ u
  show Instr.fill _ (flatP [zeBkP.flatten, [.int .i64 0], [.int .i64 0]]) [(0, .agg (flatP x.parts)), (1, .int .i64 up)] = _
  rw [fill_part 0 zeBkP.flatten x.parts.flatten rfl rfl (by rw [hl]; rfl) rfl (by rw [hl]; rfl), fill_part (i := 1) (o := 238) 1 [.int .i64 0] [.int .i64 up] rfl rfl rfl (by simp [offP, hl]) rfl]
  unfold Instr.fill
  simp [flatP, NdD.cells]

theorem build_ndB (x : BkD) (hx : x.ok) (u : World) : (Instr.build 51 #[(0, .agg (flatP x.parts))]).run Try.prog u = .ok (.agg (⟨x, 0, 0⟩ : NdD).cells.toArray) u := by
  have hl := BkD.flen hx
  refine build_struct (zero := flatP [zeBkP.flatten, [.int .i64 0], [.int .i64 0]]) (fun w => by kernel_rfl) Try.underlying51 (places := #[(0, 238), (238, 1), (239, 1)]) (fun w => by kernel_rfl) ?_ u
  show Instr.fill _ (flatP [zeBkP.flatten, [.int .i64 0], [.int .i64 0]]) [(0, .agg (flatP x.parts))] = _
  rw [fill_part 0 zeBkP.flatten x.parts.flatten rfl rfl (by rw [hl]; rfl) rfl (by rw [hl]; rfl)]
  unfold Instr.fill
  simp [flatP, NdD.cells]

theorem ints_three {w : World} {g : Nat} {l m n : Int} (h : Blk w g #[.int .i64 l, .int .i64 m, .int .i64 n]) (hl : -9223372036854775808 ≤ l ∧ l ≤ 9223372036854775807) (hm : -9223372036854775808 ≤ m ∧ m ≤ 9223372036854775807) (hn : -9223372036854775808 ≤ n ∧ n ≤ 9223372036854775807) : IntsV w (.slice (some ⟨g, 0, none⟩) 3 3) [l, m, n] := by
  refine ⟨⟨_, _, _, rfl, rfl, by unfold maxLen; omega, .inr ⟨g, 0, rfl, h.lt, fun i hi => ?_⟩⟩, fun x hx => ?_⟩
  · have : i = 0 ∨ i = 1 ∨ i = 2 := by omega
    rcases this with rfl | rfl | rfl
    · exact h.cell 0
    · exact h.cell 1
    · exact h.cell 2
  · simp at hx
    rcases hx with rfl | rfl | rfl
    · exact hl
    · exact hm
    · exact hn
/-! ### awake's chain -/

def anA : BkD := bk4 0 (rootK 1) zeroR zeroR

def anB : BkD := bk4 3 (rootK 2) (rootK 1) zeroR

def anC : BkD := bk4 5 (rootK 3) (rootK 2) zeroR

def an3 : List NdD := [⟨anA, -1, 0⟩, ⟨anB, 0, 0⟩, ⟨anC, 1, 0⟩]

theorem anA_ok : anA.ok := bk4_ok (by omega) (rootK_is 1) zeroR_is zeroR_is

theorem anB_ok : anB.ok := bk4_ok (by omega) (rootK_is 2) (rootK_is 1) zeroR_is

theorem anC_ok : anC.ok := bk4_ok (by omega) (rootK_is 3) (rootK_is 2) zeroR_is

theorem an3_ok : TrOK an3 := by
  have h1 : TrOK [(⟨anA, -1, 0⟩ : NdD)] := TrOK.one anA 0 (by omega)
  have e1 : (insT [(⟨anA, -1, 0⟩ : NdD)] anB 0).2 = 0 := by
    have h1 : findN [(⟨anA, -1, 0⟩ : NdD)] anB.root = -1 := by kernel_rfl
    have h2 : findN [(⟨anA, -1, 0⟩ : NdD)] anB.parent = 0 := by kernel_rfl
    have h3 : slotAt [(⟨anA, -1, 0⟩ : NdD)] 0 = 0 := by kernel_rfl
    unfold insT
    rw [h1, h2, h3, if_neg (by omega), if_neg (by omega), if_neg (by omega), if_neg (by decide), if_neg (by decide)]
  have h2 := (h1.add (q := 0) (by simp) (x := anB) (st := 0) rfl (by omega) (fun h => by cases h) (fun h => by cases h) e1).2
  have e2 : (insT ([(⟨anA, -1, 0⟩ : NdD)] ++ [⟨anB, (0 : Nat), 0⟩]) anC 0).2 = 0 := by
    have h1 : findN ([(⟨anA, -1, 0⟩ : NdD)] ++ [⟨anB, (0 : Nat), 0⟩]) anC.root = -1 := by kernel_rfl
    have h2 : findN ([(⟨anA, -1, 0⟩ : NdD)] ++ [⟨anB, (0 : Nat), 0⟩]) anC.parent = 1 := by kernel_rfl
    have h3 : slotAt ([(⟨anA, -1, 0⟩ : NdD)] ++ [⟨anB, (0 : Nat), 0⟩]) 1 = 3 := by kernel_rfl
    unfold insT
    rw [h1, h2, h3, if_neg (by omega), if_neg (by omega), if_neg (by omega), if_neg (by decide), if_neg (by decide)]
  exact (h2.add (q := 1) (by simp) (x := anC) (st := 0) rfl (by omega) (fun h => by cases h) (fun h => by cases h) e2).2

theorem an_at : atP an3 2 4 = 1 := by kernel_rfl

theorem an_heir : heirN an3 0 2 = 1 := by kernel_rfl

theorem an_path : pathN an3 2 = [0, 1, 2] := by kernel_rfl

set_option maxHeartbeats 16000000 in
theorem awake12_any (w : World) : Calls Try.prog 19 #[] w fun e w' => e = .returned (.bool true) ∧ Below w.heap.size w w' := by
  obtain ⟨R1, h1⟩ : ∃ z, bytesL (rootK 1) = z := ⟨_, rfl⟩
  obtain ⟨R2, h2⟩ : ∃ z, bytesL (rootK 2) = z := ⟨_, rfl⟩
  obtain ⟨R3, h3⟩ : ∃ z, bytesL (rootK 3) = z := ⟨_, rfl⟩
  obtain ⟨XA, hA⟩ : ∃ z, flatP anA.parts = z := ⟨_, rfl⟩
  obtain ⟨XB, hB⟩ : ∃ z, flatP anB.parts = z := ⟨_, rfl⟩
  obtain ⟨XC, hC⟩ : ∃ z, flatP anC.parts = z := ⟨_, rfl⟩
  obtain ⟨YA, hYA⟩ : ∃ z, (⟨anA, -1, 0⟩ : NdD).cells.toArray = z := ⟨_, rfl⟩
  obtain ⟨YB, hYB⟩ : ∃ z, (⟨anB, 0, 0⟩ : NdD).cells.toArray = z := ⟨_, rfl⟩
  obtain ⟨YC, hYC⟩ : ∃ z, (⟨anC, 1, 0⟩ : NdD).cells.toArray = z := ⟨_, rfl⟩
  have HK1 : Hid (∀ u, Calls Try.prog 25 #[.int .i64 1] u fun e w' => e = .returned (.agg R1.toArray) ∧ Below u.heap.size u w') := fun u => by rw [← h1]; exact root_k 1 u
  have HK2 : Hid (∀ u, Calls Try.prog 25 #[.int .i64 2] u fun e w' => e = .returned (.agg R2.toArray) ∧ Below u.heap.size u w') := fun u => by rw [← h2]; exact root_k 2 u
  have HK3 : Hid (∀ u, Calls Try.prog 25 #[.int .i64 3] u fun e w' => e = .returned (.agg R3.toArray) ∧ Below u.heap.size u w') := fun u => by rw [← h3]; exact root_k 3 u
  have HXA : Hid (∀ u, (Instr.build 49 #[(2, .agg R1.toArray)]).run Try.prog u = .ok (.agg XA) u) := fun u => by rw [← h1, ← hA]; exact build_bR (rootK_is 1) u
  have HXB : Hid (∀ u, (Instr.build 49 #[(2, .agg R2.toArray), (3, .agg R1.toArray), (1, .int .u64 3)]).run Try.prog u = .ok (.agg XB) u) := fun u => by rw [← h1, ← h2, ← hB]; exact build_bRP (rootK_is 2) (rootK_is 1) u
  have HXC : Hid (∀ u, (Instr.build 49 #[(2, .agg R3.toArray), (3, .agg R2.toArray), (1, .int .u64 5)]).run Try.prog u = .ok (.agg XC) u) := fun u => by rw [← h2, ← h3, ← hC]; exact build_bRP (rootK_is 3) (rootK_is 2) u
  have HYA : Hid (∀ u, (Instr.build 51 #[(0, .agg XA), (1, .int .i64 (-1))]).run Try.prog u = .ok (.agg YA) u) := fun u => by rw [← hA, ← hYA]; exact build_ndA anA (-1) anA_ok u
  have HYB : Hid (∀ u, (Instr.build 51 #[(0, .agg XB)]).run Try.prog u = .ok (.agg YB) u) := fun u => by rw [← hB, ← hYB]; exact build_ndB anB anB_ok u
  have HYC : Hid (∀ u, (Instr.build 51 #[(0, .agg XC), (1, .int .i64 1)]).run Try.prog u = .ok (.agg YC) u) := fun u => by rw [← hC, ← hYC]; exact build_ndA anC 1 anC_ok u
  have hoks : ∀ d ∈ an3, d.ok := by
    intro d hd
    simp only [an3, List.mem_cons, List.not_mem_nil, or_false] at hd
    rcases hd with rfl | rfl | rfl
    · exact ⟨anA_ok, by show (-9223372036854775808 : Int) ≤ -1 ∧ (-1 : Int) ≤ _; omega, by show (-9223372036854775808 : Int) ≤ 0 ∧ (0 : Int) ≤ _; omega⟩
    · exact ⟨anB_ok, by show (-9223372036854775808 : Int) ≤ 0 ∧ (0 : Int) ≤ _; omega, by show (-9223372036854775808 : Int) ≤ 0 ∧ (0 : Int) ≤ _; omega⟩
    · exact ⟨anC_ok, by show (-9223372036854775808 : Int) ≤ 1 ∧ (1 : Int) ≤ _; omega, by show (-9223372036854775808 : Int) ≤ 0 ∧ (0 : Int) ≤ _; omega⟩
  obtain ⟨RW, hRW⟩ : ∃ z, (rowsL (ndX an3)).toArray = z := ⟨_, rfl⟩
  have HBS : Hid (∀ u, (Instr.buildSlice 23 3 #[(0, .agg YA), (1, .agg YB), (2, .agg YC)]).run Try.prog u = .ok (.slice (some ⟨u.heap.size, 0, none⟩) 3 3) (u.alloc (.cells RW 51))) := fun u => by
    rw [← hYA, ← hYB, ← hYC, ← hRW]
    exact bs_nodes hoks (by simp [an3]) (by simp [an3]) u
  have HNN : Hid (∀ u : World, NodesV (u.alloc (.cells RW 51)) (.slice (some ⟨u.heap.size, 0, none⟩) 3 3) an3) := fun u => by rw [← hRW]; exact new_nodes hoks (by simp [an3]) u
  have HAT : Hid (∀ v u, NodesV u v an3 → Calls Try.prog 20 #[.agg #[v], .int .i64 2, .int .u64 4] u fun e w' => e = .returned (.int .i64 1) ∧ Below u.heap.size u w') := fun v u hu => by
    have h := anat_any an3 an3_ok 2 4 v u hu
    rw [an_at] at h
    exact h
  have HHE : Hid (∀ v u, NodesV u v an3 → Calls Try.prog 17 #[.agg #[v], .int .i64 0, .int .i64 2] u fun e w' => e = .returned (.int .i64 1) ∧ Below u.heap.size u w') := fun v u hu => by
    have h := anhe_any an3 an3_ok 0 2 v u hu
    rw [an_heir] at h
    exact h
  have HIA : Hid (∀ v u, NodesV u v an3 → Calls Try.prog 13 #[.agg #[v], .int .i64 0, .int .i64 2] u fun e w' => e = .returned (.bool true) ∧ Below u.heap.size u w') := fun v u hu => by
    have h := anis_any an3 an3_ok 0 2 v u hu
    rw [an_path, show decide ((0 : Int) ∈ [(0 : Int), 1, 2]) = true from rfl] at h
    exact h
  have HPA : Hid (∀ v u, NodesV u v an3 → Calls Try.prog 11 #[.agg #[v], .int .i64 2] u fun e w' => ∃ v', e = .returned v' ∧ IntsV w' v' [0, 1, 2] ∧ Below u.heap.size u w') := fun v u hu => by
    have h := anpa_any an3 an3_ok (by simp [an3]) 2 (by omega) v u hu
    unfold PacE at h
    rw [an_path] at h
    exact h
  have HSM := Lib.hid same_12
  have hi1 : (Try.prog.info? 25).map (·.size) = some 1 := by kernel_rfl
  obtain ⟨hz1, hst1⟩ := zero_array (P := Try.prog) (t := 25) (n := 1) #[.slice none 0 0] (by kernel_rfl) rfl (by kernel_rfl)
  have HB : Hid (Below w.heap.size w w) := Below.refl _ _
  clear h1 h2 h3 hA hB hC hYA hYB hYC hRW hoks hst1
  go_enter Try.func19, Try.ntmps19
  go_upto_region 2 with (first
    | (go_at_call_of 25 (Value.int IntKind.i64 1); refine (HK1.out _).mono ?_; rintro e w1 ⟨rfl, hb1⟩; have HB := Lib.hid (HB.out.trans (hb1.mono HB.out.size)); clear hb1)
    | (go_at_call_of 25 (Value.int IntKind.i64 2); refine (HK2.out _).mono ?_; rintro e w1 ⟨rfl, hb1⟩; have HB := Lib.hid (HB.out.trans (hb1.mono HB.out.size)); clear hb1)
    | (go_at_call_of 25 (Value.int IntKind.i64 3); refine (HK3.out _).mono ?_; rintro e w1 ⟨rfl, hb1⟩; have HB := Lib.hid (HB.out.trans (hb1.mono HB.out.size)); clear hb1)
    | ((with_reducible refine at_build (some 3) ?_); refine wpList_build_g 49 _ rfl #[(2, .agg R1.toArray)] (by simp [Act.eval, Act.put]) (.agg XA) (HXA.out _) rfl ?_)
    | ((with_reducible refine at_build (some 4) ?_); refine wpList_build_g 51 _ rfl #[(0, .agg XA), (1, .int .i64 (-1))] (by simp [Act.eval, Act.put]) (.agg YA) (HYA.out _) rfl ?_)
    | ((with_reducible refine at_build (some 7) ?_); refine wpList_build_g 49 _ rfl #[(2, .agg R2.toArray), (3, .agg R1.toArray), (1, .int .u64 3)] (by simp [Act.eval, Act.put]) (.agg XB) (HXB.out _) rfl ?_)
    | ((with_reducible refine at_build (some 8) ?_); refine wpList_build_g 51 _ rfl #[(0, .agg XB)] (by simp [Act.eval, Act.put]) (.agg YB) (HYB.out _) rfl ?_)
    | ((with_reducible refine at_build (some 11) ?_); refine wpList_build_g 49 _ rfl #[(2, .agg R3.toArray), (3, .agg R2.toArray), (1, .int .u64 5)] (by simp [Act.eval, Act.put]) (.agg XC) (HXC.out _) rfl ?_)
    | ((with_reducible refine at_build (some 12) ?_); refine wpList_build_g 51 _ rfl #[(0, .agg XC), (1, .int .i64 1)] (by simp [Act.eval, Act.put]) (.agg YC) (HYC.out _) rfl ?_)
    | ((with_reducible refine at_buildSliceE (some 13) ?_); refine wpList_buildSliceE rfl 23 3 _ rfl #[(0, .agg YA), (1, .agg YB), (2, .agg YC)] (by simp [Act.eval, Act.put]) _ (HBS.out _) ?_; have HN2 := Lib.hid (HNN.out w1); have HAL : Hid (Below w1.heap.size w1 (w1.alloc (.cells RW 51))) := (Below.refl _ _).alloc (Nat.le_refl _) _; obtain ⟨ad, had⟩ : ∃ x, (some ⟨w1.heap.size, 0, none⟩ : Option Addr) = x := ⟨_, rfl⟩; rw [had] at HN2 ⊢; obtain ⟨w2, hw2⟩ : ∃ x, w1.alloc (.cells RW 51) = x := ⟨_, rfl⟩; rw [hw2] at HN2 HAL ⊢; have HB := Lib.hid (HB.out.trans (HAL.out.mono HB.out.size)); clear HAL hw2)
    | ((with_reducible refine at_build (some 14) ?_); refine wpList_build_g 25 _ rfl #[(0, .slice ad 3 3)] (by simp [Act.eval, Act.put]) (.agg #[.slice ad 3 3]) (b_tree _ _ _ _) rfl ?_)
    | ((with_reducible refine at_store (.tmp 1) ?_); refine wpList_store_blk rfl 25 (.tmp 1) _ rfl w2.heap.size #[.slice ad 3 3] rfl rfl #[.slice none 0 0] (Blk.new rfl) rfl hi1 (by simp [Value.oneCell']) ?_; intro w3 U3 B3; have hb3 := U3.below ((Below.refl w2.heap.size w2).alloc (Nat.le_refl _) (.cells #[.slice none 0 0] 25)) (Nat.le_refl _); have S : Hid (AnS w w2.heap.size (.slice ad 3 3) an3 w3) := ⟨B3, HN2.out.call hb3, HB.out.trans (hb3.mono HB.out.size)⟩; clear U3 B3 hb3))
  obtain ⟨bt, hbt⟩ : ∃ x, w2.heap.size = x := ⟨_, rfl⟩
  rw [hbt] at S ⊢
  clear hbt HN2 HB had
  simp only [Act.put]
  go_wp2_with (first
    | ((with_reducible refine at_load (.tmp 1) ?_); refine wpList_load_g 25 (.tmp 1) rfl bt rfl #[.slice ad 3 3] _ S.out.t Try.underlying25 rfl hi1 rfl ?_)
    | (go_at_call 20; refine (HAT.out _ _ S.out.n).mono ?_; rintro e w4 ⟨rfl, hb4⟩; have S := Lib.hid (S.out.call hb4); clear hb4)
    | (go_at_call 17; refine (HHE.out _ _ S.out.n).mono ?_; rintro e w4 ⟨rfl, hb4⟩; have S := Lib.hid (S.out.call hb4); clear hb4)
    | (go_at_call 13; refine (HIA.out _ _ S.out.n).mono ?_; rintro e w4 ⟨rfl, hb4⟩; have S := Lib.hid (S.out.call hb4); clear hb4)
    | (go_at_call 11; refine (HPA.out _ _ S.out.n).mono ?_; rintro e w5 ⟨v5, rfl, hi5, hb5⟩; have HI5 := Lib.hid hi5; have S := Lib.hid (S.out.call hb5); clear hb5 hi5)
    | (go_at_call 10; refine (HSM.out _ _ [0, 1, 2] _ (HI5.out.below ((Below.refl w5.heap.size w5).alloc (Nat.le_refl _) (.cells #[.int .i64 0, .int .i64 1, .int .i64 2] 3))) (ints_three (Blk.new rfl) (by omega) (by omega) (by omega))).mono ?_; rintro e w6 ⟨rfl, hb6⟩; have S6 := Lib.hid ((S.out.call ((Below.refl w5.heap.size w5).alloc (Nat.le_refl _) (.cells #[.int .i64 0, .int .i64 1, .int .i64 2] 3))).call hb6); clear hb6))
  go_ret
  exact ⟨rfl, S6.out.b⟩
end Go.Proofs.Ytdbkphkgjaecoaa
