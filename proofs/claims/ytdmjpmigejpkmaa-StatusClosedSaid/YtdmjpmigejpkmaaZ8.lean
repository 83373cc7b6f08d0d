/- Several texts as one: SuE. -/
import Derived.Test.YtdmjpmigejpkmaaZ5
import Derived.Test.YtdmjpmigejpkmaaZ6
import Derived.Test.YtdmjpmigejpkmaaZ7
import Derived.Deep.CutRange
namespace Go.Proofs.Ytdmjpmigejpkmaa

/-! SuE -/
section
set_option linter.unusedVariables false
set_option linter.unusedSimpArgs false
open Go.RowKit

set_option maxRecDepth 100000

def chA : BkD := bk4 0 (rootK 1) zeroR zeroR

def chB : BkD := bk4 1 (rootK 2) (rootK 1) zeroR

def chC : BkD := bk4 2 (rootK 3) (rootK 2) zeroR

def ch3 : List NdD := [⟨chA, -1, 1⟩, ⟨chB, 0, 0⟩, ⟨chC, 1, 0⟩]

def ch3r : List NdD := [⟨chA, -1, 1⟩, ⟨chB, 0, 1⟩, ⟨chC, 1, 0⟩]

theorem chA_ok : chA.ok := bk4_ok (by omega) (rootK_is 1) zeroR_is zeroR_is

theorem chB_ok : chB.ok := bk4_ok (by omega) (rootK_is 2) (rootK_is 1) zeroR_is

theorem chC_ok : chC.ok := bk4_ok (by omega) (rootK_is 3) (rootK_is 2) zeroR_is

theorem ch3_ok : TrOK ch3 := by
  have h1 : TrOK [(⟨chA, -1, 1⟩ : NdD)] := TrOK.one chA 1 (by omega)
  have e1 : (insT [(⟨chA, -1, 1⟩ : NdD)] chB 0).2 = 0 := by
    have h1 : findN [(⟨chA, -1, 1⟩ : NdD)] chB.root = -1 := by kernel_rfl
    have h2 : findN [(⟨chA, -1, 1⟩ : NdD)] chB.parent = 0 := by kernel_rfl
    have h3 : slotAt [(⟨chA, -1, 1⟩ : NdD)] 0 = 0 := by kernel_rfl
    unfold insT
    rw [h1, h2, h3, if_neg (by omega), if_neg (by omega), if_neg (by omega), if_neg (by decide), if_neg (by decide)]
  have h2 := (h1.add (q := 0) (by simp) (x := chB) (st := 0) rfl (by omega) (fun h => by cases h) (fun h => by cases h) e1).2
  have e2 : (insT ([(⟨chA, -1, 1⟩ : NdD)] ++ [⟨chB, (0 : Nat), 0⟩]) chC 0).2 = 0 := by
    have h1 : findN ([(⟨chA, -1, 1⟩ : NdD)] ++ [⟨chB, (0 : Nat), 0⟩]) chC.root = -1 := by kernel_rfl
    have h2 : findN ([(⟨chA, -1, 1⟩ : NdD)] ++ [⟨chB, (0 : Nat), 0⟩]) chC.parent = 1 := by kernel_rfl
    have h3 : slotAt ([(⟨chA, -1, 1⟩ : NdD)] ++ [⟨chB, (0 : Nat), 0⟩]) 1 = 1 := by kernel_rfl
    unfold insT
    rw [h1, h2, h3, if_neg (by omega), if_neg (by omega), if_neg (by omega), if_neg (by decide), if_neg (by decide)]
  exact (h2.add (q := 1) (by simp) (x := chC) (st := 0) rfl (by omega) (fun h => by cases h) (fun h => by cases h) e2).2

theorem ch3_rai : raiN ch3 1 = (ch3r, 0) := by
  unfold raiN
  rw [if_neg (fun h => h (by decide)), if_neg]
  · congr 1
  · rintro ⟨j, hj, _, h2⟩
    have hj3 : j < 3 := hj
    have : j = 0 ∨ j = 1 ∨ j = 2 := by omega
    rcases this with rfl | rfl | rfl <;> cases h2

theorem ch3_con : conN ch3 0 = ([], 21) := by
  unfold conN
  rw [if_neg (fun h => h (by decide)), if_pos ⟨0, by decide, by kernel_rfl, rfl⟩]

theorem ch3_clo : cloN ch3 = 0 := by kernel_rfl

theorem ch3_oks : ∀ d ∈ ch3, d.ok := by
  intro d hd
  simp only [ch3, List.mem_cons, List.not_mem_nil, or_false] at hd
  rcases hd with rfl | rfl | rfl
  · exact ⟨chA_ok, by show (-9223372036854775808 : Int) ≤ -1 ∧ (-1 : Int) ≤ _; omega, by show (-9223372036854775808 : Int) ≤ 1 ∧ (1 : Int) ≤ _; omega⟩
  · exact ⟨chB_ok, by show (-9223372036854775808 : Int) ≤ 0 ∧ (0 : Int) ≤ _; omega, by show (-9223372036854775808 : Int) ≤ 0 ∧ (0 : Int) ≤ _; omega⟩
  · exact ⟨chC_ok, by show (-9223372036854775808 : Int) ≤ 1 ∧ (1 : Int) ≤ _; omega, by show (-9223372036854775808 : Int) ≤ 0 ∧ (0 : Int) ≤ _; omega⟩

set_option maxHeartbeats 16000000 in
theorem chain_any (w : World) : Calls Try.prog 31 #[] w fun e w' => ∃ v', e = .returned (.agg #[v']) ∧ NodesV w' v' ch3 ∧ CapOK v' ∧ Below w.heap.size w w' := by
  obtain ⟨R1, h1⟩ : ∃ z, bytesL (rootK 1) = z := ⟨_, rfl⟩
  obtain ⟨R2, h2⟩ : ∃ z, bytesL (rootK 2) = z := ⟨_, rfl⟩
  obtain ⟨R3, h3⟩ : ∃ z, bytesL (rootK 3) = z := ⟨_, rfl⟩
  obtain ⟨XA, hA⟩ : ∃ z, flatP chA.parts = z := ⟨_, rfl⟩
  obtain ⟨XB, hB⟩ : ∃ z, flatP chB.parts = z := ⟨_, rfl⟩
  obtain ⟨XC, hC⟩ : ∃ z, flatP chC.parts = z := ⟨_, rfl⟩
  obtain ⟨YA, hYA⟩ : ∃ z, (⟨chA, -1, 1⟩ : NdD).cells.toArray = z := ⟨_, rfl⟩
  obtain ⟨YB, hYB⟩ : ∃ z, (⟨chB, 0, 0⟩ : NdD).cells.toArray = z := ⟨_, rfl⟩
  obtain ⟨YC, hYC⟩ : ∃ z, (⟨chC, 1, 0⟩ : NdD).cells.toArray = z := ⟨_, rfl⟩
  have HK1 : Hid (∀ u, Calls Try.prog 25 #[.int .i64 1] u fun e w' => e = .returned (.agg R1.toArray) ∧ Below u.heap.size u w') := fun u => by rw [← h1]; exact root_k 1 u
  have HK2 : Hid (∀ u, Calls Try.prog 25 #[.int .i64 2] u fun e w' => e = .returned (.agg R2.toArray) ∧ Below u.heap.size u w') := fun u => by rw [← h2]; exact root_k 2 u
  have HK3 : Hid (∀ u, Calls Try.prog 25 #[.int .i64 3] u fun e w' => e = .returned (.agg R3.toArray) ∧ Below u.heap.size u w') := fun u => by rw [← h3]; exact root_k 3 u
  have HXA : Hid (∀ u, (Instr.build 39 #[(2, .agg R1.toArray)]).run Try.prog u = .ok (.agg XA) u) := fun u => by rw [← h1, ← hA]; exact build_bR (rootK_is 1) u
  have HXB : Hid (∀ u, (Instr.build 39 #[(2, .agg R2.toArray), (3, .agg R1.toArray), (1, .int .u64 1)]).run Try.prog u = .ok (.agg XB) u) := fun u => by rw [← h1, ← h2, ← hB]; exact build_bRP (rootK_is 2) (rootK_is 1) u
  have HXC : Hid (∀ u, (Instr.build 39 #[(2, .agg R3.toArray), (3, .agg R2.toArray), (1, .int .u64 2)]).run Try.prog u = .ok (.agg XC) u) := fun u => by rw [← h2, ← h3, ← hC]; exact build_bRP (rootK_is 3) (rootK_is 2) u
  have HYA : Hid (∀ u, (Instr.build 41 #[(0, .agg XA), (1, .int .i64 (-1)), (2, .int .i64 1)]).run Try.prog u = .ok (.agg YA) u) := fun u => by rw [← hA, ← hYA]; exact build_ndC chA (-1) 1 chA_ok u
  have HYB : Hid (∀ u, (Instr.build 41 #[(0, .agg XB)]).run Try.prog u = .ok (.agg YB) u) := fun u => by rw [← hB, ← hYB]; exact build_ndB chB chB_ok u
  have HYC : Hid (∀ u, (Instr.build 41 #[(0, .agg XC), (1, .int .i64 1)]).run Try.prog u = .ok (.agg YC) u) := fun u => by rw [← hC, ← hYC]; exact build_ndA chC 1 chC_ok u
  obtain ⟨RW, hRW⟩ : ∃ z, (rowsL (ndX ch3)).toArray = z := ⟨_, rfl⟩
  have HBS : Hid (∀ u, (Instr.buildSlice 23 3 #[(0, .agg YA), (1, .agg YB), (2, .agg YC)]).run Try.prog u = .ok (.slice (some ⟨u.heap.size, 0, none⟩) 3 3) (u.alloc (.cells RW 41))) := fun u => by
    rw [← hYA, ← hYB, ← hYC, ← hRW]
    exact bs_nodes ch3_oks (by simp [ch3]) (by simp [ch3]) u
  have HNN : Hid (∀ u : World, NodesV (u.alloc (.cells RW 41)) (.slice (some ⟨u.heap.size, 0, none⟩) 3 3) ch3) := fun u => by rw [← hRW]; exact new_nodes ch3_oks (by simp [ch3]) u
  have hi1 : (Try.prog.info? 25).map (·.size) = some 1 := by kernel_rfl
  have HZ : Hid (Blk (w.alloc (.cells #[.slice none 0 0] 25)) w.heap.size #[.slice none 0 0] ∧ Below w.heap.size w (w.alloc (.cells #[.slice none 0 0] 25))) := ⟨Blk.new rfl, (Below.refl _ _).alloc (Nat.le_refl _) _⟩
  clear h1 h2 h3 hA hB hC hYA hYB hYC hRW
  go_enter Try.func31, Try.ntmps31
  go_wp2_with (first
    | (go_at_call_of 25 (Value.int IntKind.i64 1); refine (HK1.out _).mono ?_; rintro e w1 ⟨rfl, hb1⟩; have HZ := Lib.hid (And.intro (HZ.out.1.call hb1) (HZ.out.2.trans (hb1.mono HZ.out.2.size))); clear hb1)
    | (go_at_call_of 25 (Value.int IntKind.i64 2); refine (HK2.out _).mono ?_; rintro e w1 ⟨rfl, hb1⟩; have HZ := Lib.hid (And.intro (HZ.out.1.call hb1) (HZ.out.2.trans (hb1.mono HZ.out.2.size))); clear hb1)
    | (go_at_call_of 25 (Value.int IntKind.i64 3); refine (HK3.out _).mono ?_; rintro e w1 ⟨rfl, hb1⟩; have HZ := Lib.hid (And.intro (HZ.out.1.call hb1) (HZ.out.2.trans (hb1.mono HZ.out.2.size))); clear hb1)
    | ((with_reducible refine at_build (some 2) ?_); refine wpList_build_g 39 _ rfl #[(2, .agg R1.toArray)] (by simp [Act.eval, Act.put]) (.agg XA) (HXA.out _) rfl ?_)
    | ((with_reducible refine at_build (some 3) ?_); refine wpList_build_g 41 _ rfl #[(0, .agg XA), (1, .int .i64 (-1)), (2, .int .i64 1)] (by simp [Act.eval, Act.put]) (.agg YA) (HYA.out _) rfl ?_)
    | ((with_reducible refine at_build (some 6) ?_); refine wpList_build_g 39 _ rfl #[(2, .agg R2.toArray), (3, .agg R1.toArray), (1, .int .u64 1)] (by simp [Act.eval, Act.put]) (.agg XB) (HXB.out _) rfl ?_)
    | ((with_reducible refine at_build (some 7) ?_); refine wpList_build_g 41 _ rfl #[(0, .agg XB)] (by simp [Act.eval, Act.put]) (.agg YB) (HYB.out _) rfl ?_)
    | ((with_reducible refine at_build (some 10) ?_); refine wpList_build_g 39 _ rfl #[(2, .agg R3.toArray), (3, .agg R2.toArray), (1, .int .u64 2)] (by simp [Act.eval, Act.put]) (.agg XC) (HXC.out _) rfl ?_)
    | ((with_reducible refine at_build (some 11) ?_); refine wpList_build_g 41 _ rfl #[(0, .agg XC), (1, .int .i64 1)] (by simp [Act.eval, Act.put]) (.agg YC) (HYC.out _) rfl ?_)
    | ((with_reducible refine at_buildSliceE (some 12) ?_); refine wpList_buildSliceE rfl 23 3 _ rfl #[(0, .agg YA), (1, .agg YB), (2, .agg YC)] (by simp [Act.eval, Act.put]) _ (HBS.out _) ?_; have HN2 := Lib.hid (HNN.out w1); have HAL : Hid (Below w1.heap.size w1 (w1.alloc (.cells RW 41))) := (Below.refl _ _).alloc (Nat.le_refl _) _; have HG : Hid (w.heap.size < w1.heap.size) := HZ.out.1.lt; have HZ := Lib.hid (And.intro (HZ.out.1.call HAL.out) (HZ.out.2.trans (HAL.out.mono HZ.out.2.size))); obtain ⟨bg, hbg⟩ : ∃ x, w1.heap.size = x := ⟨_, rfl⟩; rw [hbg] at HN2 HG ⊢; obtain ⟨w2, hw2⟩ : ∃ x, w1.alloc (.cells RW 41) = x := ⟨_, rfl⟩; rw [hw2] at HN2 HZ ⊢; clear HAL hw2 hbg)
    | ((with_reducible refine at_build (some 13) ?_); refine wpList_build_g 25 _ rfl #[(0, .slice (some ⟨bg, 0, none⟩) 3 3)] (by simp [Act.eval, Act.put]) (.agg #[.slice (some ⟨bg, 0, none⟩) 3 3]) (b_tree _ _ _ _) rfl ?_)
    | ((with_reducible refine at_store (.tmp 0) ?_); refine wpList_store_blk rfl 25 (.tmp 0) _ rfl w.heap.size #[.slice (some ⟨bg, 0, none⟩) 3 3] rfl rfl #[.slice none 0 0] HZ.out.1 rfl hi1 (by simp [Value.oneCell']) ?_; intro w3 U3 B3; have HR9 := Lib.hid B3; have HB9 := Lib.hid (U3.below HZ.out.2 (Nat.le_refl _)); have HN9 : Hid (NodesV w3 (.slice (some ⟨bg, 0, none⟩) 3 3) ch3) := NodesV.grownOff HN2.out (upd_grown U3) (fun z l c e h => by cases e; have := HG.out; show bg ≠ _; omega); clear U3 B3))
  exact bodyPost_ret (res_cellB rfl rfl HR9.out Try.underlying25 rfl hi1) rfl ⟨_, rfl, HN9.out, (fun a n c e => by cases e; exact Nat.le_refl _), HB9.out⟩

theorem shape3 {w : World} {v : Value} {ns : List NdD} (h : NodesV w v ns) {n : Nat} (hn : ns.length = n) : ∃ a c, v = .slice a n c := by
  obtain ⟨a, c, e, _⟩ := h.shape
  exact ⟨a, c, by rw [← hn]; exact e⟩

set_option maxHeartbeats 16000000 in
theorem awake16_any (w : World) : Calls Try.prog 12 #[] w fun e w' => e = .returned (.bool true) ∧ Below w.heap.size w w' := by
  have HCH := Lib.hid chain_any
  have HRA : Hid (∀ v u, NodesV u v ch3 → Calls Try.prog 19 #[.agg #[v], .int .i64 1] u (SetE (ch3r, 0) u)) := fun v u hu => by rw [← ch3_rai]; exact crai_any ch3 ch3_ok (by decide) 1 (by omega) v u hu
  have HCO : Hid (∀ v u, NodesV u v ch3 → Calls Try.prog 20 #[.agg #[v], .int .i64 0] u (SetE ([], 21) u)) := fun v u hu => by rw [← ch3_con]; exact ccon_any ch3 ch3_ok (by decide) 0 v u hu
  have HVA : Hid (∀ v u, NodesV u v ch3 → CapOK v → Calls Try.prog 10 #[.agg #[v]] u fun e w' => e = .returned (.int .i64 0) ∧ Below u.heap.size u w') := fun v u hu hc => by rw [← ch3_clo]; exact cclo_any v ch3 u hu hc
  unfold SetE at HRA HCO
  have hi1 : (Try.prog.info? 25).map (·.size) = some 1 := by kernel_rfl
  obtain ⟨hz1, hst1⟩ := zero_array (P := Try.prog) (t := 25) (n := 1) #[.slice none 0 0] (by kernel_rfl) rfl (by kernel_rfl)
  clear hst1
  go_enter Try.func12, Try.ntmps12
  go_upto_region 2 with (first
    | (go_at_call 31; refine (HCH.out _).mono ?_; rintro e w1 ⟨v1, rfl, hn1, hc1, hb1⟩; obtain ⟨a1, c1, rfl⟩ := shape3 hn1 (n := 3) rfl; have HN1 := Lib.hid hn1; have HB1 := Lib.hid hb1; clear hn1 hc1 hb1)
    | (go_at_call 19; refine (HRA.out _ _ HN1.out).mono ?_; rintro e w2 ⟨v2, rfl, hn2, hc2, hw2, hb2⟩; obtain ⟨a2, c2, rfl⟩ := shape3 hn2 (n := 3) rfl; have HN2 := Lib.hid hn2; have HB2 := Lib.hid (HB1.out.trans (hb2.mono HB1.out.size)); clear hn2 hc2 hw2 hb2)
    | ((with_reducible refine at_store (.tmp 1) ?_); refine wpList_store_blk rfl 25 (.tmp 1) _ rfl w2.heap.size #[.slice a2 3 c2] rfl rfl #[.slice none 0 0] (Blk.new rfl) rfl hi1 (by simp [Value.oneCell']) ?_; intro w3 U3 B3; have hb3 := U3.below ((Below.refl w2.heap.size w2).alloc (Nat.le_refl _) (.cells #[.slice none 0 0] 25)) (Nat.le_refl _); have S3 : Hid (AnS w w2.heap.size (.slice a2 3 c2) ch3r w3) := ⟨B3, HN2.out.call hb3, HB2.out.trans (hb3.mono HB2.out.size)⟩; clear U3 B3 hb3))
  obtain ⟨bt, hbt⟩ : ∃ x, w2.heap.size = x := ⟨_, rfl⟩
  rw [hbt] at S3 ⊢
  clear hbt HN1 HN2 HB1 HB2
  (try simp only [Act.put])
  go_upto_region 3 with (first
    | (go_at_call 31; refine (HCH.out _).mono ?_; rintro e w4 ⟨v4, rfl, hn4, hc4, hb4⟩; obtain ⟨a4, c4, rfl⟩ := shape3 hn4 (n := 3) rfl; have HN4 := Lib.hid hn4; have S4 := Lib.hid (S3.out.call hb4); clear hn4 hc4 hb4)
    | (go_at_call 20; refine (HCO.out _ _ HN4.out).mono ?_; rintro e w5 ⟨v5, rfl, hn5, hc5, hw5, hb5⟩; obtain ⟨a5, c5, rfl⟩ := shape3 hn5 (n := 0) rfl; have S5 := Lib.hid (S4.out.call hb5); clear hn5 hc5 hw5 hb5)
    | ((with_reducible refine at_store (.tmp 3) ?_); refine wpList_store_blk rfl 25 (.tmp 3) _ rfl w5.heap.size #[.slice a5 0 c5] rfl rfl #[.slice none 0 0] (Blk.new rfl) rfl hi1 (by simp [Value.oneCell']) ?_; intro w6 U6 B6; have hb6 := U6.below ((Below.refl w5.heap.size w5).alloc (Nat.le_refl _) (.cells #[.slice none 0 0] 25)) (Nat.le_refl _); have S6 := Lib.hid (S5.out.call hb6); clear U6 B6 hb6))
  obtain ⟨b, off, rfl, hl9, hbb, hna, _⟩ := S6.out.n.elem (i := 1) (by decide)
  obtain ⟨b', off', e', hl8, hb8, hnb, _⟩ := S6.out.n.elem (i := 2) (by decide)
  cases e'
  have HC0 := Lib.hid (S6.out.t.cell 0)
  have HC1 : Hid (w6.cell? ⟨b, off + 1 * 240 + 239, none⟩ = some (.int .i64 1)) := hna.st
  have HC2 : Hid (w6.cell? ⟨b, off + 2 * 240 + 239, none⟩ = some (.int .i64 0)) := hnb.st
  clear hna hnb hl9 hl8
  (try simp only [Act.put])
  go_wp2_with (first
    | ((with_reducible refine at_load (.tmp 18) ?_); refine wpList_load_1 23 (.tmp 18) rfl bt 0 (.slice (some ⟨b, off, none⟩) 3 c2) HC0.out rfl _ Try.underlying23 rfl rfl ?_)
    | ((with_reducible refine at_load (.tmp 24) ?_); refine wpList_load_1 23 (.tmp 24) rfl bt 0 (.slice (some ⟨b, off, none⟩) 3 c2) HC0.out rfl _ Try.underlying23 rfl rfl ?_)
    | ((with_reducible refine at_load (.tmp 27) ?_); refine wpList_load_1 3 (.tmp 27) rfl b (off + 1 * 240 + 239) (.int .i64 1) HC1.out rfl _ Try.underlying3 rfl rfl ?_)
    | ((with_reducible refine at_load (.tmp 32) ?_); refine wpList_load_1 23 (.tmp 32) rfl bt 0 (.slice (some ⟨b, off, none⟩) 3 c2) HC0.out rfl _ Try.underlying23 rfl rfl ?_)
    | ((with_reducible refine at_load (.tmp 35) ?_); refine wpList_load_1 3 (.tmp 35) rfl b (off + 2 * 240 + 239) (.int .i64 0) HC2.out rfl _ Try.underlying3 rfl rfl ?_)
    | (go_at_call 31; refine (HCH.out _).mono ?_; rintro e w7 ⟨v7, rfl, hn7, hc7, hb7⟩; obtain ⟨a7, c7, rfl⟩ := shape3 hn7 (n := 3) rfl; have HN7 := Lib.hid hn7; have HC7 := Lib.hid hc7; have S7 := Lib.hid (S6.out.call hb7); clear hn7 hc7 hb7)
    | (go_at_call 10; refine (HVA.out _ _ HN7.out HC7.out).mono ?_; rintro e w8 ⟨rfl, hb8⟩; have S8 := Lib.hid (S7.out.call hb8); clear hb8))
  go_ret
  exact ⟨rfl, S8.out.b⟩

/-- A tree in a variable. -/
structure TwB (u : World) (b : Nat) (v : Value) (ns : List NdD) : Prop where
  t : Blk u b #[v]
  n : NodesV u v ns

theorem TwB.call {u u' : World} {b : Nat} {v : Value} {ns : List NdD} (h : TwB u b v ns) (hb : Below u.heap.size u u') : TwB u' b v ns := ⟨h.t.call hb, h.n.call hb⟩
end

end Go.Proofs.Ytdmjpmigejpkmaa
