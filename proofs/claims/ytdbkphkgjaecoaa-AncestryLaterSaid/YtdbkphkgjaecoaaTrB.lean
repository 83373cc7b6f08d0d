/- The reference's isStatus, New, Insert of trees. -/
import Derived.Test.YtdbkphkgjaecoaaTrA
import Derived.Test.YtdbkphkgjaecoaaRt
set_option linter.unusedVariables false

set_option linter.unusedSimpArgs false
namespace Go.Proofs.Ytdbkphkgjaecoaa
open Go.RowKit

set_option maxRecDepth 100000

theorem status_any (n : Int) (w : World) :
    Calls Try.prog 33 #[.int .i64 n] w fun e w' => e = .returned (.bool (decide (0 ≤ n ∧ n ≤ 2))) ∧ Below w.heap.size w w' := by
  by_cases h0 : 0 ≤ n
  · by_cases h1 : n ≤ 2
    · have hq : decide (0 ≤ n ∧ n ≤ 2) = true := decide_eq_true ⟨h0, h1⟩
      rw [hq]
      clear hq
      go_enter Try.func33, Try.ntmps33
      go_wp2_with fail
      go_ret
      exact ⟨rfl, Below.refl _ _⟩
    · have hq : decide (0 ≤ n ∧ n ≤ 2) = false := decide_eq_false (fun h => h1 h.2)
      rw [hq]
      have h1' : (n ≤ 2) = False := eq_false h1
      clear hq h1
      go_enter Try.func33, Try.ntmps33
      go_wp2_with fail
      go_ret
      exact ⟨rfl, Below.refl _ _⟩
  · have hq : decide (0 ≤ n ∧ n ≤ 2) = false := decide_eq_false (fun h => h0 h.1)
    rw [hq]
    have h0' : (0 ≤ n) = False := eq_false h0
    clear hq h0
    go_enter Try.func33, Try.ntmps33
    go_wp2_with fail
    go_ret
    exact ⟨rfl, Below.refl _ _⟩

theorem build_nd (x : BkD) (up st : Int) (hx : x.ok) (u : World) : (Instr.build 51 #[(0, .agg (flatP x.parts)), (1, .int .i64 up), (2, .int .i64 st)]).run Try.prog u = .ok (.agg (⟨x, up, st⟩ : NdD).cells.toArray) u := by
  have hl := BkD.flen hx
  refine build_struct (zero := flatP [zeBkP.flatten, [.int .i64 0], [.int .i64 0]]) (fun w => by kernel_rfl) Try.underlying51 (places := #[(0, 238), (238, 1), (239, 1)]) (fun w => by kernel_rfl) ?_ u
  show Instr.fill _ (flatP [zeBkP.flatten, [.int .i64 0], [.int .i64 0]]) [(0, .agg (flatP x.parts)), (1, .int .i64 up), (2, .int .i64 st)] = _
  rw [fill_part 0 zeBkP.flatten x.parts.flatten rfl rfl (by rw [hl]; rfl) rfl (by rw [hl]; rfl), fill_part (i := 1) (o := 238) 1 [.int .i64 0] [.int .i64 up] rfl rfl rfl (by simp [offP, hl]) rfl, fill_part (i := 2) (o := 239) 2 [.int .i64 0] [.int .i64 st] rfl rfl rfl (by simp [offP, hl]) rfl]
  unfold Instr.fill
  simp [flatP, NdD.cells]

theorem bz_tree (u : World) : (Instr.build 25 #[]).run Try.prog u = .ok (.agg #[.slice none 0 0]) u := by kernel_rfl

theorem b_tree (a : Option Addr) (n c : Nat) (u : World) : (Instr.build 25 #[(0, .slice a n c)]).run Try.prog u = .ok (.agg #[.slice a n c]) u := by kernel_rfl

theorem bel_node {X : Array Value} (hX : X.size = 240) (u : World) : (Instr.buildSlice 23 1 #[(0, .agg X)]).run Try.prog u = .ok (.slice (some ⟨u.heap.size, 0, none⟩) 1 1) (u.alloc (.cells X 51)) :=
  buildEl (P := Try.prog) (t := 23) (e := 51) (Z := flatP (zeBkP ++ [[.int .i64 0], [.int .i64 0]])) (X := X) (sz := 240) Try.underlying23 (fun w => by kernel_rfl) (by kernel_rfl) (by rfl) hX (by omega) (by omega) u

/-- One node in a block of its own. -/
theorem nodes_one {w : World} {g : Nat} {d : NdD} (h : Blk w g d.cells.toArray) (hd : d.ok) : NodesV w (.slice (some ⟨g, 0, none⟩) 1 1) [d] := by
  refine ⟨_, 1, rfl, by unfold maxLen; simp, .inr ⟨g, 0, rfl, h.lt, [d.cells.toArray], ?_, rfl, ?_⟩⟩
  · have := h.rng
    simpa [rowsL] using this
  · intro p hp
    simp only [List.zip_cons_cons, List.zip_nil_right, List.mem_singleton] at hp
    rw [hp]; exact ⟨rfl, hd⟩

set_option maxHeartbeats 4000000 in
theorem newt_any (x : BkD) (st : Int) (w : World) (hx : x.ok) (hst : -9223372036854775808 ≤ st ∧ st ≤ 9223372036854775807) :
    Calls Try.prog 24 #[.agg (flatP x.parts), .int .i64 st] w fun e w' => ∃ v, e = .returned (.agg #[v]) ∧ NodesV w' v [⟨x, -1, st⟩] ∧ New w.heap.size v ∧ CapOK v ∧ Below w.heap.size w w' := by
  have hok : (⟨x, -1, st⟩ : NdD).ok := ⟨hx, by show (-9223372036854775808 : Int) ≤ -1 ∧ (-1 : Int) ≤ _; omega, hst⟩
  have HN := Lib.hid (fun u => build_nd x (-1) st hx u)
  obtain ⟨d, hd⟩ : ∃ d : NdD, Hid ((⟨x, -1, st⟩ : NdD) = d) := ⟨_, Lib.hid rfl⟩
  rw [hd.out] at HN hok ⊢
  obtain ⟨Y, hY⟩ : ∃ Y, Hid (d.cells.toArray = Y) := ⟨_, Lib.hid rfl⟩
  have hsY : Hid (Y.size = 240) := by show Y.size = 240; rw [← hY.out, List.size_toArray, NdD.len hok]
  have hsX : (flatP x.parts).size = 238 := by rw [flatP_size, BkD.flen hx]
  have HOK := Lib.hid hok
  rw [hY.out] at HN
  obtain ⟨X, hX⟩ : ∃ X, flatP x.parts = X := ⟨_, rfl⟩
  rw [hX] at HN hsX ⊢
  have hiX : (Try.prog.info? 49).map (·.size) = some X.size := by rw [hsX]; kernel_rfl
  have hi1 : (Try.prog.info? 25).map (·.size) = some 1 := by kernel_rfl
  obtain ⟨hz1, hst1⟩ := zero_array (P := Try.prog) (t := 25) (n := 1) #[.slice none 0 0] (by kernel_rfl) rfl (by kernel_rfl)
  have HBA := Lib.hid (((Below.refl w.heap.size w).alloc (Nat.le_refl _) (.cells X 49)).alloc (by simp) (.cells #[.slice none 0 0] 25))
  have HX : Hid (Blk ((w.alloc (.cells X 49)).alloc (.cells #[.slice none 0 0] 25)) w.heap.size X) := (Blk.new rfl).alloc _
  have HZ : Hid (Blk ((w.alloc (.cells X 49)).alloc (.cells #[.slice none 0 0] 25)) (w.heap.size + 1) #[.slice none 0 0]) := Blk.new (by simp)
  clear hX hx hok hst1
  go_enter Try.func24, Try.ntmps24
  go_wp2_with (first
    | ((with_reducible refine at_load (.tmp 2) ?_); refine wpList_load_g 49 (.tmp 2) rfl w.heap.size rfl X _ HX.out Try.underlying49 rfl hiX rfl ?_)
    | ((with_reducible refine at_build (some 7) ?_); refine wpList_build_g 51 _ rfl #[(0, .agg X), (1, .int .i64 (-1)), (2, .int .i64 st)] (by simp [Act.eval, Act.put]) (.agg Y) (HN.out _) rfl ?_)
    | ((with_reducible refine at_buildSliceE (some 8) ?_); refine wpList_buildSliceE rfl 23 1 _ rfl #[(0, .agg Y)] (by simp [Act.eval, Act.put]) _ (bel_node hsY.out _) ?_)
    | ((with_reducible refine at_build (some 9) ?_); refine wpList_build_g 25 _ rfl #[(0, .slice (some ⟨((w.alloc (.cells X 49)).alloc (.cells #[.slice none 0 0] 25)).heap.size, 0, none⟩) 1 1)] (by simp [Act.eval, Act.put]) (.agg #[.slice (some ⟨((w.alloc (.cells X 49)).alloc (.cells #[.slice none 0 0] 25)).heap.size, 0, none⟩) 1 1]) (b_tree _ _ _ _) rfl ?_)
    | ((with_reducible refine at_store (.tmp 4) ?_); refine wpList_store_blk rfl 25 (.tmp 4) _ rfl (w.heap.size + 1) #[.slice (some ⟨((w.alloc (.cells X 49)).alloc (.cells #[.slice none 0 0] 25)).heap.size, 0, none⟩) 1 1] rfl rfl #[.slice none 0 0] (HZ.out.alloc _) rfl hi1 (by simp [Value.oneCell']) ?_; intro w5 U5 B5; have HR5 := Lib.hid B5; have HU5 := Lib.hid U5; clear U5 B5))
  have hb5 : Below w.heap.size w w5 := HU5.out.below (HBA.out.alloc HBA.out.size (.cells Y 51)) (by omega)
  have hYb : Blk w5 ((w.alloc (.cells X 49)).alloc (.cells #[.slice none 0 0] 25)).heap.size d.cells.toArray := by
    rw [hY.out]
    exact HU5.out.blk (Blk.new rfl) (by simp)
  refine bodyPost_ret (res_cellB rfl rfl HR5.out Try.underlying25 rfl hi1) rfl ⟨_, rfl, nodes_one hYb HOK.out, ?_, (fun a n c e => by cases e; omega), hb5⟩
  intro z l c e _
  cases e
  simp
  omega

/-- What Insert makes of a tree. -/
def slotAt (ns : List NdD) (i : Int) : Int := ((ns[i.toNat]?).map (fun d => d.b.slot)).getD 0

def insT (ns : List NdD) (x : BkD) (st : Int) : List NdD × Int :=
  if ¬ (0 ≤ st ∧ st ≤ 2) then ([], 2) else if 0 ≤ findN ns x.root then ([], 9) else if findN ns x.parent < 0 then ([], 10) else if x.slot ≤ slotAt ns (findN ns x.parent) then ([], 14) else if 4096 ≤ ns.length then ([], 11) else (ns ++ [⟨x, findN ns x.parent, st⟩], 0)

/-- The row behind a slice of nodes. -/
theorem NodesV.row {w : World} {a : Option Addr} {m cap : Nat} {ns : List NdD} (h : NodesV w (.slice a m cap) ns) :
    ∃ Xs, (∀ P u, AllEl NdEl P u Xs ns) ∧ (ns.length = 0 ∨ ∃ b off, a = some ⟨b, off, none⟩ ∧ b < w.heap.size ∧ w.rangeAt b off (rowsL Xs)) := by
  obtain ⟨a', cap', e, hl, hr⟩ := h
  cases e
  rcases hr with h0 | ⟨b, off, rfl, hlt, Xs, h1, h2⟩
  · obtain rfl := List.eq_nil_of_length_eq_zero h0
    exact ⟨[], fun P u => AllEl.nil _ _, .inl rfl⟩
  · exact ⟨Xs, fun P u => h2.imp fun X d hX => hX, .inr ⟨b, off, rfl, hlt, h1⟩⟩

theorem row_at {w u : World} {a : Option Addr} {n : Nat} {Ys : List (Array Value)} (h : n = 0 ∨ ∃ b off, a = some ⟨b, off, none⟩ ∧ b < w.heap.size ∧ w.rangeAt b off (rowsL Ys)) (hb : Below w.heap.size w u) : n = 0 ∨ ∃ b off, a = some ⟨b, off, none⟩ ∧ u.rangeAt b off (rowsL Ys) := by
  rcases h with h | ⟨b, off, e, hlt, hr⟩
  · exact .inl h
  · exact .inr ⟨b, off, e, Below.rng hb hlt hr⟩

theorem OwnEl.newEl {α : Type} {sz : Nat} {El : (Value → Prop) → World → Array Value → α → Prop} {e : TypeId} {w : World} {B : Nat} {v : Value} {ds : List α} (h : OwnEl El e sz w B v ds) : New B v := by
  obtain ⟨Xs, h3, _⟩ := h
  intro z l c e' _
  rcases h3.2 with ⟨rfl, _⟩ | ⟨s, cap, cur, rfl, hb, _⟩
  · cases e'
  · cases e'; exact hb

/-- The variables of Insert. -/
structure InsS (w : World) (T X Z : Array Value) (u : World) : Prop where
  t : Blk u w.heap.size T
  x : Blk u (w.heap.size + 1) X
  z : Blk u (w.heap.size + 2) Z
  b : Below w.heap.size w u

structure InsR (w : World) (T X : Array Value) (u : World) : Prop where
  t : Blk u w.heap.size T
  x : Blk u (w.heap.size + 1) X
  b : Below w.heap.size w u

theorem InsS.r {w u : World} {T X Z : Array Value} (h : InsS w T X Z u) : InsR w T X u := ⟨h.t, h.x, h.b⟩

theorem InsS.call {w u u' : World} {T X Z : Array Value} (h : InsS w T X Z u) (hb : Below u.heap.size u u') : InsS w T X Z u' := ⟨h.t.call hb, h.x.call hb, h.z.call hb, h.b.trans (hb.mono h.b.size)⟩

theorem grown_none {w w' : World} (h : w.grownBy w' none) : Below w.heap.size w w' := ⟨h.os, h.tape, h.output, h.size, fun k hk => h.block k hk (by simp)⟩

/-- What Insert promises. -/
def InsTE (ns : List NdD) (x : BkD) (st : Int) (w : World) (e : Ending) (w' : World) : Prop :=
  ∃ v', e = .returned (.tuple #[.agg #[v'], .int .i64 (insT ns x st).2]) ∧ NodesV w' v' (insT ns x st).1 ∧ New w.heap.size v' ∧ CapOK v' ∧ Below w.heap.size w w'

theorem nodes_nil (w : World) : NodesV w (.slice none 0 0) [] := ⟨none, 0, rfl, Nat.zero_le _, .inl rfl⟩

set_option maxHeartbeats 16000000 in
theorem insn_any (v : Value) (ns : List NdD) (x : BkD) (st : Int) (w : World) (hN : NodesV w v ns) (hx : x.ok) (hst : -9223372036854775808 ≤ st ∧ st ≤ 9223372036854775807) :
    Calls Try.prog 27 #[.agg #[v], .agg (flatP x.parts), .int .i64 st] w (InsTE ns x st w) := by
  obtain ⟨a, cap, rfl, hmx⟩ := hN.shape
  unfold maxLen at hmx
  have HN := Lib.hid hN
  have HX := Lib.hid hx
  have HST := Lib.hid hst
  have HFR := Lib.hid (fun u (hu : Below w.heap.size w u) => find_any _ ns x.root u (hN.call hu) hx.2.2.2.1)
  have HFP := Lib.hid (fun u (hu : Below w.heap.size w u) => find_any _ ns x.parent u (hN.call hu) hx.2.2.2.2.1)
  have HSS := Lib.hid (fun u => status_any st u)
  have hsX : (flatP x.parts).size = 238 := by rw [flatP_size, BkD.flen hx]
  have HBK : Hid (∀ u b, Blk u b (flatP x.parts) → BkAt u b 0 x) := fun u b hu => bk_at (Blk.rng hu) hx
  obtain ⟨X, hX⟩ : ∃ X, flatP x.parts = X := ⟨_, rfl⟩
  rw [hX] at HBK hsX ⊢
  have HXE := Lib.hid hX
  have hiX : (Try.prog.info? 49).map (·.size) = some X.size := by rw [hsX]; kernel_rfl
  have hi1 : (Try.prog.info? 25).map (·.size) = some 1 := by kernel_rfl
  have hir : (Try.prog.info? 41).map (·.size) = some (bytesL x.root).length := by rw [bytesL_len hx.2.2.2.1]; kernel_rfl
  have hip : (Try.prog.info? 41).map (·.size) = some (bytesL x.parent).length := by rw [bytesL_len hx.2.2.2.2.1]; kernel_rfl
  obtain ⟨hz1, hst1⟩ := zero_array (P := Try.prog) (t := 25) (n := 1) #[.slice none 0 0] (by kernel_rfl) rfl (by kernel_rfl)
  obtain ⟨m, hm⟩ : ∃ m, Hid (ns.length = m) := ⟨_, Lib.hid rfl⟩
  rw [hm.out] at hmx HFR HFP HN ⊢
  have S0 : Hid (InsS w #[.slice a m cap] X #[.slice none 0 0] (((w.alloc (.cells #[.slice a m cap] 25)).alloc (.cells X 49)).alloc (.cells #[.slice none 0 0] 25))) :=
    ⟨((Blk.new rfl).alloc _).alloc _, (Blk.new (by simp)).alloc _, Blk.new (by simp), (((Below.refl w.heap.size w).alloc (Nat.le_refl _) (.cells #[.slice a m cap] 25)).alloc (by simp) (.cells X 49)).alloc (by simp; omega) (.cells #[.slice none 0 0] 25)⟩
  obtain ⟨fr, hfr⟩ : ∃ z, findN ns x.root = z := ⟨_, rfl⟩
  obtain ⟨fp, hfp⟩ : ∃ z, findN ns x.parent = z := ⟨_, rfl⟩
  have hfpr := findN_rng ns x.parent
  rw [hfr] at HFR
  rw [hfp] at HFP hfpr
  rw [hm.out] at hfpr
  obtain ⟨R1, h1⟩ : ∃ z, bytesL x.root = z := ⟨_, rfl⟩
  obtain ⟨R2, h2⟩ : ∃ z, bytesL x.parent = z := ⟨_, rfl⟩
  have HB1 := Lib.hid h1
  have HB2 := Lib.hid h2
  rw [h1] at HFR hir
  rw [h2] at HFP hip
  clear hN hx hX hst1 h1 h2
  unfold InsTE
  obtain ⟨res, hres⟩ : ∃ z, insT ns x st = z := ⟨_, rfl⟩
  rw [hres]
  unfold insT at hres
  rw [hfr, hfp, hm.out] at hres
  by_cases hs : ¬ (0 ≤ st ∧ st ≤ 2)
  · skip
    rw [if_pos hs] at hres
    have hqs : Hid (decide (0 ≤ st ∧ st ≤ 2) = false) := decide_eq_false hs
    clear hs
    go_enter Try.func27, Try.ntmps27
    go_wp2_with (first
      | ((with_reducible refine at_build (some 12) ?_); refine wpList_build_g 25 _ rfl #[] (by simp) (.agg #[.slice none 0 0]) (bz_tree _) rfl ?_)
      | ((with_reducible refine at_store (.tmp 6) ?_); refine wpList_store_blk rfl 25 (.tmp 6) _ rfl (w.heap.size + 2) #[.slice none 0 0] rfl rfl #[.slice none 0 0] S1.out.z rfl hi1 (by simp [Value.oneCell']) ?_; intro w9 U9 B9; have HR9 := Lib.hid B9; have HB9 := Lib.hid (U9.below S1.out.b (by omega)); clear U9 B9)
      | (go_at_call 33; refine (HSS.out _).mono ?_; rintro e w1 ⟨rfl, hb1⟩; rw [hqs.out]; have S1 := Lib.hid (S0.out.call hb1); clear hb1)
      | fail)
    exact bodyPost_ret (res_cell_tmp rfl rfl rfl HR9.out Try.underlying25 rfl hi1) rfl ⟨_, by rw [← hres]; rfl, by rw [← hres]; exact nodes_nil _, New.nil _, CapOK.nil, HB9.out⟩
  rw [if_neg hs] at hres
  have hqs : Hid (decide (0 ≤ st ∧ st ≤ 2) = true) := decide_eq_true (Classical.not_not.1 hs)
  clear hs
  by_cases h9 : 0 ≤ fr
  · skip
    rw [if_pos h9] at hres
    have h9' : ¬ fr < 0 := by omega
    go_enter Try.func27, Try.ntmps27
    go_wp2_with (first
      | ((with_reducible refine at_build (some 18) ?_); refine wpList_build_g 25 _ rfl #[] (by simp) (.agg #[.slice none 0 0]) (bz_tree _) rfl ?_)
      | ((with_reducible refine at_store (.tmp 6) ?_); refine wpList_store_blk rfl 25 (.tmp 6) _ rfl (w.heap.size + 2) #[.slice none 0 0] rfl rfl #[.slice none 0 0] S2.out.z rfl hi1 (by simp [Value.oneCell']) ?_; intro w9 U9 B9; have HR9 := Lib.hid B9; have HB9 := Lib.hid (U9.below S2.out.b (by omega)); clear U9 B9)
      | (go_at_call 34; refine (HFR.out _ S1.out.b).mono ?_; rintro e w2 ⟨rfl, hb2⟩; have S2 := Lib.hid (S1.out.call hb2); clear hb2)
      | (go_at_call 33; refine (HSS.out _).mono ?_; rintro e w1 ⟨rfl, hb1⟩; rw [hqs.out]; have S1 := Lib.hid (S0.out.call hb1); clear hb1)
      | ((with_reducible refine at_load (.tmp 14) ?_); refine wpList_load_rng 41 (.tmp 14) rfl (w.heap.size + 1) 67 R1 (by have := (HBK.out _ _ S1.out.x).root; rw [Nat.zero_add, HB1.out] at this; exact this) rfl _ Try.underlying41 rfl hir rfl ?_)
      | ((with_reducible refine at_load (.tmp 3) ?_); refine wpList_load_g 25 (.tmp 3) rfl w.heap.size rfl #[.slice a m cap] _ S1.out.t Try.underlying25 rfl hi1 rfl ?_)
      | fail)
    exact bodyPost_ret (res_cell_tmp rfl rfl rfl HR9.out Try.underlying25 rfl hi1) rfl ⟨_, by rw [← hres]; rfl, by rw [← hres]; exact nodes_nil _, New.nil _, CapOK.nil, HB9.out⟩
  rw [if_neg h9] at hres
  have h9 : (0 ≤ fr) = False := eq_false h9
  by_cases h10 : fp < 0
  · skip
    rw [if_pos h10] at hres
    go_enter Try.func27, Try.ntmps27
    go_wp2_with (first
      | ((with_reducible refine at_load (.tmp 20) ?_); refine wpList_load_rng 41 (.tmp 20) rfl (w.heap.size + 1) 99 R2 (by have := (HBK.out _ _ S2.out.x).parent; rw [Nat.zero_add, HB2.out] at this; exact this) rfl _ Try.underlying41 rfl hip rfl ?_)
      | ((with_reducible refine at_load (.tmp 3) ?_); refine wpList_load_g 25 (.tmp 3) rfl w.heap.size rfl #[.slice a m cap] _ S2.out.t Try.underlying25 rfl hi1 rfl ?_)
      | ((with_reducible refine at_build (some 25) ?_); refine wpList_build_g 25 _ rfl #[] (by simp) (.agg #[.slice none 0 0]) (bz_tree _) rfl ?_)
      | ((with_reducible refine at_store (.tmp 6) ?_); refine wpList_store_blk rfl 25 (.tmp 6) _ rfl (w.heap.size + 2) #[.slice none 0 0] rfl rfl #[.slice none 0 0] S3.out.z rfl hi1 (by simp [Value.oneCell']) ?_; intro w9 U9 B9; have HR9 := Lib.hid B9; have HB9 := Lib.hid (U9.below S3.out.b (by omega)); clear U9 B9)
      | (go_at_call 34; refine (HFP.out _ S2.out.b).mono ?_; rintro e w3 ⟨rfl, hb3⟩; have S3 := Lib.hid (S2.out.call hb3); clear hb3)
      | (go_at_call 34; refine (HFR.out _ S1.out.b).mono ?_; rintro e w2 ⟨rfl, hb2⟩; have S2 := Lib.hid (S1.out.call hb2); clear hb2)
      | (go_at_call 33; refine (HSS.out _).mono ?_; rintro e w1 ⟨rfl, hb1⟩; rw [hqs.out]; have S1 := Lib.hid (S0.out.call hb1); clear hb1)
      | ((with_reducible refine at_load (.tmp 14) ?_); refine wpList_load_rng 41 (.tmp 14) rfl (w.heap.size + 1) 67 R1 (by have := (HBK.out _ _ S1.out.x).root; rw [Nat.zero_add, HB1.out] at this; exact this) rfl _ Try.underlying41 rfl hir rfl ?_)
      | ((with_reducible refine at_load (.tmp 3) ?_); refine wpList_load_g 25 (.tmp 3) rfl w.heap.size rfl #[.slice a m cap] _ S1.out.t Try.underlying25 rfl hi1 rfl ?_)
      | fail)
    exact bodyPost_ret (res_cell_tmp rfl rfl rfl HR9.out Try.underlying25 rfl hi1) rfl ⟨_, by rw [← hres]; rfl, by rw [← hres]; exact nodes_nil _, New.nil _, CapOK.nil, HB9.out⟩
  rw [if_neg h10] at hres
  obtain ⟨k, rfl⟩ : ∃ k : Nat, fp = k := ⟨fp.toNat, by omega⟩
  have h10' : ((k : Int) < 0) = False := eq_false h10
  clear h10
  have hk : k < m := by omega
  have hk' : (k : Int) < m := by omega
  have hkn : k < ns.length := by rw [hm.out]; exact hk
  obtain ⟨b, off, rfl, hlm, hbb, hna, hok⟩ := HN.out.elem hkn
  have hsl : slotAt ns (k : Int) = ns[k].b.slot := by simp [slotAt, List.getElem?_eq_getElem hkn]
  rw [hsl] at hres
  have HSL := Lib.hid hna.bk.slot
  obtain ⟨s1, hs1⟩ : ∃ z, ns[k].b.slot = z := ⟨_, rfl⟩
  obtain ⟨s0, hs0⟩ : ∃ z, x.slot = z := ⟨_, rfl⟩
  rw [hs1] at HSL hres
  rw [hs0] at hres
  have HS0 := Lib.hid hs0
  clear hna hok hsl hs1 hs0 hlm
  by_cases h14 : s0 ≤ s1
  · skip
    rw [if_pos h14] at hres
    go_enter Try.func27, Try.ntmps27
    go_wp2_with (first
      | ((with_reducible refine at_load (.tmp 20) ?_); refine wpList_load_rng 41 (.tmp 20) rfl (w.heap.size + 1) 99 R2 (by have := (HBK.out _ _ S2.out.x).parent; rw [Nat.zero_add, HB2.out] at this; exact this) rfl _ Try.underlying41 rfl hip rfl ?_)
      | ((with_reducible refine at_load (.tmp 3) ?_); refine wpList_load_g 25 (.tmp 3) rfl w.heap.size rfl #[.slice (some ⟨b, off, none⟩) m cap] _ S2.out.t Try.underlying25 rfl hi1 rfl ?_)
      | (go_at_call 34; refine (HFP.out _ S2.out.b).mono ?_; rintro e w3 ⟨rfl, hb3⟩; have S3 := Lib.hid (S2.out.call hb3); clear hb3)
      | (go_at_call 34; refine (HFR.out _ S1.out.b).mono ?_; rintro e w2 ⟨rfl, hb2⟩; have S2 := Lib.hid (S1.out.call hb2); clear hb2)
      | (go_at_call 33; refine (HSS.out _).mono ?_; rintro e w1 ⟨rfl, hb1⟩; rw [hqs.out]; have S1 := Lib.hid (S0.out.call hb1); clear hb1)
      | ((with_reducible refine at_load (.tmp 14) ?_); refine wpList_load_rng 41 (.tmp 14) rfl (w.heap.size + 1) 67 R1 (by have := (HBK.out _ _ S1.out.x).root; rw [Nat.zero_add, HB1.out] at this; exact this) rfl _ Try.underlying41 rfl hir rfl ?_)
      | ((with_reducible refine at_load (.tmp 3) ?_); refine wpList_load_g 25 (.tmp 3) rfl w.heap.size rfl #[.slice (some ⟨b, off, none⟩) m cap] _ S1.out.t Try.underlying25 rfl hi1 rfl ?_)
      | fail)
    refine wp_region_fam2 (by kernel_rfl) (by kernel_rfl) ?_
    intro T F hT hF hG
    have c0 : ∀ t, (F t).cell? ⟨w.heap.size, 0, none⟩ = some (.slice (some ⟨b, off, none⟩) m cap) := fun t => (S3.out.call (hF t)).t.cell 0
    have c1 : ∀ t, (F t).cell? ⟨w.heap.size + 1, 66, none⟩ = some (.int .u64 s0) := fun t => by
      have := (HBK.out _ _ (S3.out.call (hF t)).x).slot
      rw [Nat.zero_add, HS0.out] at this
      exact this
    have c2 : ∀ t, (F t).cell? ⟨b, off + k * 240 + 66, none⟩ = some (.int .u64 s1) := fun t => ((S3.out.call (hF t)).b.cell (p := ⟨b, off + k * 240 + 66, none⟩) hbb).trans HSL.out
    repeat (go_big_quiet_step (fail))
    refine wpQuiet_nil ?_
    rintro _ ⟨t, rfl⟩
    have S4 := Lib.hid (S3.out.call (hF t))
    obtain ⟨w4, hw4⟩ : ∃ u, F t = u := ⟨_, rfl⟩
    rw [hw4] at S4 ⊢
    clear c0 c1 c2 hG hw4 hF hT
    clear t F T
    go_wp2_with (first
      | ((with_reducible refine at_build (some 36) ?_); refine wpList_build_g 25 _ rfl #[] (by simp) (.agg #[.slice none 0 0]) (bz_tree _) rfl ?_)
      | ((with_reducible refine at_store (.tmp 6) ?_); refine wpList_store_blk rfl 25 (.tmp 6) _ rfl (w.heap.size + 2) #[.slice none 0 0] rfl rfl #[.slice none 0 0] S4.out.z rfl hi1 (by simp [Value.oneCell']) ?_; intro w9 U9 B9; have HR9 := Lib.hid B9; have HB9 := Lib.hid (U9.below S4.out.b (by omega)); clear U9 B9)
      | fail)
    exact bodyPost_ret (res_cell_tmp rfl rfl rfl HR9.out Try.underlying25 rfl hi1) rfl ⟨_, by rw [← hres]; rfl, by rw [← hres]; exact nodes_nil _, New.nil _, CapOK.nil, HB9.out⟩
  rw [if_neg h14] at hres
  have h14' : (s0 ≤ s1) = False := eq_false h14
  clear h14
  by_cases h11 : 4096 ≤ m
  · skip
    rw [if_pos h11] at hres
    have h11' : (4096 : Int) ≤ m := by omega
    go_enter Try.func27, Try.ntmps27
    go_wp2_with (first
      | ((with_reducible refine at_load (.tmp 20) ?_); refine wpList_load_rng 41 (.tmp 20) rfl (w.heap.size + 1) 99 R2 (by have := (HBK.out _ _ S2.out.x).parent; rw [Nat.zero_add, HB2.out] at this; exact this) rfl _ Try.underlying41 rfl hip rfl ?_)
      | ((with_reducible refine at_load (.tmp 3) ?_); refine wpList_load_g 25 (.tmp 3) rfl w.heap.size rfl #[.slice (some ⟨b, off, none⟩) m cap] _ S2.out.t Try.underlying25 rfl hi1 rfl ?_)
      | (go_at_call 34; refine (HFP.out _ S2.out.b).mono ?_; rintro e w3 ⟨rfl, hb3⟩; have S3 := Lib.hid (S2.out.call hb3); clear hb3)
      | (go_at_call 34; refine (HFR.out _ S1.out.b).mono ?_; rintro e w2 ⟨rfl, hb2⟩; have S2 := Lib.hid (S1.out.call hb2); clear hb2)
      | (go_at_call 33; refine (HSS.out _).mono ?_; rintro e w1 ⟨rfl, hb1⟩; rw [hqs.out]; have S1 := Lib.hid (S0.out.call hb1); clear hb1)
      | ((with_reducible refine at_load (.tmp 14) ?_); refine wpList_load_rng 41 (.tmp 14) rfl (w.heap.size + 1) 67 R1 (by have := (HBK.out _ _ S1.out.x).root; rw [Nat.zero_add, HB1.out] at this; exact this) rfl _ Try.underlying41 rfl hir rfl ?_)
      | ((with_reducible refine at_load (.tmp 3) ?_); refine wpList_load_g 25 (.tmp 3) rfl w.heap.size rfl #[.slice (some ⟨b, off, none⟩) m cap] _ S1.out.t Try.underlying25 rfl hi1 rfl ?_)
      | fail)
    refine wp_region_fam2 (by kernel_rfl) (by kernel_rfl) ?_
    intro T F hT hF hG
    have c0 : ∀ t, (F t).cell? ⟨w.heap.size, 0, none⟩ = some (.slice (some ⟨b, off, none⟩) m cap) := fun t => (S3.out.call (hF t)).t.cell 0
    have c1 : ∀ t, (F t).cell? ⟨w.heap.size + 1, 66, none⟩ = some (.int .u64 s0) := fun t => by
      have := (HBK.out _ _ (S3.out.call (hF t)).x).slot
      rw [Nat.zero_add, HS0.out] at this
      exact this
    have c2 : ∀ t, (F t).cell? ⟨b, off + k * 240 + 66, none⟩ = some (.int .u64 s1) := fun t => ((S3.out.call (hF t)).b.cell (p := ⟨b, off + k * 240 + 66, none⟩) hbb).trans HSL.out
    repeat (go_big_quiet_step (fail))
    refine wpQuiet_nil ?_
    rintro _ ⟨t, rfl⟩
    have S4 := Lib.hid (S3.out.call (hF t))
    obtain ⟨w4, hw4⟩ : ∃ u, F t = u := ⟨_, rfl⟩
    rw [hw4] at S4 ⊢
    clear c0 c1 c2 hG hw4 hF hT
    clear t F T
    go_wp2_with (first
      | ((with_reducible refine at_load (.tmp 37) ?_); refine wpList_load_1 23 (.tmp 37) rfl w.heap.size 0 (.slice (some ⟨b, off, none⟩) m cap) (S4.out.t.cell 0) rfl _ Try.underlying23 rfl rfl ?_)
      | ((with_reducible refine at_build (some 41) ?_); refine wpList_build_g 25 _ rfl #[] (by simp) (.agg #[.slice none 0 0]) (bz_tree _) rfl ?_)
      | ((with_reducible refine at_store (.tmp 6) ?_); refine wpList_store_blk rfl 25 (.tmp 6) _ rfl (w.heap.size + 2) #[.slice none 0 0] rfl rfl #[.slice none 0 0] S4.out.z rfl hi1 (by simp [Value.oneCell']) ?_; intro w9 U9 B9; have HR9 := Lib.hid B9; have HB9 := Lib.hid (U9.below S4.out.b (by omega)); clear U9 B9)
      | fail)
    exact bodyPost_ret (res_cell_tmp rfl rfl rfl HR9.out Try.underlying25 rfl hi1) rfl ⟨_, by rw [← hres]; rfl, by rw [← hres]; exact nodes_nil _, New.nil _, CapOK.nil, HB9.out⟩
  rw [if_neg h11] at hres
  have h11' : ((4096 : Int) ≤ m) = False := eq_false (by omega)
  go_enter Try.func27, Try.ntmps27
  go_wp2_with (first
    | ((with_reducible refine at_load (.tmp 20) ?_); refine wpList_load_rng 41 (.tmp 20) rfl (w.heap.size + 1) 99 R2 (by have := (HBK.out _ _ S2.out.x).parent; rw [Nat.zero_add, HB2.out] at this; exact this) rfl _ Try.underlying41 rfl hip rfl ?_)
    | ((with_reducible refine at_load (.tmp 3) ?_); refine wpList_load_g 25 (.tmp 3) rfl w.heap.size rfl #[.slice (some ⟨b, off, none⟩) m cap] _ S2.out.t Try.underlying25 rfl hi1 rfl ?_)
    | (go_at_call 34; refine (HFP.out _ S2.out.b).mono ?_; rintro e w3 ⟨rfl, hb3⟩; have S3 := Lib.hid (S2.out.call hb3); clear hb3)
    | (go_at_call 34; refine (HFR.out _ S1.out.b).mono ?_; rintro e w2 ⟨rfl, hb2⟩; have S2 := Lib.hid (S1.out.call hb2); clear hb2)
    | (go_at_call 33; refine (HSS.out _).mono ?_; rintro e w1 ⟨rfl, hb1⟩; rw [hqs.out]; have S1 := Lib.hid (S0.out.call hb1); clear hb1)
    | ((with_reducible refine at_load (.tmp 14) ?_); refine wpList_load_rng 41 (.tmp 14) rfl (w.heap.size + 1) 67 R1 (by have := (HBK.out _ _ S1.out.x).root; rw [Nat.zero_add, HB1.out] at this; exact this) rfl _ Try.underlying41 rfl hir rfl ?_)
    | ((with_reducible refine at_load (.tmp 3) ?_); refine wpList_load_g 25 (.tmp 3) rfl w.heap.size rfl #[.slice (some ⟨b, off, none⟩) m cap] _ S1.out.t Try.underlying25 rfl hi1 rfl ?_)
    | fail)
  refine wp_region_fam2 (by kernel_rfl) (by kernel_rfl) ?_
  intro T F hT hF hG
  have c0 : ∀ t, (F t).cell? ⟨w.heap.size, 0, none⟩ = some (.slice (some ⟨b, off, none⟩) m cap) := fun t => (S3.out.call (hF t)).t.cell 0
  have c1 : ∀ t, (F t).cell? ⟨w.heap.size + 1, 66, none⟩ = some (.int .u64 s0) := fun t => by
    have := (HBK.out _ _ (S3.out.call (hF t)).x).slot
    rw [Nat.zero_add, HS0.out] at this
    exact this
  have c2 : ∀ t, (F t).cell? ⟨b, off + k * 240 + 66, none⟩ = some (.int .u64 s1) := fun t => ((S3.out.call (hF t)).b.cell (p := ⟨b, off + k * 240 + 66, none⟩) hbb).trans HSL.out
  repeat (go_big_quiet_step (fail))
  refine wpQuiet_nil ?_
  rintro _ ⟨t, rfl⟩
  have S4 := Lib.hid (S3.out.call (hF t))
  obtain ⟨w4, hw4⟩ : ∃ u, F t = u := ⟨_, rfl⟩
  rw [hw4] at S4 ⊢
  clear c0 c1 c2 hG hw4 hF hT
  clear t F T
  go_wp2_with (first
    | ((with_reducible refine at_load (.tmp 37) ?_); refine wpList_load_1 23 (.tmp 37) rfl w.heap.size 0 (.slice (some ⟨b, off, none⟩) m cap) (S4.out.t.cell 0) rfl _ Try.underlying23 rfl rfl ?_)
    | fail)
  obtain ⟨Ys, hA, hrow⟩ := HN.out.row
  have HA := Lib.hid hA
  have HRW := Lib.hid hrow
  clear hA hrow
  have SD : Hid (InsS w #[.slice (some ⟨b, off, none⟩) m cap] X #[.slice none 0 0] w4.drew) := S4.out.call ⟨rfl, rfl, rfl, Nat.le_refl _, fun _ _ => rfl⟩
  have hdok : (⟨x, (k : Int), st⟩ : NdD).ok := ⟨HX.out, by show -9223372036854775808 ≤ (k : Int) ∧ (k : Int) ≤ 9223372036854775807; omega, HST.out⟩
  have HND := Lib.hid (fun u => build_nd x (k : Int) st HX.out u)
  obtain ⟨d, hd⟩ : ∃ d : NdD, Hid ((⟨x, (k : Int), st⟩ : NdD) = d) := ⟨_, Lib.hid rfl⟩
  rw [hd.out] at HND hdok
  obtain ⟨Y, hY⟩ : ∃ Y, Hid (d.cells.toArray = Y) := ⟨_, Lib.hid rfl⟩
  have hsY : Hid (Y.size = 240) := by show Y.size = 240; rw [← hY.out, List.size_toArray, NdD.len hdok]
  rw [hY.out, HXE.out] at HND
  have HDOK := Lib.hid hdok
  clear hdok
  refine wp_region_held_drew (S := fun z => InsR w #[.slice (some ⟨b, off, none⟩) m cap] X z) (by kernel_rfl) (SD.out.r) (fun _ => ?_)
  (try simp only [Act.put, List.setIfInBounds_toArray, List.set_cons_zero, List.set_cons_succ])
  refine wpAnyH_take (i := 0) (oi := ⟨some 42, _, _, _, _, _⟩) (v := .pointer (some ⟨w.heap.size, 0, none⟩)) rfl (by kernel_rfl) (by kernel_rfl) (by kernel_rfl) (fun _ _ _ h => h) (Or.inl ⟨by rfl, fun wz hz => ?_⟩) SD.out.r ?_
  · clear hz; go_simp; first | done | with_reducible rfl | rfl
  (try simp only [Act.put, List.setIfInBounds_toArray, List.set_cons_zero, List.set_cons_succ])
  refine held_load1 (oi := ⟨some 43, _, _, _, _, _⟩) 1 rfl (by kernel_rfl) (by kernel_rfl) (by kernel_rfl) (fun _ _ _ _ h => h) rfl 23 (.tmp 42) rfl w.heap.size (0) rfl (.slice (some ⟨b, off, none⟩) m cap) _ (fun u' hu => hu.t.cell 0) Try.underlying23 rfl SD.out.r ?_
  (try simp only [Act.put, List.setIfInBounds_toArray, List.set_cons_zero, List.set_cons_succ])
  refine held_load (oi := ⟨some 45, _, _, _, _, _⟩) 3 rfl (by kernel_rfl) (by kernel_rfl) (by kernel_rfl) (fun _ _ _ _ h => h) rfl 49 (.tmp 4) rfl (w.heap.size + 1) 0 rfl X.toList _ (fun u' hu => hu.x.range) Try.underlying49 rfl (by simpa using hiX) SD.out.r ?_
  simp only [Array.toArray_toList]
  (try simp only [Act.put, List.setIfInBounds_toArray, List.set_cons_zero, List.set_cons_succ])
  refine wpAnyH_take (i := 4) (oi := ⟨some 46, _, _, _, _, _⟩) (v := .int .i64 k) rfl (by kernel_rfl) (by kernel_rfl) (by kernel_rfl) (fun _ _ _ h => h) (Or.inl ⟨by rfl, fun wz hz => ?_⟩) SD.out.r ?_
  · clear hz; go_simp; first | done | with_reducible rfl | rfl
  (try simp only [Act.put, List.setIfInBounds_toArray, List.set_cons_zero, List.set_cons_succ])
  refine wpAnyH_take (i := 5) (oi := ⟨some 47, _, _, _, _, _⟩) (v := .int .i64 st) rfl (by kernel_rfl) (by kernel_rfl) (by kernel_rfl) (fun _ _ _ h => h) (Or.inl ⟨by rfl, fun wz hz => ?_⟩) SD.out.r ?_
  · clear hz; go_simp; first | done | with_reducible rfl | rfl
  (try simp only [Act.put, List.setIfInBounds_toArray, List.set_cons_zero, List.set_cons_succ])
  refine held_build (oi := ⟨some 48, _, _, _, _, _⟩) 6 rfl (by kernel_rfl) (by kernel_rfl) (by kernel_rfl) (fun _ _ _ _ h => h) rfl 51 _ rfl #[(0, .agg X), (1, .int .i64 k), (2, .int .i64 st)] (by simp [Act.eval]) (.agg Y) (HND.out) SD.out.r ?_
  (try simp only [Act.put, List.setIfInBounds_toArray, List.set_cons_zero, List.set_cons_succ])
  refine wpAnyH_ready (rs := [2, 7]) (by kernel_rfl) (by simp) ?_
  refine AllReadyH.cons (o := ⟨some 44, _, _, _, _, _⟩) rfl (fun K hK => ?_) (AllReadyH.cons (o := ⟨some 49, _, _, _, _, _⟩) rfl (fun K hK => ?_) AllReadyH.nil)
  · skip
    refine wp_appEls ndOK Try.underlying23 info_node (by rfl) (by omega) (.const (.slice none 0 0)) (.tmp 43) rfl (w.heap.size + 3) (.slice none 0 0) [] rfl (OwnEl.nil _ _) (some ⟨b, off, none⟩) m cap ns Ys rfl hm.out (row_at HRW.out SD.out.b) (HA.out _ _) (by simp [hm.out]; omega) (by simp [hm.out]; unfold maxLen; omega) (by have := SD.out.z.lt; simp at this ⊢; omega) ?_
    intro v3 w3' ho3 hg3 _
    rw [List.nil_append] at ho3
    have HO3 := Lib.hid ho3
    have HG3 := Lib.hid (grown_none hg3)
    have S5 := Lib.hid (SD.out.call HG3.out)
    clear ho3 hg3
    refine hK.out _ _ (S5.out.r) (fun _ => ?_)
    clear hK K
    (try simp only [Act.put, List.setIfInBounds_toArray, List.set_cons_zero, List.set_cons_succ])
    refine wpAnyH_ready (rs := [7]) (by kernel_rfl) (by simp) ?_
    refine AllReadyH.cons (o := ⟨some 49, _, _, _, _, _⟩) rfl (fun K hK => ?_) AllReadyH.nil
    refine wp_buildSlice 23 1 _ rfl #[(0, .agg Y)] (by simp [Act.eval, Act.put]) _ (bel_node hsY.out w3') ?_
    have hal : Below (w3').heap.size (w3') ((w3').alloc (.cells Y 51)) := (Below.refl _ _).alloc (Nat.le_refl _) _
    have HAL := Lib.hid hal
    clear hal
    have HO6 := Lib.hid (HO3.out.call ndOK HAL.out)
    have S6 := Lib.hid (S5.out.call HAL.out)
    have BY6 : Hid (Blk (w3'.alloc (.cells Y 51)) w3'.heap.size Y) := Blk.new rfl
    refine hK.out _ _ (S6.out.r) (fun _ => ?_)
    clear hK K
    (try simp only [Act.put, List.setIfInBounds_toArray, List.set_cons_zero, List.set_cons_succ])
    refine wpAnyH_ready (rs := [8]) (by kernel_rfl) (by simp) ?_
    refine AllReadyH.cons (o := ⟨some 50, _, _, _, _, _⟩) rfl (fun K hK => ?_) AllReadyH.nil
    refine wp_appEl ndOK Try.underlying23 info_node (by rfl) (by omega) (.tmp 44) (.tmp 49) rfl (w.heap.size + 3) v3 ns rfl HO6.out w3'.heap.size 1 Y d rfl ⟨hY.out.symm, HDOK.out⟩ BY6.out.range (by simp [hm.out]; omega) (by simp [hm.out]; unfold maxLen; omega) (by have := S6.out.z.lt; omega) ?_
    intro v8 w8 ho8 hg8 _
    have HO8 := Lib.hid ho8
    have S8 : Hid (InsS w #[.slice (some ⟨b, off, none⟩) m cap] X #[.slice none 0 0] w8) := (by
      have hne : ∀ j, j < w.heap.size + 3 → some j ≠ v3.ownBlock := fun j hj e => by have := (HO6.out.lt j e.symm).1; omega
      exact ⟨S6.out.t.grown hg8 (hne _ (by omega)), S6.out.x.grown hg8 (hne _ (by omega)), S6.out.z.grown hg8 (hne _ (by omega)), S6.out.b.grown hg8 S6.out.b.size (fun j hj => by have := (HO6.out.lt j hj).1; omega)⟩)
    clear ho8 hg8
    refine hK.out _ _ (S8.out.r) (fun _ => ?_)
    clear hK K
    (try simp only [Act.put, List.setIfInBounds_toArray, List.set_cons_zero, List.set_cons_succ])
    
    obtain ⟨va, vn, vcap, hv8⟩ : ∃ va vn vcap, v8 = .slice va vn vcap := by obtain ⟨p, q, e, _⟩ := HO8.out.shape; exact ⟨p, _, q, e⟩
    rw [hv8] at HO8 ⊢
    clear hv8
    refine held_build (oi := ⟨some 51, _, _, _, _, _⟩) 9 rfl (by kernel_rfl) (by kernel_rfl) (by kernel_rfl) (fun _ _ _ _ h => h) rfl 25 _ rfl #[(0, .slice va vn vcap)] (by simp [Act.eval]) (.agg #[.slice va vn vcap]) (fun u => b_tree va vn vcap u) S8.out.r ?_
    (try simp only [Act.put, List.setIfInBounds_toArray, List.set_cons_zero, List.set_cons_succ])
    refine wpAnyH_ready (rs := [10]) (by kernel_rfl) (by simp) ?_
    refine AllReadyH.cons (o := ⟨none, _, _, _, _, _⟩) rfl (fun K hK => ?_) AllReadyH.nil
    refine wp_store_blk 25 (.tmp 6) _ rfl (w.heap.size + 2) #[.slice va vn vcap] rfl rfl #[.slice none 0 0] S8.out.z rfl hi1 (by simp [Value.oneCell']) ?_
    intro w9 U9 B9
    have HR9 := Lib.hid B9
    have HU9 := Lib.hid U9
    have HB9 := Lib.hid (U9.below S8.out.b (by omega))
    clear U9 B9
    have R9 : Hid (InsR w #[.slice (some ⟨b, off, none⟩) m cap] X w9) := ⟨HU9.out.blk S8.out.t (by omega), HU9.out.blk S8.out.x (by omega), HB9.out⟩
    refine hK.out _ _ (R9.out) (fun _ => ?_)
    clear hK K
    (try simp only [Act.put, List.setIfInBounds_toArray, List.set_cons_zero, List.set_cons_succ])
    refine wpAnyH_ready (rs := [11]) (by kernel_rfl) (by simp) ?_
    refine AllReadyH.cons (o := ⟨some 7, _, _, _, _, _⟩) rfl (fun K hK => ?_) AllReadyH.nil
    go_simp
    refine hK.out _ _ (R9.out) (fun _ => ?_)
    clear hK K
    (try simp only [Act.put, List.setIfInBounds_toArray, List.set_cons_zero, List.set_cons_succ])
    refine wpAnyH_done (by kernel_rfl) ?_ _
    have HO9 := HO8.out.grown ndOK (upd_grown HU9.out) (fun n hn e => by have := (HO8.out.lt n hn).1; cases e; omega) (fun X d h => h)
    go_wp2_with fail
    refine bodyPost_ret (res_cell_tmp rfl rfl rfl HR9.out Try.underlying25 rfl hi1) rfl ⟨_, by rw [← hres]; rfl, ?_, ?_, ?_, HB9.out⟩
    · rw [← hres]
      show NodesV w9 _ (ns ++ [⟨x, (k : Int), st⟩])
      rw [hd.out]
      exact HO9.elV ndOK
    · exact HO8.out.newEl.mono (by omega)
    · intro a n c e
      obtain ⟨a', c', e', _, hle, _⟩ := HO8.out.shape
      rw [e'] at e; cases e; exact hle
  · skip
    refine wp_buildSlice 23 1 _ rfl #[(0, .agg Y)] (by simp [Act.eval, Act.put]) _ (bel_node hsY.out w4.drew) ?_
    have hal : Below (w4.drew).heap.size (w4.drew) ((w4.drew).alloc (.cells Y 51)) := (Below.refl _ _).alloc (Nat.le_refl _) _
    have HAL := Lib.hid hal
    clear hal
    have S5' := Lib.hid (SD.out.call HAL.out)
    have BY5 : Hid (Blk (w4.drew.alloc (.cells Y 51)) w4.drew.heap.size Y) := Blk.new rfl
    refine hK.out _ _ (S5'.out.r) (fun _ => ?_)
    clear hK K
    (try simp only [Act.put, List.setIfInBounds_toArray, List.set_cons_zero, List.set_cons_succ])
    refine wpAnyH_ready (rs := [2]) (by kernel_rfl) (by simp) ?_
    refine AllReadyH.cons (o := ⟨some 44, _, _, _, _, _⟩) rfl (fun K hK => ?_) AllReadyH.nil
    refine wp_appEls ndOK Try.underlying23 info_node (by rfl) (by omega) (.const (.slice none 0 0)) (.tmp 43) rfl (w.heap.size + 3) (.slice none 0 0) [] rfl (OwnEl.nil _ _) (some ⟨b, off, none⟩) m cap ns Ys rfl hm.out (row_at HRW.out S5'.out.b) (HA.out _ _) (by simp [hm.out]; omega) (by simp [hm.out]; unfold maxLen; omega) (by have := S5'.out.z.lt; simp at this ⊢; omega) ?_
    intro v3 w3' ho3 hg3 _
    rw [List.nil_append] at ho3
    have HO3 := Lib.hid ho3
    have HG3 := Lib.hid (grown_none hg3)
    have S5 := Lib.hid (S5'.out.call HG3.out)
    have BY6 := Lib.hid (BY5.out.call HG3.out)
    clear ho3 hg3
    refine hK.out _ _ (S5.out.r) (fun _ => ?_)
    clear hK K
    (try simp only [Act.put, List.setIfInBounds_toArray, List.set_cons_zero, List.set_cons_succ])
    refine wpAnyH_ready (rs := [8]) (by kernel_rfl) (by simp) ?_
    refine AllReadyH.cons (o := ⟨some 50, _, _, _, _, _⟩) rfl (fun K hK => ?_) AllReadyH.nil
    refine wp_appEl ndOK Try.underlying23 info_node (by rfl) (by omega) (.tmp 44) (.tmp 49) rfl (w.heap.size + 3) v3 ns rfl HO3.out w4.drew.heap.size 1 Y d rfl ⟨hY.out.symm, HDOK.out⟩ BY6.out.range (by simp [hm.out]; omega) (by simp [hm.out]; unfold maxLen; omega) (by have := S5.out.z.lt; omega) ?_
    intro v8 w8 ho8 hg8 _
    have HO8 := Lib.hid ho8
    have S8 : Hid (InsS w #[.slice (some ⟨b, off, none⟩) m cap] X #[.slice none 0 0] w8) := (by
      have hne : ∀ j, j < w.heap.size + 3 → some j ≠ v3.ownBlock := fun j hj e => by have := (HO3.out.lt j e.symm).1; omega
      exact ⟨S5.out.t.grown hg8 (hne _ (by omega)), S5.out.x.grown hg8 (hne _ (by omega)), S5.out.z.grown hg8 (hne _ (by omega)), S5.out.b.grown hg8 S5.out.b.size (fun j hj => by have := (HO3.out.lt j hj).1; omega)⟩)
    clear ho8 hg8
    refine hK.out _ _ (S8.out.r) (fun _ => ?_)
    clear hK K
    (try simp only [Act.put, List.setIfInBounds_toArray, List.set_cons_zero, List.set_cons_succ])
    
    obtain ⟨va, vn, vcap, hv8⟩ : ∃ va vn vcap, v8 = .slice va vn vcap := by obtain ⟨p, q, e, _⟩ := HO8.out.shape; exact ⟨p, _, q, e⟩
    rw [hv8] at HO8 ⊢
    clear hv8
    refine held_build (oi := ⟨some 51, _, _, _, _, _⟩) 9 rfl (by kernel_rfl) (by kernel_rfl) (by kernel_rfl) (fun _ _ _ _ h => h) rfl 25 _ rfl #[(0, .slice va vn vcap)] (by simp [Act.eval]) (.agg #[.slice va vn vcap]) (fun u => b_tree va vn vcap u) S8.out.r ?_
    (try simp only [Act.put, List.setIfInBounds_toArray, List.set_cons_zero, List.set_cons_succ])
    refine wpAnyH_ready (rs := [10]) (by kernel_rfl) (by simp) ?_
    refine AllReadyH.cons (o := ⟨none, _, _, _, _, _⟩) rfl (fun K hK => ?_) AllReadyH.nil
    refine wp_store_blk 25 (.tmp 6) _ rfl (w.heap.size + 2) #[.slice va vn vcap] rfl rfl #[.slice none 0 0] S8.out.z rfl hi1 (by simp [Value.oneCell']) ?_
    intro w9 U9 B9
    have HR9 := Lib.hid B9
    have HU9 := Lib.hid U9
    have HB9 := Lib.hid (U9.below S8.out.b (by omega))
    clear U9 B9
    have R9 : Hid (InsR w #[.slice (some ⟨b, off, none⟩) m cap] X w9) := ⟨HU9.out.blk S8.out.t (by omega), HU9.out.blk S8.out.x (by omega), HB9.out⟩
    refine hK.out _ _ (R9.out) (fun _ => ?_)
    clear hK K
    (try simp only [Act.put, List.setIfInBounds_toArray, List.set_cons_zero, List.set_cons_succ])
    refine wpAnyH_ready (rs := [11]) (by kernel_rfl) (by simp) ?_
    refine AllReadyH.cons (o := ⟨some 7, _, _, _, _, _⟩) rfl (fun K hK => ?_) AllReadyH.nil
    go_simp
    refine hK.out _ _ (R9.out) (fun _ => ?_)
    clear hK K
    (try simp only [Act.put, List.setIfInBounds_toArray, List.set_cons_zero, List.set_cons_succ])
    refine wpAnyH_done (by kernel_rfl) ?_ _
    have HO9 := HO8.out.grown ndOK (upd_grown HU9.out) (fun n hn e => by have := (HO8.out.lt n hn).1; cases e; omega) (fun X d h => h)
    go_wp2_with fail
    refine bodyPost_ret (res_cell_tmp rfl rfl rfl HR9.out Try.underlying25 rfl hi1) rfl ⟨_, by rw [← hres]; rfl, ?_, ?_, ?_, HB9.out⟩
    · rw [← hres]
      show NodesV w9 _ (ns ++ [⟨x, (k : Int), st⟩])
      rw [hd.out]
      exact HO9.elV ndOK
    · exact HO8.out.newEl.mono (by omega)
    · intro a n c e
      obtain ⟨a', c', e', _, hle, _⟩ := HO8.out.shape
      rw [e'] at e; cases e; exact hle
end Go.Proofs.Ytdbkphkgjaecoaa
