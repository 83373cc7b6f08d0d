/- Several texts as one: DlA, Smn, DlB, ApA, MgA. -/
import Derived.Test.YtdlbobpglgjhiaaVoA
import Derived.Test.YtdlbobpglgjhiaaS1b
import Derived.Test.YtdlbobpglgjhiaaLt
import Derived.Test.YtdlbobpglgjhiaaZ2
import Derived.Test.YtdlbobpglgjhiaaZ0
import Derived.Test.YtdlbobpglgjhiaaHeld4
import Derived.Deep.CutRange
import Derived.Test.YtdlbobpglgjhiaaOwM
import Derived.Test.YtdlbobpglgjhiaaPas
namespace Go.Proofs.Ytdlbobpglgjhiaa

/-! DlA -/
section
set_option linter.unusedVariables false
set_option linter.unusedSimpArgs false
open Go.RowKit

set_option maxRecDepth 100000

/-- A delta. -/
structure DlD where
  p : Int
  m : Int

def DlD.cells (x : DlD) : List Value := [.int .u64 x.p, .int .u64 x.m]

def DlD.ok (x : DlD) : Prop := (0 ≤ x.p ∧ x.p ≤ 18446744073709551615) ∧ (0 ≤ x.m ∧ x.m ≤ 18446744073709551615)

theorem DlD.one (x : DlD) : ∀ v ∈ x.cells, v.oneCell' = true := by
  intro v hv
  simp only [DlD.cells, List.mem_cons, List.not_mem_nil, or_false] at hv
  rcases hv with rfl | rfl <;> rfl

theorem DlD.inj {x y : DlD} (h : x.cells = y.cells) : x = y := by
  obtain ⟨a, b⟩ := x
  obtain ⟨c, d⟩ := y
  simp only [DlD.cells, List.cons.injEq, Value.int.injEq, true_and, and_true] at h
  obtain ⟨rfl, rfl⟩ := h
  rfl

def zeDl : DlD := ⟨0, 0⟩

theorem info_delta : (Try.prog.info? 74).map (fun i => (i.zero, i.size, i.bytes)) = some (some (.agg zeDl.cells.toArray), zeDl.cells.length, 16) := by kernel_rfl

theorem info_dl (x : DlD) : (Try.prog.info? 74).map (·.size) = some x.cells.length := by show _ = some 2; kernel_rfl

theorem keyLits_dl {d : Nat} {v : DlD} (h : v.ok) : ∃ ls, Try.prog.keyLits (d + 2) 74 v.cells = some ls := by
  refine keyLits_struct Try.underlying74 (by show 2 = _; kernel_rfl) (by kernel_rfl) ?_
  intro f hf
  simp only [List.mem_cons, List.not_mem_nil, or_false] at hf
  rcases hf with rfl | rfl
  · have e : (v.cells.drop 0).take (Try.prog.cellsOf 53) = [.int .u64 v.p] := by
      rw [show Try.prog.cellsOf 53 = 1 by kernel_rfl]; rfl
    show ∃ l, Try.prog.keyLits (d + 1) 53 ((v.cells.drop 0).take (Try.prog.cellsOf 53)) = some l
    rw [e]
    exact keyLits_int Try.underlying53 (wf_of_u64 h.1)
  · have e : (v.cells.drop 1).take (Try.prog.cellsOf 53) = [.int .u64 v.m] := by
      rw [show Try.prog.cellsOf 53 = 1 by kernel_rfl]; rfl
    show ∃ l, Try.prog.keyLits (d + 1) 53 ((v.cells.drop 1).take (Try.prog.cellsOf 53)) = some l
    rw [e]
    exact keyLits_int Try.underlying53 (wf_of_u64 h.2)

/-- '==' of two deltas. -/
theorem eq_dl {c d : DlD} (hc : c.ok) (hd : d.ok) : ∃ r : Bool, (∀ w, Sem.run Try.prog (Op.equalIn 10000 74 (.agg c.cells.toArray) (.agg d.cells.toArray)) w = .ok r w) ∧ (r = true ↔ c = d) := by
  have hf : ∀ {z : DlD}, z.ok → (Value.agg z.cells.toArray).formed Try.prog 74 = true := fun {z} hz => by simp [Value.formed, Try.underlying74, DlD.cells]; kernel_rfl
  obtain ⟨r, h1, h2⟩ := eq_two (m := 2) (m' := 3) (by kernel_rfl) (by kernel_rfl) (by omega) _ _ (hf hc) (hf hd) (by simpa using keyLits_dl (d := 0) hc) (by simpa using keyLits_dl (d := 0) hd)
  exact ⟨r, h1, by rw [h2]; exact ⟨fun h => DlD.inj (by simpa using h), fun e => by rw [e]⟩⟩

theorem eq_dsame {v : DlD} (h : v.ok) (w : World) : Sem.run Try.prog (Op.equalIn 10000 74 (.agg v.cells.toArray) (.agg v.cells.toArray)) w = .ok true w := by
  obtain ⟨r, h1, h2⟩ := eq_dl h h
  rw [h1 w, h2.2 rfl]

/-- An element of a slice of deltas. -/
def DlEl (P : Value → Prop) (w : World) (X : Array Value) (d : DlD) : Prop := X = d.cells.toArray ∧ d.ok

theorem dlOK : ElOK 2 DlEl where
  size := fun h => by rw [h.1]; rfl
  one := fun h v hv => by rw [h.1] at hv; exact DlD.one _ v (by simpa using hv)
  mono := fun h _ => h
  grown := fun h _ _ => h
  off := fun h _ => h

/-- A slice of deltas. -/
abbrev DeltasV (w : World) (v : Value) (ds : List DlD) : Prop := ElV DlEl 2 w v ds

theorem DeltasV.call {w w' : World} {v : Value} {ds : List DlD} (h : DeltasV w v ds) (hb : Below w.heap.size w w') : DeltasV w' v ds := ElV.below dlOK h hb

theorem DeltasV.elem {w : World} {a : Option Addr} {l cap : Nat} {ds : List DlD} (h : DeltasV w (.slice a l cap) ds) {i : Nat} (hi : i < ds.length) :
    ∃ b off, a = some ⟨b, off, none⟩ ∧ l = ds.length ∧ b < w.heap.size ∧ w.rangeAt b (off + i * 2) (ds.getD i zeDl).cells ∧ (ds.getD i zeDl).ok := by
  obtain ⟨b, off, X, h1, h2, h3, h4, ⟨h5, h6⟩, _⟩ := ElV.at dlOK h hi
  have e : ds.getD i zeDl = ds[i] := by simp [List.getD, List.getElem?_eq_getElem hi]
  rw [e]
  exact ⟨b, off, h1, h2, h3, by rw [h5] at h4; exact h4, h6⟩

set_option maxHeartbeats 4000000 in
theorem sdeltas_yes (v1 v2 : Value) (vs : List DlD) (w : World) (h1 : DeltasV w v1 vs) (h2 : DeltasV w v2 vs) (hm : vs.length ≤ 1000000) :
    Calls Try.prog 11 #[v1, v2] w fun e w' => e = .returned (.bool true) ∧ Below w.heap.size w w' := by
  obtain ⟨a1, c1, rfl, _⟩ := ElV.shape h1
  obtain ⟨a2, c2, rfl, _⟩ := ElV.shape h2
  have H1 := Lib.hid h1
  have H2 := Lib.hid h2
  obtain ⟨m, hml⟩ : ∃ m, vs.length = m := ⟨_, rfl⟩
  rw [hml] at hm H1 H2 ⊢
  have HM := Lib.hid hml
  have hne : ((m : Int) != (m : Int)) = false := by simp
  clear h1 h2 hml
  go_enter Try.func11, Try.ntmps11
  go_wp2_with fail
  go_loopw [5] (fun i wr => ∃ k : Nat, k ≤ m ∧ i = .int .i64 k ∧ Below w.heap.size w wr) (fun i _ => m - (intOf i).toNat)
  case atStart => exact ⟨0, Nat.zero_le _, rfl, Below.refl _ _⟩
  case round =>
    obtain ⟨k, hk, rfl, hbl⟩ := hrel
    have HBL := Lib.hid hbl
    clear hbl
    by_cases hlt : k < m
    case neg =>
      obtain rfl : k = m := by omega
      go_wp2_with fail
      go_ret
      exact ⟨rfl, HBL.out⟩
    have hlt' : (k : Int) < m := by omega
    obtain ⟨b1, o1, rfl, _, hl1, hr1, hok⟩ := (DeltasV.call H1.out HBL.out).elem (i := k) (by rw [HM.out]; exact hlt)
    obtain ⟨b2, o2, rfl, _, hl2, hr2, _⟩ := (DeltasV.call H2.out HBL.out).elem (i := k) (by rw [HM.out]; exact hlt)
    have EQ := fun u => eq_dsame hok u
    have hiL := info_dl (vs.getD k zeDl)
    obtain ⟨L, hL⟩ : ∃ L, (vs.getD k zeDl).cells = L := ⟨_, rfl⟩
    rw [hL] at hr1 hr2 EQ hiL
    have HR1 := Lib.hid hr1
    have HR2 := Lib.hid hr2
    clear hr1 hr2 hok hL
    go_wp2_with fail
    refine wp_region_fam2 (by kernel_rfl) (by kernel_rfl) ?_
    intro T F hT hF hG
    have C1 := Lib.hid (show ∀ u, (∃ t, u = F t) → u.rangeAt b1 (o1 + k * 2) L by rintro _ ⟨t, rfl⟩; exact Below.rng (hF t) hl1 HR1.out)
    have C2 := Lib.hid (show ∀ u, (∃ t, u = F t) → u.rangeAt b2 (o2 + k * 2) L by rintro _ ⟨t, rfl⟩; exact Below.rng (hF t) hl2 HR2.out)
    repeat (first
      | ((with_reducible refine at_qload (.tmp 19) ?_); refine wpQuiet_load_midE 74 _ rfl b1 (o1 + k * 2) (by simp [Act.eval]) L C1.out Try.underlying74 rfl hiL (by kernel_rfl) ?_; simp only [Act.put, List.setIfInBounds_toArray, List.set_cons_succ, List.set_cons_zero])
      | ((with_reducible refine at_qload (.tmp 23) ?_); refine wpQuiet_load_midE 74 _ rfl b2 (o2 + k * 2) (by simp [Act.eval]) L C2.out Try.underlying74 rfl hiL (by kernel_rfl) ?_; simp only [Act.put, List.setIfInBounds_toArray, List.set_cons_succ, List.set_cons_zero])
      | (go_big_quiet_step (fail)))
    refine wpQuiet_nil ?_
    rintro _ ⟨t, rfl⟩
    have HF := Lib.hid (HBL.out.trans ((hF t).mono HBL.out.size))
    clear C1 C2 hG
    go_wp2_with fail
    go_roundw
    case rel => exact ⟨k + 1, by omega, by go_num, HF.out⟩
    case measure => simp [intOf]; omega
end

/-! Smn -/
section
set_option linter.unusedVariables false
set_option linter.unusedSimpArgs false
open Go.RowKit

set_option maxRecDepth 100000

theorem sumV_rng {xs : List Int} (h : Rng xs) : 0 ≤ sumV xs ∧ sumV xs ≤ 18446744073709551615 := by
  have := (h.sum_bd 0).2
  simp at this
  unfold sumV
  split <;> omega

/-- Sum of any list. -/
theorem sum_nums (v : Value) (xs : List Int) (w : World) (h : NumsV w v xs) :
    Calls Try.prog 35 #[v] w fun e w' => e = .returned (.tuple #[.int .u64 (sumV xs), .int .i64 (sumE xs)]) ∧ w = w' := by
  obtain ⟨⟨a, n, c, rfl, hl, hm, hc⟩, hr⟩ := h
  unfold maxLen at hm
  by_cases h0 : n = 0
  · subst h0
    obtain rfl := List.eq_nil_of_length_eq_zero hl
    exact rsum_nil a c w
  · rcases hc with hc | ⟨b, off, rfl, _, hc⟩
    · omega
    · exact rsum_row b off n c xs w hl (by omega) hr hc

theorem NumsV.atP {w : World} {a : Option Addr} {l c : Nat} {xs : List Int} (h : NumsV w (.slice a l c) xs) {k : Nat} (hk : k < xs.length) : ∃ b off, a = some ⟨b, off, none⟩ ∧ b < w.heap.size ∧ w.cell? ⟨b, off + k, none⟩ = some (.int .u64 (xs.getD k 0)) := by
  obtain ⟨a', n, c', e, hl, hm, hc⟩ := h.1
  cases e
  rcases hc with h0 | ⟨b, off, rfl, hb, hc⟩
  · omega
  · exact ⟨b, off, rfl, hb, hc k (by omega)⟩
end

/-! DlB -/
section
set_option linter.unusedVariables false
set_option linter.unusedSimpArgs false
open Go.RowKit

set_option maxRecDepth 100000

/-- The move of one node (P14.1), and of the first k. -/
def movD (b a : Int) : DlD := if b ≤ a then ⟨a - b, 0⟩ else ⟨0, b - a⟩

def movK (bs cs : List Int) : Nat → List DlD
  | 0 => []
  | k + 1 => movK bs cs k ++ [movD (bs.getD k 0) (cs.getD k 0)]

theorem movK_len (bs cs : List Int) (k : Nat) : (movK bs cs k).length = k := by
  induction k with
  | zero => rfl
  | succ k ih => simp [movK, ih]

theorem alloc_szD (w : World) (o : Obj) : (w.alloc o).heap.size = w.heap.size + 1 := Array.size_push ..

theorem upd_setD (w : World) (g j : Nat) (v : Value) (m : Nat) : Upd g w ((w.drewN m).setCell ⟨g, j, none⟩ v) :=
  ⟨rfl, rfl, rfl, by simp [World.setCell], fun b hb => Below.heap_setCell w _ _ _ hb⟩

set_option maxHeartbeats 8000000 in
theorem mov_any (bv av : Value) (bs cs : List Int) (w : World) (hb : NumsV w bv bs) (ha : NumsV w av cs) (hl : cs.length = bs.length) (hn : bs.length ≤ 100000) :
    Calls Try.prog 13 #[bv, av] w fun e w' => ∃ v', e = .returned v' ∧ OwnEl DlEl 74 2 w' w.heap.size v' (movK bs cs bs.length) ∧ Below w.heap.size w w' := by
  obtain ⟨ba, bc, rfl, hmb⟩ := NumsV.shapeW hb
  obtain ⟨aa, ac, rfl, hma⟩ := NumsV.shapeW ha
  unfold maxLen at hmb hma
  have HBV := Lib.hid hb
  have HAV := Lib.hid ha
  obtain ⟨m, hm⟩ : ∃ m, Hid (bs.length = m) := ⟨_, Lib.hid rfl⟩
  have HM : Hid (cs.length = m) := Lib.hid (by rw [hl]; exact hm.out)
  rw [hm.out] at HBV hmb hn ⊢
  rw [HM.out] at HAV hma ⊢
  clear hb ha hl
  go_enter Try.func13, Try.ntmps13
  go_wp2_with fail
  go_loopw [5, 6, 7] (fun c i d wr => ∃ k : Nat, k ≤ m ∧ i = .int .i64 k ∧ OwnEl DlEl 74 2 wr w.heap.size c (movK bs cs k) ∧ Below w.heap.size w wr) (fun _ i _ _ => m - (intOf i).toNat)
  case atStart => exact ⟨0, Nat.zero_le _, rfl, OwnEl.nil _ _, Below.refl _ _⟩
  case round =>
    obtain ⟨k, hk, rfl, hown, hbl⟩ := hrel
    have HOW := Lib.hid hown
    have HB := Lib.hid hbl
    clear hown hbl
    by_cases hlt : k < m
    case neg =>
      obtain rfl : k = m := by omega
      go_wp2_with fail
      go_ret
      exact ⟨_, rfl, HOW.out, HB.out⟩
    have hlt' : (k : Int) < m := by omega
    obtain ⟨b1, o1, rfl, hl1, hc1⟩ := NumsV.elemW HBV.out (by rw [hm.out]; exact hlt)
    obtain ⟨b2, o2, rfl, hl2, hc2⟩ := NumsV.elemW HAV.out (by rw [HM.out]; exact hlt)
    have HNX0 : Hid (movK bs cs k ++ [movD (bs.getD k 0) (cs.getD k 0)] = movK bs cs (k + 1)) := Lib.hid rfl
    have HC1 := Lib.hid (HB.out.cell (p := ⟨b1, o1 + k, none⟩) hl1 |>.trans hc1)
    have HC2 := Lib.hid (HB.out.cell (p := ⟨b2, o2 + k, none⟩) hl2 |>.trans hc2)
    have hr1 := HBV.out.2 _ (getD_mem (l := bs) (k := k) (by rw [hm.out]; exact hlt))
    have hr2 := HAV.out.2 _ (getD_mem (l := cs) (k := k) (by rw [HM.out]; exact hlt))
    obtain ⟨x, hx⟩ : ∃ x, bs.getD k 0 = x := ⟨_, rfl⟩
    obtain ⟨y, hy⟩ : ∃ y, cs.getD k 0 = y := ⟨_, rfl⟩
    rw [hx] at HNX0 HC1 hr1
    rw [hy] at HNX0 HC2 hr2
    have hw1 : b1 < wr.heap.size := Nat.lt_of_lt_of_le hl1 HB.out.size
    have hw2 : b2 < wr.heap.size := Nat.lt_of_lt_of_le hl2 HB.out.size
    clear hc1 hc2 hx hy
    have hc1 := HC1.out
    have hc2 := HC2.out
    have HWB := Lib.hid (fun (n j : Nat) (v : Value) => (upd_setD (wr.alloc (.cells #[.int .u64 0, .int .u64 0] 74)) wr.heap.size j v n).below ((Below.refl wr.heap.size wr).alloc (Nat.le_refl _) _) (Nat.le_refl _))
    have HWS := Lib.hid (fun (n j : Nat) (v : Value) => (upd_setD (wr.alloc (.cells #[.int .u64 0, .int .u64 0] 74)) wr.heap.size j v n).size.trans (alloc_szD _ _))
    by_cases hxy : x ≤ y
    · have HNX : Hid (movK bs cs (k + 1) = movK bs cs k ++ [⟨y - x, 0⟩]) := by show _ = _; rw [← HNX0.out]; unfold movD; rw [if_pos hxy]
      have hwr : IntKind.u64.wrap (y - x) = y - x := u64_in (by omega) (by omega)
      have HOK : Hid ((DlD.mk (y - x) 0).ok) := ⟨⟨by show 0 ≤ y - x; omega, by show y - x ≤ _; omega⟩, by show (0 : Int) ≤ 0; omega, by show (0 : Int) ≤ _; omega⟩
      clear HNX0
      go_wp2_with fail
      go_quiet (fail)
      go_wp2_with fail
      go_region
      go_wp2_with (first
        | ((with_reducible refine at_app (.tmp 44) (.tmp 46) ?_); refine wpList_appEl dlOK Try.underlying30 info_delta (by rfl) (by omega) (.tmp 44) (.tmp 46) rfl rfl w.heap.size _ _ rfl (HOW.out.call dlOK ((HWB.out _ 0 (.int .u64 (y - x))).alloc (by rw [HWS.out]; omega) (.cells #[.int .u64 (y - x), .int .u64 0] 74))) (wr.heap.size + 1) 1 #[.int .u64 (y - x), .int .u64 0] ⟨y - x, 0⟩ rfl ⟨rfl, HOK.out⟩ (Blk.new (by rw [HWS.out])).range (by rw [movK_len]; omega) (by rw [movK_len]; unfold maxLen; omega) (by have := HB.out.size; rw [alloc_szD, HWS.out]; omega) ?_; intro v3 w3 h3 g3 o3; rw [← HNX.out] at h3; have HO3 := Lib.hid h3; have HB3 := Lib.hid ((HB.out.trans (((HWB.out _ 0 (.int .u64 (y - x))).alloc (by rw [HWS.out]; omega) (.cells #[.int .u64 (y - x), .int .u64 0] 74)).mono HB.out.size)).grown g3 (by have := HB.out.size; rw [alloc_szD, HWS.out]; omega) (fun j hj => (HOW.out.lt j hj).1)); clear h3 g3 o3)
        | fail)
      go_roundw
      case rel => exact ⟨k + 1, by omega, by go_num, HO3.out, HB3.out⟩
      case measure => simp [intOf]; omega
    · have HNX : Hid (movK bs cs (k + 1) = movK bs cs k ++ [⟨0, x - y⟩]) := by show _ = _; rw [← HNX0.out]; unfold movD; rw [if_neg hxy]
      have hwr : IntKind.u64.wrap (x - y) = x - y := u64_in (by omega) (by omega)
      have HOK : Hid ((DlD.mk 0 (x - y)).ok) := ⟨⟨by show (0 : Int) ≤ 0; omega, by show (0 : Int) ≤ _; omega⟩, by show 0 ≤ x - y; omega, by show x - y ≤ _; omega⟩
      clear HNX0
      go_wp2_with fail
      go_quiet (fail)
      go_wp2_with fail
      go_region
      go_wp2_with (first
        | ((with_reducible refine at_app (.tmp 44) (.tmp 46) ?_); refine wpList_appEl dlOK Try.underlying30 info_delta (by rfl) (by omega) (.tmp 44) (.tmp 46) rfl rfl w.heap.size _ _ rfl (HOW.out.call dlOK ((HWB.out _ 1 (.int .u64 (x - y))).alloc (by rw [HWS.out]; omega) (.cells #[.int .u64 0, .int .u64 (x - y)] 74))) (wr.heap.size + 1) 1 #[.int .u64 0, .int .u64 (x - y)] ⟨0, x - y⟩ rfl ⟨rfl, HOK.out⟩ (Blk.new (by rw [HWS.out])).range (by rw [movK_len]; omega) (by rw [movK_len]; unfold maxLen; omega) (by have := HB.out.size; rw [alloc_szD, HWS.out]; omega) ?_; intro v3 w3 h3 g3 o3; rw [← HNX.out] at h3; have HO3 := Lib.hid h3; have HB3 := Lib.hid ((HB.out.trans (((HWB.out _ 1 (.int .u64 (x - y))).alloc (by rw [HWS.out]; omega) (.cells #[.int .u64 0, .int .u64 (x - y)] 74)).mono HB.out.size)).grown g3 (by have := HB.out.size; rw [alloc_szD, HWS.out]; omega) (fun j hj => (HOW.out.lt j hj).1)); clear h3 g3 o3)
        | fail)
      go_roundw
      case rel => exact ⟨k + 1, by omega, by go_num, HO3.out, HB3.out⟩
      case measure => simp [intOf]; omega
end

/-! ApA -/
section
set_option linter.unusedVariables false
set_option linter.unusedSimpArgs false
open Go.RowKit

set_option maxRecDepth 100000
/-! ### What Apply answers (P14.2) -/

def plsN (ds : List DlD) (x : List Int) : List Int := x.map fun j => (ds.getD j.toNat zeDl).p

def mnsN (ds : List DlD) (x : List Int) : List Int := x.map fun j => (ds.getD j.toNat zeDl).m

def aplI (ns : List NdD) (ws : List Int) (ds : List DlD) (i : Nat) : Int × Int :=
  if sumE (plsN ds (descN ns (i : Int))) ≠ 0 ∨ sumE (mnsN ds (descN ns (i : Int))) ≠ 0 then (0, 4)
  else if sumV (mnsN ds (descN ns (i : Int))) ≤ sumV (plsN ds (descN ns (i : Int))) then
    (addV (ws.getD i 0) (sumV (plsN ds (descN ns (i : Int))) - sumV (mnsN ds (descN ns (i : Int)))), addE (ws.getD i 0) (sumV (plsN ds (descN ns (i : Int))) - sumV (mnsN ds (descN ns (i : Int)))))
  else (subV (ws.getD i 0) (sumV (mnsN ds (descN ns (i : Int))) - sumV (plsN ds (descN ns (i : Int)))), subE (ws.getD i 0) (sumV (mnsN ds (descN ns (i : Int))) - sumV (plsN ds (descN ns (i : Int)))))

def aplK (ns : List NdD) (ws : List Int) (ds : List DlD) : Nat → List Int × Int
  | 0 => ([], 0)
  | k + 1 => if (aplK ns ws ds k).2 ≠ 0 then ([], (aplK ns ws ds k).2) else if (aplI ns ws ds k).2 ≠ 0 then ([], (aplI ns ws ds k).2) else ((aplK ns ws ds k).1 ++ [(aplI ns ws ds k).1], 0)

def aplN (ns : List NdD) (ws : List Int) (ds : List DlD) : List Int × Int := if ws.length ≠ ns.length ∨ ds.length ≠ ns.length then ([], 2) else aplK ns ws ds ns.length

theorem aplK_stop {ns : List NdD} {ws : List Int} {ds : List DlD} {k : Nat} {e : Int} (h : aplK ns ws ds k = ([], e)) (he : e ≠ 0) : ∀ n, k ≤ n → aplK ns ws ds n = ([], e)
  | 0, hn => by
    obtain rfl : k = 0 := by omega
    exact h
  | n + 1, hn => by
    by_cases hk : k = n + 1
    · rw [← hk]; exact h
    · have ih := aplK_stop h he n (by omega)
      show (if (aplK ns ws ds n).2 ≠ 0 then _ else _) = _
      rw [ih, if_pos he]

theorem aplK_bad {ns : List NdD} {ws : List Int} {ds : List DlD} {k : Nat} {L : List Int} {e : Int} (h : aplK ns ws ds k = (L, 0)) (hi : (aplI ns ws ds k).2 = e) (he : e ≠ 0) : aplK ns ws ds (k + 1) = ([], e) := by
  show (if (aplK ns ws ds k).2 ≠ 0 then _ else _) = _
  rw [h, if_neg (by simp), hi, if_pos he]

theorem aplK_good {ns : List NdD} {ws : List Int} {ds : List DlD} {k : Nat} {L : List Int} {x : Int} (h : aplK ns ws ds k = (L, 0)) (hi : aplI ns ws ds k = (x, 0)) : aplK ns ws ds (k + 1) = (L ++ [x], 0) := by
  show (if (aplK ns ws ds k).2 ≠ 0 then _ else _) = _
  rw [h, if_neg (by simp), hi, if_neg (by simp)]

theorem plsN_rng {ds : List DlD} (h : ∀ d ∈ ds, d.ok) (x : List Int) : Rng (plsN ds x) := by
  intro y hy
  obtain ⟨j, _, rfl⟩ := List.mem_map.1 hy
  by_cases hj : j.toNat < ds.length
  · have := (h _ (List.getElem_mem hj)).1
    simpa [List.getD, hj] using this
  · simp [List.getD, hj, zeDl]

theorem mnsN_rng {ds : List DlD} (h : ∀ d ∈ ds, d.ok) (x : List Int) : Rng (mnsN ds x) := by
  intro y hy
  obtain ⟨j, _, rfl⟩ := List.mem_map.1 hy
  by_cases hj : j.toNat < ds.length
  · have := (h _ (List.getElem_mem hj)).2
    simpa [List.getD, hj] using this
  · simp [List.getD, hj, zeDl]
/-! ### Rows of the call's own, side by side -/

def Dis (a b : Value) : Prop := ∀ n, a.ownBlock = some n → b.ownBlock ≠ some n

theorem Dis.symm {a b : Value} (h : Dis a b) : Dis b a := fun n h1 h2 => h n h2 h1

theorem Dis.nil (b : Value) : Dis (.slice none 0 0) b := fun n h => by cases h

theorem Dis.new {a b b' : Value} {s s1 : Nat} (h : Dis a b) (hl : ∀ n, a.ownBlock = some n → n < s) (hs : s ≤ s1) (hor : b'.ownBlock = b.ownBlock ∨ b'.ownBlock = some s1) : Dis a b' := by
  intro n hn hb
  rcases hor with e | e
  · exact h n hn (e ▸ hb)
  · rw [e] at hb
    cases hb
    have := hl _ hn
    omega

theorem OwnK.oth {k : IntKind} {e : TypeId} {u u1 : World} {B : Nat} {v r : Value} {xs : List Int} (h : OwnK k e u B v xs) (hg : u.grownBy u1 r.ownBlock) (d : Dis v r) : OwnK k e u1 B v xs := h.grown hg (fun n hn e => d n hn e.symm)

structure PmS (w : World) (T : Array Value) (lv pv mv xv : Value) (L P M X : List Int) (u : World) : Prop where
  t : PaS w T u
  l : OwnK .u64 53 u (w.heap.size + 1) lv L
  p : OwnK .u64 53 u (w.heap.size + 1) pv P
  m : OwnK .u64 53 u (w.heap.size + 1) mv M
  x : OwnK .i64 3 u (w.heap.size + 1) xv X
  lp : Dis lv pv
  lm : Dis lv mv
  pm : Dis pv mv
  xp : Dis xv pv
  xm : Dis xv mv

theorem PmS.call {w u u' : World} {T : Array Value} {lv pv mv xv : Value} {L P M X : List Int} (h : PmS w T lv pv mv xv L P M X u) (hb : Below u.heap.size u u') : PmS w T lv pv mv xv L P M X u' :=
  ⟨h.t.call hb, h.l.call hb, h.p.call hb, h.m.call hb, h.x.call hb, h.lp, h.lm, h.pm, h.xp, h.xm⟩

theorem PmS.appP {w u u' : World} {T : Array Value} {lv pv mv xv pv' : Value} {L P M X P' : List Int} (h : PmS w T lv pv mv xv L P M X u) (ho : OwnK .u64 53 u' (w.heap.size + 1) pv' P') (hg : u.grownBy u' pv.ownBlock) (hor : pv'.ownBlock = pv.ownBlock ∨ pv'.ownBlock = some u.heap.size) : PmS w T lv pv' mv xv L P' M X u' :=
  ⟨h.t.grown hg (fun j hj => (h.p.lt j hj).1), h.l.oth hg h.lp, ho, h.m.oth hg h.pm.symm, h.x.oth hg h.xp, h.lp.new (fun n hn => (h.l.lt n hn).2) (Nat.le_refl _) hor, h.lm, (h.pm.symm.new (fun n hn => (h.m.lt n hn).2) (Nat.le_refl _) hor).symm, h.xp.new (fun n hn => (h.x.lt n hn).2) (Nat.le_refl _) hor, h.xm⟩

theorem PmS.appM {w u u' : World} {T : Array Value} {lv pv mv xv mv' : Value} {L P M X M' : List Int} (h : PmS w T lv pv mv xv L P M X u) (ho : OwnK .u64 53 u' (w.heap.size + 1) mv' M') (hg : u.grownBy u' mv.ownBlock) (hor : mv'.ownBlock = mv.ownBlock ∨ mv'.ownBlock = some u.heap.size) : PmS w T lv pv mv' xv L P M' X u' :=
  ⟨h.t.grown hg (fun j hj => (h.m.lt j hj).1), h.l.oth hg h.lm, h.p.oth hg h.pm, ho, h.x.oth hg h.xm, h.lp, h.lm.new (fun n hn => (h.l.lt n hn).2) (Nat.le_refl _) hor, h.pm.new (fun n hn => (h.p.lt n hn).2) (Nat.le_refl _) hor, h.xp, h.xm.new (fun n hn => (h.x.lt n hn).2) (Nat.le_refl _) hor⟩

theorem one_blk {u : World} {b : Nat} {k : IntKind} {x : Int} (h : Blk u b #[.int k x]) : Ints k u (.slice (some ⟨b, 0, none⟩) 1 1) [x] :=
  ⟨_, _, _, rfl, rfl, by unfold maxLen; omega, .inr ⟨b, 0, rfl, h.lt, fun i hi => by (obtain rfl : i = 0 := by omega); exact h.cell 0⟩⟩

theorem bs_num (x : Int) (u : World) : (Instr.buildSlice 27 1 #[(0, .int .u64 x)]).run Try.prog u = .ok (.slice (some ⟨u.heap.size, 0, none⟩) 1 1) (u.alloc (.cells #[.int .u64 x] 53)) := by kernel_rfl

def ApO (w : World) (T : Array Value) (ns : List NdD) (ws : List Int) (ds : List DlD) (m : Nat) (lv iv : Value) (u : World) : Prop :=
  ∃ (k : Nat) (L : List Int), k ≤ m ∧ iv = .int .i64 k ∧ aplK ns ws ds k = (L, 0) ∧ L.length = k ∧ Rng L ∧ OwnK .u64 53 u (w.heap.size + 1) lv L ∧ PaS w T u

def ApJ (w : World) (T : Array Value) (lv xv : Value) (L X : List Int) (ds : List DlD) (pv mv jv : Value) (u : World) : Prop :=
  ∃ j : Nat, j ≤ X.length ∧ jv = .int .i64 j ∧ PmS w T lv pv mv xv L (plsN ds (X.take j)) (mnsN ds (X.take j)) X u

def AplE (r : List Int × Int) (w : World) (e : Ending) (w' : World) : Prop :=
  ∃ v', e = .returned (.tuple #[v', .int .i64 r.2]) ∧ NumsV w' v' r.1 ∧ Below w.heap.size w w'

set_option maxHeartbeats 32000000 in
theorem apl_any (sv wv dv : Value) (ns : List NdD) (hok : TrOK ns) (ws : List Int) (ds : List DlD) (hl : ns.length ≤ 100000) (w : World) (hN : NodesV w sv ns) (hW : NumsV w wv ws) (hD : DeltasV w dv ds) :
    Calls Try.prog 17 #[.agg #[sv], wv, dv] w (AplE (aplN ns ws ds) w) := by
  obtain ⟨ta, tc, rfl, hmx⟩ := hN.shape
  unfold maxLen at hmx
  obtain ⟨wa, wl, wc0, rfl, hwl, hwm, _⟩ := hW.1
  obtain ⟨da, dc, rfl, hdm⟩ := hD.shape
  unfold maxLen at hwm hdm
  have HW := Lib.hid hW
  have HD := Lib.hid hD
  have HDE := Lib.hid (fun (i : Int) u (hu : Below w.heap.size w u) => desc_any ns hok hl i _ u (hN.call hu))
  have HDO : Hid (∀ d ∈ ds, d.ok) := by
    show ∀ d ∈ ds, d.ok
    intro d hd
    obtain ⟨i, hi, rfl⟩ := List.mem_iff_getElem.1 hd
    have := (hD.elem hi).choose_spec.choose_spec.2.2.2.2
    simpa [List.getD, List.getElem?_eq_getElem hi] using this
  have hi1 : (Try.prog.info? 25).map (·.size) = some 1 := by kernel_rfl
  have HII := Lib.hid info_u64c
  obtain ⟨R, hR⟩ : ∃ R, Hid (aplN ns ws ds = R) := ⟨_, Lib.hid rfl⟩
  rw [hR.out]
  obtain ⟨m, hm⟩ : ∃ m, Hid (ns.length = m) := ⟨_, Lib.hid rfl⟩
  obtain ⟨dl, hdl⟩ : ∃ n, Hid (ds.length = n) := ⟨_, Lib.hid rfl⟩
  rw [hm.out] at hmx HDE hl ⊢
  rw [hdl.out] at hdm HD ⊢
  have HWL := Lib.hid hwl
  have S0 := Lib.hid (pas_new w #[.slice ta m tc] 25)
  clear hN hW hD hok hwl
  go_enter Try.func17, Try.ntmps17
  by_cases h1 : wl = m
  case neg =>
    have h1b : ((wl : Int) != (m : Int)) = true := by simp; omega
    have HR : Hid (R = ([], 2)) := by show R = _; rw [← hR.out]; unfold aplN; rw [if_pos (.inl (by rw [HWL.out, hm.out]; exact h1))]
    clear h1
    go_wp2_with (first
    | ((with_reducible refine at_load (.tmp 21) ?_); refine wpList_load_1 23 (.tmp 21) rfl w.heap.size 0 (.slice ta m tc) (S0.out.t.cell 0) rfl _ Try.underlying23 rfl rfl ?_)
    | ((with_reducible refine at_load (.tmp 28) ?_); refine wpList_load_1 23 (.tmp 28) rfl w.heap.size 0 (.slice ta m tc) (S0.out.t.cell 0) rfl _ Try.underlying23 rfl rfl ?_))
    go_ret2
    exact ⟨_, by rw [HR.out]; rfl, by rw [HR.out]; exact ⟨⟨none, 0, 0, rfl, rfl, Nat.zero_le _, .inl rfl⟩, by simp⟩, S0.out.b⟩
  subst h1
  have hmmb : ((wl : Int) != (wl : Int)) = false := by simp
  by_cases h2 : dl = wl
  case neg =>
    have h2b : ((dl : Int) != (wl : Int)) = true := by simp; omega
    have HR : Hid (R = ([], 2)) := by show R = _; rw [← hR.out]; unfold aplN; rw [if_pos (.inr (by rw [hdl.out, hm.out]; exact h2))]
    clear h2
    go_wp2_with (first
    | ((with_reducible refine at_load (.tmp 21) ?_); refine wpList_load_1 23 (.tmp 21) rfl w.heap.size 0 (.slice ta wl tc) (S0.out.t.cell 0) rfl _ Try.underlying23 rfl rfl ?_)
    | ((with_reducible refine at_load (.tmp 28) ?_); refine wpList_load_1 23 (.tmp 28) rfl w.heap.size 0 (.slice ta wl tc) (S0.out.t.cell 0) rfl _ Try.underlying23 rfl rfl ?_))
    go_ret2
    exact ⟨_, by rw [HR.out]; rfl, by rw [HR.out]; exact ⟨⟨none, 0, 0, rfl, rfl, Nat.zero_le _, .inl rfl⟩, by simp⟩, S0.out.b⟩
  subst h2
  have HR : Hid (R = aplK ns ws ds dl) := by show R = _; rw [← hR.out]; unfold aplN; rw [if_neg (by rw [HWL.out, hdl.out, hm.out]; simp), hm.out]
  go_wp2_with (first
    | ((with_reducible refine at_load (.tmp 21) ?_); refine wpList_load_1 23 (.tmp 21) rfl w.heap.size 0 (.slice ta dl tc) (S0.out.t.cell 0) rfl _ Try.underlying23 rfl rfl ?_)
    | ((with_reducible refine at_load (.tmp 28) ?_); refine wpList_load_1 23 (.tmp 28) rfl w.heap.size 0 (.slice ta dl tc) (S0.out.t.cell 0) rfl _ Try.underlying23 rfl rfl ?_))
  go_loopw [8, 9] (fun lv iv wr => ApO w #[.slice ta dl tc] ns ws ds dl lv iv wr) (fun _ iv _ => dl - (intOf iv).toNat)
  case atStart => exact ⟨0, [], Nat.zero_le _, rfl, rfl, rfl, (fun x hx => by cases hx), OwnK.nil _ _ _ _, S0.out⟩
  case round =>
    obtain ⟨k, L, hk, rfl, hap, hll, hlr, hown, hs⟩ := hrel
    have HAP := Lib.hid hap
    have HLL := Lib.hid hll
    have HLR := Lib.hid hlr
    have HOW := Lib.hid hown
    have S1 := Lib.hid hs
    clear hap hll hlr hown hs S0
    by_cases hlt : k < dl
    case neg =>
      obtain rfl : k = dl := by omega
      have HRR : Hid (R = (L, 0)) := by show R = _; rw [HR.out, HAP.out]
      go_wp2_with (first
      | ((with_reducible refine at_load (.tmp 34) ?_); refine wpList_load_1 23 (.tmp 34) rfl w.heap.size 0 (.slice ta k tc) (S1.out.t.cell 0) rfl _ Try.underlying23 rfl rfl ?_))
      go_ret2
      exact ⟨_, by rw [HRR.out]; rfl, by rw [HRR.out]; exact ⟨HOW.out.ints (by rw [HLL.out]; unfold maxLen; omega), HLR.out⟩, S1.out.b⟩
    have hlt' : (k : Int) < dl := by omega
    have HD1 := Lib.hid (HDE.out (k : Int))
    have HXR : Hid (∀ x ∈ descN ns (k : Int), 0 ≤ x ∧ x < dl) := fun x hx => by have := selK_rng _ _ x hx; rw [hm.out] at this; exact this
    have HXL : Hid ((descN ns (k : Int)).length ≤ dl) := by show _ ≤ _; rw [← hm.out]; exact selK_len _ _
    have HAI : Hid (aplI ns ws ds k = aplI ns ws ds k) := rfl
    unfold aplI at HAI
    obtain ⟨X, hX⟩ : ∃ X, descN ns (k : Int) = X := ⟨_, rfl⟩
    unfold SelE at HD1
    rw [hX] at HD1 HXR HXL
    have HXE := Lib.hid hX
    have hxl := HXL.out
    clear hX HAI
    go_wp2_with (first
      | ((with_reducible refine at_load (.tmp 34) ?_); refine wpList_load_1 23 (.tmp 34) rfl w.heap.size 0 (.slice ta dl tc) (S1.out.t.cell 0) rfl _ Try.underlying23 rfl rfl ?_)
      | ((with_reducible refine at_load (.tmp 3) ?_); refine wpList_load_g 25 (.tmp 3) rfl w.heap.size rfl #[.slice ta dl tc] _ S1.out.t Try.underlying25 rfl hi1 rfl ?_)
      | (go_at_call 34; refine (HD1.out _ S1.out.b).mono ?_; rintro e w2 ⟨xv, rfl, hx2, hb⟩; have S2 : Hid (PmS w #[.slice ta dl tc] u8 (.slice none 0 0) (.slice none 0 0) xv L [] [] X w2) := ⟨S1.out.call hb, HOW.out.call hb, OwnK.nil _ _ _ _, OwnK.nil _ _ _ _, hx2.lower (by have := S1.out.t.lt; omega), (Dis.nil _).symm, (Dis.nil _).symm, Dis.nil _, (Dis.nil _).symm, (Dis.nil _).symm⟩; clear hb hx2))
    obtain ⟨xa, xc, rfl, _⟩ := S2.out.x.cap
    go_loopw [10, 11, 13] (fun pv mv jv wr => ApJ w #[.slice ta dl tc] u8 (.slice xa X.length xc) L X ds pv mv jv wr) (fun _ _ jv _ => X.length - (intOf jv).toNat)
    case atStart => exact ⟨0, Nat.zero_le _, rfl, S2.out⟩
    case round =>
      obtain ⟨j, hj, rfl, hs⟩ := hrel
      have S3 := Lib.hid hs
      clear hs S2
      by_cases hjl : j < X.length
      case pos =>
        have hjl' : (j : Int) < X.length := by omega
        have HXI : Hid (IntsV wr (.slice xa X.length xc) X) := ⟨S3.out.x.ints (by unfold maxLen; omega), fun x hx => by have := HXR.out x hx; omega⟩
        obtain ⟨xb, xo, rfl, hxb, hce⟩ := HXI.out.at hjl
        have hyr := HXR.out _ (getD_mem hjl)
        have hts : X.take (j + 1) = X.take j ++ [X.getD j 0] := by rw [List.take_add_one, List.getElem?_eq_getElem hjl]; simp [List.getD, hjl]
        obtain ⟨y, hy⟩ : ∃ y, X.getD j 0 = y := ⟨_, rfl⟩
        rw [hy] at hce hyr hts
        obtain ⟨yn, rfl⟩ : ∃ n : Nat, y = n := ⟨y.toNat, by omega⟩
        have hyn : (yn : Int) < dl := hyr.2
        obtain ⟨db, doff, rfl, hdle, hdb, hdr, hdok⟩ := HD.out.elem (i := yn) (by rw [hdl.out]; omega)
        have HP1 : Hid (plsN ds (X.take (j + 1)) = plsN ds (X.take j) ++ [(ds.getD yn zeDl).p]) := by show _ = _; rw [hts]; simp [plsN]
        have HM1 : Hid (mnsN ds (X.take (j + 1)) = mnsN ds (X.take j) ++ [(ds.getD yn zeDl).m]) := by show _ = _; rw [hts]; simp [mnsN]
        have hc1 : w.cell? ⟨db, doff + yn * 2, none⟩ = some (.int .u64 (ds.getD yn zeDl).p) := (rng_cons hdr).1
        have hc2 : w.cell? ⟨db, doff + yn * 2 + 1, none⟩ = some (.int .u64 (ds.getD yn zeDl).m) := rng_one (rng_cons hdr).2
        obtain ⟨dp, hdp⟩ : ∃ x, (ds.getD yn zeDl).p = x := ⟨_, rfl⟩
        obtain ⟨dm, hdm2⟩ : ∃ x, (ds.getD yn zeDl).m = x := ⟨_, rfl⟩
        rw [hdp] at HP1 hc1
        rw [hdm2] at HM1 hc2
        have HC1 := Lib.hid hc1
        have HC2 := Lib.hid hc2
        have HPL : Hid ((plsN ds (X.take j)).length ≤ 100000 ∧ (mnsN ds (X.take j)).length ≤ 100000) := by show _ ∧ _; simp [plsN, mnsN]; omega
        obtain ⟨PP, hPP⟩ : ∃ x, plsN ds (X.take j) = x := ⟨_, rfl⟩
        obtain ⟨MM, hMM⟩ : ∃ x, mnsN ds (X.take j) = x := ⟨_, rfl⟩
        rw [hPP] at HP1 HPL S3
        rw [hMM] at HM1 HPL S3
        have HDB := Lib.hid hdb
        obtain ⟨nx, hnx⟩ : ∃ n, X.length = n := ⟨_, rfl⟩
        have HNX := Lib.hid hnx
        have HPM0 : Hid (PmS w #[.slice ta dl tc] u8 u10 u11 (.slice (some ⟨xb, xo, none⟩) nx xc) L PP MM X wr.drew) := by have := S3.out.call (Below.drewN (n := 1) (Below.refl _ _)); rw [hnx] at this; exact this
        have HCC0 : Hid (wr.drew.cell? ⟨xb, xo + j, none⟩ = some (.int .i64 (yn : Int))) := hce
        rw [hnx] at hjl' hxl ⊢
        clear hce hyr hts hy hdr hdle hdok hc1 hc2 hdp hdm2 hPP hMM hdb hnx HXI S3
        go_upto_region 12 with fail
        refine wp_region_held_drew (S := fun u => Below w.heap.size w u ∧ u.cell? ⟨xb, xo + j, none⟩ = some (.int .i64 (yn : Int))) (by kernel_rfl) ((⟨HPM0.out.t.b, HCC0.out⟩ : (fun u => Below w.heap.size w u ∧ u.cell? ⟨xb, xo + j, none⟩ = some (.int .i64 (yn : Int))) _)) (fun _ => ?_)
        (try simp only [Act.put, List.setIfInBounds_toArray, List.set_cons_zero, List.set_cons_succ])
        obtain ⟨x0, hx0⟩ : ∃ x, wr.drew = x := ⟨_, rfl⟩
        rw [hx0] at HPM0 HCC0 ⊢
        have HS0 : Hid ((fun u => Below w.heap.size w u ∧ u.cell? ⟨xb, xo + j, none⟩ = some (.int .i64 (yn : Int))) x0) := ⟨HPM0.out.t.b, HCC0.out⟩
        clear hx0
        refine wpAnyH_take (i := 0) (oi := ⟨some 49, _, _, _, _, _⟩) (v := u10) rfl (by kernel_rfl) (by kernel_rfl) (by kernel_rfl) (fun _ _ _ h => h) (Or.inl ⟨by rfl, fun wz hz => ?_⟩) HS0.out ?_
        · clear hz; go_simp; first | done | with_reducible rfl | rfl
        (try simp only [Act.put, List.setIfInBounds_toArray, List.set_cons_zero, List.set_cons_succ])
        refine wpAnyH_take (i := 1) (oi := ⟨some 50, _, _, _, _, _⟩) (v := .slice (some ⟨db, doff, none⟩) dl dc) rfl (by kernel_rfl) (by kernel_rfl) (by kernel_rfl) (fun _ _ _ h => h) (Or.inl ⟨by rfl, fun wz hz => ?_⟩) HS0.out ?_
        · clear hz; go_simp; first | done | with_reducible rfl | rfl
        (try simp only [Act.put, List.setIfInBounds_toArray, List.set_cons_zero, List.set_cons_succ])
        refine wpAnyH_take (i := 2) (oi := ⟨some 51, _, _, _, _, _⟩) (v := .slice (some ⟨xb, xo, none⟩) nx xc) rfl (by kernel_rfl) (by kernel_rfl) (by kernel_rfl) (fun _ _ _ h => h) (Or.inl ⟨by rfl, fun wz hz => ?_⟩) HS0.out ?_
        · clear hz; go_simp; first | done | with_reducible rfl | rfl
        (try simp only [Act.put, List.setIfInBounds_toArray, List.set_cons_zero, List.set_cons_succ])
        refine wpAnyH_take (i := 3) (oi := ⟨some 52, _, _, _, _, _⟩) (v := .int .i64 (j : Int)) rfl (by kernel_rfl) (by kernel_rfl) (by kernel_rfl) (fun _ _ _ h => h) (Or.inl ⟨by rfl, fun wz hz => ?_⟩) HS0.out ?_
        · clear hz; go_simp; first | done | with_reducible rfl | rfl
        (try simp only [Act.put, List.setIfInBounds_toArray, List.set_cons_zero, List.set_cons_succ])
        refine wpAnyH_take (i := 4) (oi := ⟨some 53, _, _, _, _, _⟩) (v := .pointer (some ⟨xb, xo + j, none⟩)) rfl (by kernel_rfl) (by kernel_rfl) (by kernel_rfl) (fun _ _ _ h => h) (Or.inl ⟨by rfl, fun wz hz => ?_⟩) HS0.out ?_
        · clear hz; go_simp; first | done | with_reducible rfl | rfl
        (try simp only [Act.put, List.setIfInBounds_toArray, List.set_cons_zero, List.set_cons_succ])
        refine held_load1 (oi := ⟨some 54, _, _, _, _, _⟩) 5 rfl (by kernel_rfl) (by kernel_rfl) (by kernel_rfl) (fun _ _ _ _ h => h) rfl 3 (.tmp 53) rfl xb (xo + j) rfl (.int .i64 (yn : Int)) _ (fun u' hu => hu.2) Try.underlying3 rfl HS0.out ?_
        (try simp only [Act.put, List.setIfInBounds_toArray, List.set_cons_zero, List.set_cons_succ])
        refine wpAnyH_take (i := 6) (oi := ⟨some 55, _, _, _, _, _⟩) (v := .pointer (some ⟨db, doff + yn * 2, none⟩)) rfl (by kernel_rfl) (by kernel_rfl) (by kernel_rfl) (fun _ _ _ h => h) (Or.inl ⟨by rfl, fun wz hz => ?_⟩) HS0.out ?_
        · clear hz; go_simp; first | done | with_reducible rfl | rfl
        (try simp only [Act.put, List.setIfInBounds_toArray, List.set_cons_zero, List.set_cons_succ])
        refine wpAnyH_take (i := 7) (oi := ⟨some 56, _, _, _, _, _⟩) (v := .pointer (some ⟨db, doff + yn * 2, none⟩)) rfl (by kernel_rfl) (by kernel_rfl) (by kernel_rfl) (fun _ _ _ h => h) (Or.inl ⟨by rfl, fun wz hz => ?_⟩) HS0.out ?_
        · clear hz; go_simp; first | done | with_reducible rfl | rfl
        (try simp only [Act.put, List.setIfInBounds_toArray, List.set_cons_zero, List.set_cons_succ])
        refine held_load1 (oi := ⟨some 57, _, _, _, _, _⟩) 8 rfl (by kernel_rfl) (by kernel_rfl) (by kernel_rfl) (fun _ _ _ _ h => h) rfl 53 (.tmp 56) rfl db (doff + yn * 2) rfl (.int .u64 dp) _ (fun u' hu => (hu.1.cell (p := ⟨db, doff + yn * 2, none⟩) HDB.out).trans HC1.out) Try.underlying53 rfl HS0.out ?_
        (try simp only [Act.put, List.setIfInBounds_toArray, List.set_cons_zero, List.set_cons_succ])
        refine wpAnyH_take (i := 11) (oi := ⟨some 60, _, _, _, _, _⟩) (v := u11) rfl (by kernel_rfl) (by kernel_rfl) (by kernel_rfl) (fun _ _ _ h => h) (Or.inl ⟨by rfl, fun wz hz => ?_⟩) HS0.out ?_
        · clear hz; go_simp; first | done | with_reducible rfl | rfl
        (try simp only [Act.put, List.setIfInBounds_toArray, List.set_cons_zero, List.set_cons_succ])
        refine wpAnyH_take (i := 12) (oi := ⟨some 61, _, _, _, _, _⟩) (v := .slice (some ⟨db, doff, none⟩) dl dc) rfl (by kernel_rfl) (by kernel_rfl) (by kernel_rfl) (fun _ _ _ h => h) (Or.inl ⟨by rfl, fun wz hz => ?_⟩) HS0.out ?_
        · clear hz; go_simp; first | done | with_reducible rfl | rfl
        (try simp only [Act.put, List.setIfInBounds_toArray, List.set_cons_zero, List.set_cons_succ])
        refine wpAnyH_take (i := 13) (oi := ⟨some 62, _, _, _, _, _⟩) (v := .slice (some ⟨xb, xo, none⟩) nx xc) rfl (by kernel_rfl) (by kernel_rfl) (by kernel_rfl) (fun _ _ _ h => h) (Or.inl ⟨by rfl, fun wz hz => ?_⟩) HS0.out ?_
        · clear hz; go_simp; first | done | with_reducible rfl | rfl
        (try simp only [Act.put, List.setIfInBounds_toArray, List.set_cons_zero, List.set_cons_succ])
        refine wpAnyH_take (i := 14) (oi := ⟨some 63, _, _, _, _, _⟩) (v := .int .i64 (j : Int)) rfl (by kernel_rfl) (by kernel_rfl) (by kernel_rfl) (fun _ _ _ h => h) (Or.inl ⟨by rfl, fun wz hz => ?_⟩) HS0.out ?_
        · clear hz; go_simp; first | done | with_reducible rfl | rfl
        (try simp only [Act.put, List.setIfInBounds_toArray, List.set_cons_zero, List.set_cons_succ])
        refine wpAnyH_take (i := 15) (oi := ⟨some 64, _, _, _, _, _⟩) (v := .pointer (some ⟨xb, xo + j, none⟩)) rfl (by kernel_rfl) (by kernel_rfl) (by kernel_rfl) (fun _ _ _ h => h) (Or.inl ⟨by rfl, fun wz hz => ?_⟩) HS0.out ?_
        · clear hz; go_simp; first | done | with_reducible rfl | rfl
        (try simp only [Act.put, List.setIfInBounds_toArray, List.set_cons_zero, List.set_cons_succ])
        refine held_load1 (oi := ⟨some 65, _, _, _, _, _⟩) 16 rfl (by kernel_rfl) (by kernel_rfl) (by kernel_rfl) (fun _ _ _ _ h => h) rfl 3 (.tmp 64) rfl xb (xo + j) rfl (.int .i64 (yn : Int)) _ (fun u' hu => hu.2) Try.underlying3 rfl HS0.out ?_
        (try simp only [Act.put, List.setIfInBounds_toArray, List.set_cons_zero, List.set_cons_succ])
        refine wpAnyH_take (i := 17) (oi := ⟨some 66, _, _, _, _, _⟩) (v := .pointer (some ⟨db, doff + yn * 2, none⟩)) rfl (by kernel_rfl) (by kernel_rfl) (by kernel_rfl) (fun _ _ _ h => h) (Or.inl ⟨by rfl, fun wz hz => ?_⟩) HS0.out ?_
        · clear hz; go_simp; first | done | with_reducible rfl | rfl
        (try simp only [Act.put, List.setIfInBounds_toArray, List.set_cons_zero, List.set_cons_succ])
        refine wpAnyH_take (i := 18) (oi := ⟨some 67, _, _, _, _, _⟩) (v := .pointer (some ⟨db, doff + yn * 2 + 1, none⟩)) rfl (by kernel_rfl) (by kernel_rfl) (by kernel_rfl) (fun _ _ _ h => h) (Or.inl ⟨by rfl, fun wz hz => ?_⟩) HS0.out ?_
        · clear hz; go_simp; first | done | with_reducible rfl | rfl
        (try simp only [Act.put, List.setIfInBounds_toArray, List.set_cons_zero, List.set_cons_succ])
        refine held_load1 (oi := ⟨some 68, _, _, _, _, _⟩) 19 rfl (by kernel_rfl) (by kernel_rfl) (by kernel_rfl) (fun _ _ _ _ h => h) rfl 53 (.tmp 67) rfl db (doff + yn * 2 + 1) rfl (.int .u64 dm) _ (fun u' hu => (hu.1.cell (p := ⟨db, doff + yn * 2 + 1, none⟩) HDB.out).trans HC2.out) Try.underlying53 rfl HS0.out ?_
        (try simp only [Act.put, List.setIfInBounds_toArray, List.set_cons_zero, List.set_cons_succ])
        refine wpAnyH_ready (rs := [9, 20]) (by kernel_rfl) (by simp) ?_
        refine AllReadyH.cons (o := ⟨some 58, _, _, _, _, _⟩) rfl (fun K hK => ?_) (AllReadyH.cons (o := ⟨some 69, _, _, _, _, _⟩) rfl (fun K hK => ?_) AllReadyH.nil)
        · skip
          refine wp_buildSlice 27 1 _ rfl #[(0, .int .u64 dp)] (by simp [Act.eval, Act.put]) _ (bs_num dp x0) ?_
          have hal : Below x0.heap.size x0 (x0.alloc (.cells #[.int .u64 dp] 53)) := (Below.refl _ _).alloc (Nat.le_refl _) _
          have HBa : Hid (Blk (x0.alloc (.cells #[.int .u64 dp] 53)) x0.heap.size #[.int .u64 dp]) := Blk.new rfl
          have HNa : Hid (u10.ownBlock ≠ some x0.heap.size ∧ u11.ownBlock ≠ some x0.heap.size) := ⟨fun e => by have := (HPM0.out.p.lt _ e).2; omega, fun e => by have := (HPM0.out.m.lt _ e).2; omega⟩
          have HPM1 := Lib.hid (HPM0.out.call hal)
          have HCC1 := Lib.hid ((hal.cell (p := ⟨xb, xo + j, none⟩) (cell_lt HCC0.out)).trans HCC0.out)
          obtain ⟨x1, hx⟩ : ∃ x, x0.alloc (.cells #[.int .u64 dp] 53) = x := ⟨_, rfl⟩
          rw [hx] at HBa HPM1 HCC1 ⊢
          obtain ⟨ba, hba⟩ : ∃ b, x0.heap.size = b := ⟨_, rfl⟩
          rw [hba] at HBa HNa ⊢
          clear hx hba hal
          have HS1 : Hid ((fun u => Below w.heap.size w u ∧ u.cell? ⟨xb, xo + j, none⟩ = some (.int .i64 (yn : Int))) x1) := ⟨HPM1.out.t.b, HCC1.out⟩
          refine hK.out _ _ (HS1.out) (fun _ => ?_)
          clear hK K
          (try simp only [Act.put, List.setIfInBounds_toArray, List.set_cons_zero, List.set_cons_succ])
          refine wpAnyH_ready (rs := [10, 20]) (by kernel_rfl) (by simp) ?_
          refine AllReadyH.cons (o := ⟨some 59, _, _, _, _, _⟩) rfl (fun K hK => ?_) (AllReadyH.cons (o := ⟨some 69, _, _, _, _, _⟩) rfl (fun K hK => ?_) AllReadyH.nil)
          · skip
            refine (fun hgo => wp_appK HII.out (by omega) Try.underlying27 (.tmp 49) (.tmp 58) rfl (w.heap.size + 1) u10 PP rfl HPM1.out.p (.slice (some ⟨ba, 0, none⟩) 1 1) [dp] rfl (one_blk HBa.out) (by have := HPL.out.1; simp; omega) (by have := HPM1.out.t.t.lt; omega) hgo) ?_
            intro v2 x2 h9 g9 o9
            have HPM2 := Lib.hid (HPM1.out.appP h9 g9 o9)
            have HCC2 := Lib.hid (g9.cell HCC1.out (fun e => HPM1.out.xp xb rfl e.symm))
            clear h9 g9 o9
            have HS2 : Hid ((fun u => Below w.heap.size w u ∧ u.cell? ⟨xb, xo + j, none⟩ = some (.int .i64 (yn : Int))) x2) := ⟨HPM2.out.t.b, HCC2.out⟩
            refine hK.out _ _ (HS2.out) (fun _ => ?_)
            clear hK K
            (try simp only [Act.put, List.setIfInBounds_toArray, List.set_cons_zero, List.set_cons_succ])
            refine wpAnyH_ready (rs := [20]) (by kernel_rfl) (by simp) ?_
            refine AllReadyH.cons (o := ⟨some 69, _, _, _, _, _⟩) rfl (fun K hK => ?_) AllReadyH.nil
            refine wp_buildSlice 27 1 _ rfl #[(0, .int .u64 dm)] (by simp [Act.eval, Act.put]) _ (bs_num dm x2) ?_
            have hal : Below x2.heap.size x2 (x2.alloc (.cells #[.int .u64 dm] 53)) := (Below.refl _ _).alloc (Nat.le_refl _) _
            have HBc : Hid (Blk (x2.alloc (.cells #[.int .u64 dm] 53)) x2.heap.size #[.int .u64 dm]) := Blk.new rfl
            have HNc : Hid (v2.ownBlock ≠ some x2.heap.size ∧ u11.ownBlock ≠ some x2.heap.size) := ⟨fun e => by have := (HPM2.out.p.lt _ e).2; omega, fun e => by have := (HPM2.out.m.lt _ e).2; omega⟩
            have HPM3 := Lib.hid (HPM2.out.call hal)
            have HCC3 := Lib.hid ((hal.cell (p := ⟨xb, xo + j, none⟩) (cell_lt HCC2.out)).trans HCC2.out)
            obtain ⟨x3, hx⟩ : ∃ x, x2.alloc (.cells #[.int .u64 dm] 53) = x := ⟨_, rfl⟩
            rw [hx] at HBc HPM3 HCC3 ⊢
            obtain ⟨bc, hbc⟩ : ∃ b, x2.heap.size = b := ⟨_, rfl⟩
            rw [hbc] at HBc HNc ⊢
            clear hx hbc hal
            have HS3 : Hid ((fun u => Below w.heap.size w u ∧ u.cell? ⟨xb, xo + j, none⟩ = some (.int .i64 (yn : Int))) x3) := ⟨HPM3.out.t.b, HCC3.out⟩
            refine hK.out _ _ (HS3.out) (fun _ => ?_)
            clear hK K
            (try simp only [Act.put, List.setIfInBounds_toArray, List.set_cons_zero, List.set_cons_succ])
            refine wpAnyH_ready (rs := [21]) (by kernel_rfl) (by simp) ?_
            refine AllReadyH.cons (o := ⟨some 70, _, _, _, _, _⟩) rfl (fun K hK => ?_) AllReadyH.nil
            refine (fun hgo => wp_appK HII.out (by omega) Try.underlying27 (.tmp 60) (.tmp 69) rfl (w.heap.size + 1) u11 MM rfl HPM3.out.m (.slice (some ⟨bc, 0, none⟩) 1 1) [dm] rfl (one_blk HBc.out) (by have := HPL.out.2; simp; omega) (by have := HPM3.out.t.t.lt; omega) hgo) ?_
            intro v4 x4 h9 g9 o9
            have HPM4 := Lib.hid (HPM3.out.appM h9 g9 o9)
            have HCC4 := Lib.hid (g9.cell HCC3.out (fun e => HPM3.out.xm xb rfl e.symm))
            clear h9 g9 o9
            have HS4 : Hid ((fun u => Below w.heap.size w u ∧ u.cell? ⟨xb, xo + j, none⟩ = some (.int .i64 (yn : Int))) x4) := ⟨HPM4.out.t.b, HCC4.out⟩
            refine hK.out _ _ (HS4.out) (fun _ => ?_)
            clear hK K
            (try simp only [Act.put, List.setIfInBounds_toArray, List.set_cons_zero, List.set_cons_succ])
            refine wpAnyH_ready (rs := [22]) (by kernel_rfl) (by simp) ?_
            refine AllReadyH.cons (o := ⟨some 10, _, _, _, _, _⟩) rfl (fun K hK => ?_) AllReadyH.nil
            go_simp
            refine hK.out _ _ (HS4.out) (fun _ => ?_)
            clear hK K
            (try simp only [Act.put, List.setIfInBounds_toArray, List.set_cons_zero, List.set_cons_succ])
            refine wpAnyH_ready (rs := [23]) (by kernel_rfl) (by simp) ?_
            refine AllReadyH.cons (o := ⟨some 11, _, _, _, _, _⟩) rfl (fun K hK => ?_) AllReadyH.nil
            go_simp
            refine hK.out _ _ (HS4.out) (fun _ => ?_)
            clear hK K
            (try simp only [Act.put, List.setIfInBounds_toArray, List.set_cons_zero, List.set_cons_succ])
            refine wpAnyH_done (by kernel_rfl) ?_ _
            go_wp2_with fail
            go_roundw
            case rel => exact ⟨j + 1, by rw [HNX.out]; omega, by go_num, by rw [HP1.out, HM1.out]; exact HPM4.out⟩
            case measure => simp [intOf]; omega
          · skip
            refine wp_buildSlice 27 1 _ rfl #[(0, .int .u64 dm)] (by simp [Act.eval, Act.put]) _ (bs_num dm x1) ?_
            have hal : Below x1.heap.size x1 (x1.alloc (.cells #[.int .u64 dm] 53)) := (Below.refl _ _).alloc (Nat.le_refl _) _
            have HBc : Hid (Blk (x1.alloc (.cells #[.int .u64 dm] 53)) x1.heap.size #[.int .u64 dm]) := Blk.new rfl
            have HNc : Hid (u10.ownBlock ≠ some x1.heap.size ∧ u11.ownBlock ≠ some x1.heap.size) := ⟨fun e => by have := (HPM1.out.p.lt _ e).2; omega, fun e => by have := (HPM1.out.m.lt _ e).2; omega⟩
            have HPM2 := Lib.hid (HPM1.out.call hal)
            have HCC2 := Lib.hid ((hal.cell (p := ⟨xb, xo + j, none⟩) (cell_lt HCC1.out)).trans HCC1.out)
            have HBa := Lib.hid (HBa.out.call hal)
            obtain ⟨x2, hx⟩ : ∃ x, x1.alloc (.cells #[.int .u64 dm] 53) = x := ⟨_, rfl⟩
            rw [hx] at HBc HPM2 HCC2 HBa ⊢
            obtain ⟨bc, hbc⟩ : ∃ b, x1.heap.size = b := ⟨_, rfl⟩
            rw [hbc] at HBc HNc ⊢
            clear hx hbc hal
            have HS2 : Hid ((fun u => Below w.heap.size w u ∧ u.cell? ⟨xb, xo + j, none⟩ = some (.int .i64 (yn : Int))) x2) := ⟨HPM2.out.t.b, HCC2.out⟩
            refine hK.out _ _ (HS2.out) (fun _ => ?_)
            clear hK K
            (try simp only [Act.put, List.setIfInBounds_toArray, List.set_cons_zero, List.set_cons_succ])
            refine wpAnyH_ready (rs := [10]) (by kernel_rfl) (by simp) ?_
            refine AllReadyH.cons (o := ⟨some 59, _, _, _, _, _⟩) rfl (fun K hK => ?_) AllReadyH.nil
            refine (fun hgo => wp_appK HII.out (by omega) Try.underlying27 (.tmp 49) (.tmp 58) rfl (w.heap.size + 1) u10 PP rfl HPM2.out.p (.slice (some ⟨ba, 0, none⟩) 1 1) [dp] rfl (one_blk HBa.out) (by have := HPL.out.1; simp; omega) (by have := HPM2.out.t.t.lt; omega) hgo) ?_
            intro v3 x3 h9 g9 o9
            have HPM3 := Lib.hid (HPM2.out.appP h9 g9 o9)
            have HCC3 := Lib.hid (g9.cell HCC2.out (fun e => HPM2.out.xp xb rfl e.symm))
            have HBc := Lib.hid (HBc.out.grown g9 (fun e => HNc.out.1 e.symm))
            clear h9 g9 o9
            have HS3 : Hid ((fun u => Below w.heap.size w u ∧ u.cell? ⟨xb, xo + j, none⟩ = some (.int .i64 (yn : Int))) x3) := ⟨HPM3.out.t.b, HCC3.out⟩
            refine hK.out _ _ (HS3.out) (fun _ => ?_)
            clear hK K
            (try simp only [Act.put, List.setIfInBounds_toArray, List.set_cons_zero, List.set_cons_succ])
            refine wpAnyH_ready (rs := [21]) (by kernel_rfl) (by simp) ?_
            refine AllReadyH.cons (o := ⟨some 70, _, _, _, _, _⟩) rfl (fun K hK => ?_) AllReadyH.nil
            refine (fun hgo => wp_appK HII.out (by omega) Try.underlying27 (.tmp 60) (.tmp 69) rfl (w.heap.size + 1) u11 MM rfl HPM3.out.m (.slice (some ⟨bc, 0, none⟩) 1 1) [dm] rfl (one_blk HBc.out) (by have := HPL.out.2; simp; omega) (by have := HPM3.out.t.t.lt; omega) hgo) ?_
            intro v4 x4 h9 g9 o9
            have HPM4 := Lib.hid (HPM3.out.appM h9 g9 o9)
            have HCC4 := Lib.hid (g9.cell HCC3.out (fun e => HPM3.out.xm xb rfl e.symm))
            clear h9 g9 o9
            have HS4 : Hid ((fun u => Below w.heap.size w u ∧ u.cell? ⟨xb, xo + j, none⟩ = some (.int .i64 (yn : Int))) x4) := ⟨HPM4.out.t.b, HCC4.out⟩
            refine hK.out _ _ (HS4.out) (fun _ => ?_)
            clear hK K
            (try simp only [Act.put, List.setIfInBounds_toArray, List.set_cons_zero, List.set_cons_succ])
            refine wpAnyH_ready (rs := [22]) (by kernel_rfl) (by simp) ?_
            refine AllReadyH.cons (o := ⟨some 10, _, _, _, _, _⟩) rfl (fun K hK => ?_) AllReadyH.nil
            go_simp
            refine hK.out _ _ (HS4.out) (fun _ => ?_)
            clear hK K
            (try simp only [Act.put, List.setIfInBounds_toArray, List.set_cons_zero, List.set_cons_succ])
            refine wpAnyH_ready (rs := [23]) (by kernel_rfl) (by simp) ?_
            refine AllReadyH.cons (o := ⟨some 11, _, _, _, _, _⟩) rfl (fun K hK => ?_) AllReadyH.nil
            go_simp
            refine hK.out _ _ (HS4.out) (fun _ => ?_)
            clear hK K
            (try simp only [Act.put, List.setIfInBounds_toArray, List.set_cons_zero, List.set_cons_succ])
            refine wpAnyH_done (by kernel_rfl) ?_ _
            go_wp2_with fail
            go_roundw
            case rel => exact ⟨j + 1, by rw [HNX.out]; omega, by go_num, by rw [HP1.out, HM1.out]; exact HPM4.out⟩
            case measure => simp [intOf]; omega
        · skip
          refine wp_buildSlice 27 1 _ rfl #[(0, .int .u64 dm)] (by simp [Act.eval, Act.put]) _ (bs_num dm x0) ?_
          have hal : Below x0.heap.size x0 (x0.alloc (.cells #[.int .u64 dm] 53)) := (Below.refl _ _).alloc (Nat.le_refl _) _
          have HBc : Hid (Blk (x0.alloc (.cells #[.int .u64 dm] 53)) x0.heap.size #[.int .u64 dm]) := Blk.new rfl
          have HNc : Hid (u10.ownBlock ≠ some x0.heap.size ∧ u11.ownBlock ≠ some x0.heap.size) := ⟨fun e => by have := (HPM0.out.p.lt _ e).2; omega, fun e => by have := (HPM0.out.m.lt _ e).2; omega⟩
          have HPM1 := Lib.hid (HPM0.out.call hal)
          have HCC1 := Lib.hid ((hal.cell (p := ⟨xb, xo + j, none⟩) (cell_lt HCC0.out)).trans HCC0.out)
          obtain ⟨x1, hx⟩ : ∃ x, x0.alloc (.cells #[.int .u64 dm] 53) = x := ⟨_, rfl⟩
          rw [hx] at HBc HPM1 HCC1 ⊢
          obtain ⟨bc, hbc⟩ : ∃ b, x0.heap.size = b := ⟨_, rfl⟩
          rw [hbc] at HBc HNc ⊢
          clear hx hbc hal
          have HS1 : Hid ((fun u => Below w.heap.size w u ∧ u.cell? ⟨xb, xo + j, none⟩ = some (.int .i64 (yn : Int))) x1) := ⟨HPM1.out.t.b, HCC1.out⟩
          refine hK.out _ _ (HS1.out) (fun _ => ?_)
          clear hK K
          (try simp only [Act.put, List.setIfInBounds_toArray, List.set_cons_zero, List.set_cons_succ])
          refine wpAnyH_ready (rs := [9]) (by kernel_rfl) (by simp) ?_
          refine AllReadyH.cons (o := ⟨some 58, _, _, _, _, _⟩) rfl (fun K hK => ?_) AllReadyH.nil
          refine wp_buildSlice 27 1 _ rfl #[(0, .int .u64 dp)] (by simp [Act.eval, Act.put]) _ (bs_num dp x1) ?_
          have hal : Below x1.heap.size x1 (x1.alloc (.cells #[.int .u64 dp] 53)) := (Below.refl _ _).alloc (Nat.le_refl _) _
          have HBa : Hid (Blk (x1.alloc (.cells #[.int .u64 dp] 53)) x1.heap.size #[.int .u64 dp]) := Blk.new rfl
          have HNa : Hid (u10.ownBlock ≠ some x1.heap.size ∧ u11.ownBlock ≠ some x1.heap.size) := ⟨fun e => by have := (HPM1.out.p.lt _ e).2; omega, fun e => by have := (HPM1.out.m.lt _ e).2; omega⟩
          have HPM2 := Lib.hid (HPM1.out.call hal)
          have HCC2 := Lib.hid ((hal.cell (p := ⟨xb, xo + j, none⟩) (cell_lt HCC1.out)).trans HCC1.out)
          have HBc := Lib.hid (HBc.out.call hal)
          obtain ⟨x2, hx⟩ : ∃ x, x1.alloc (.cells #[.int .u64 dp] 53) = x := ⟨_, rfl⟩
          rw [hx] at HBa HPM2 HCC2 HBc ⊢
          obtain ⟨ba, hba⟩ : ∃ b, x1.heap.size = b := ⟨_, rfl⟩
          rw [hba] at HBa HNa ⊢
          clear hx hba hal
          have HS2 : Hid ((fun u => Below w.heap.size w u ∧ u.cell? ⟨xb, xo + j, none⟩ = some (.int .i64 (yn : Int))) x2) := ⟨HPM2.out.t.b, HCC2.out⟩
          refine hK.out _ _ (HS2.out) (fun _ => ?_)
          clear hK K
          (try simp only [Act.put, List.setIfInBounds_toArray, List.set_cons_zero, List.set_cons_succ])
          refine wpAnyH_ready (rs := [10]) (by kernel_rfl) (by simp) ?_
          refine AllReadyH.cons (o := ⟨some 59, _, _, _, _, _⟩) rfl (fun K hK => ?_) AllReadyH.nil
          refine (fun hgo => wp_appK HII.out (by omega) Try.underlying27 (.tmp 49) (.tmp 58) rfl (w.heap.size + 1) u10 PP rfl HPM2.out.p (.slice (some ⟨ba, 0, none⟩) 1 1) [dp] rfl (one_blk HBa.out) (by have := HPL.out.1; simp; omega) (by have := HPM2.out.t.t.lt; omega) hgo) ?_
          intro v3 x3 h9 g9 o9
          have HPM3 := Lib.hid (HPM2.out.appP h9 g9 o9)
          have HCC3 := Lib.hid (g9.cell HCC2.out (fun e => HPM2.out.xp xb rfl e.symm))
          have HBc := Lib.hid (HBc.out.grown g9 (fun e => HNc.out.1 e.symm))
          clear h9 g9 o9
          have HS3 : Hid ((fun u => Below w.heap.size w u ∧ u.cell? ⟨xb, xo + j, none⟩ = some (.int .i64 (yn : Int))) x3) := ⟨HPM3.out.t.b, HCC3.out⟩
          refine hK.out _ _ (HS3.out) (fun _ => ?_)
          clear hK K
          (try simp only [Act.put, List.setIfInBounds_toArray, List.set_cons_zero, List.set_cons_succ])
          refine wpAnyH_ready (rs := [21]) (by kernel_rfl) (by simp) ?_
          refine AllReadyH.cons (o := ⟨some 70, _, _, _, _, _⟩) rfl (fun K hK => ?_) AllReadyH.nil
          refine (fun hgo => wp_appK HII.out (by omega) Try.underlying27 (.tmp 60) (.tmp 69) rfl (w.heap.size + 1) u11 MM rfl HPM3.out.m (.slice (some ⟨bc, 0, none⟩) 1 1) [dm] rfl (one_blk HBc.out) (by have := HPL.out.2; simp; omega) (by have := HPM3.out.t.t.lt; omega) hgo) ?_
          intro v4 x4 h9 g9 o9
          have HPM4 := Lib.hid (HPM3.out.appM h9 g9 o9)
          have HCC4 := Lib.hid (g9.cell HCC3.out (fun e => HPM3.out.xm xb rfl e.symm))
          clear h9 g9 o9
          have HS4 : Hid ((fun u => Below w.heap.size w u ∧ u.cell? ⟨xb, xo + j, none⟩ = some (.int .i64 (yn : Int))) x4) := ⟨HPM4.out.t.b, HCC4.out⟩
          refine hK.out _ _ (HS4.out) (fun _ => ?_)
          clear hK K
          (try simp only [Act.put, List.setIfInBounds_toArray, List.set_cons_zero, List.set_cons_succ])
          refine wpAnyH_ready (rs := [22]) (by kernel_rfl) (by simp) ?_
          refine AllReadyH.cons (o := ⟨some 10, _, _, _, _, _⟩) rfl (fun K hK => ?_) AllReadyH.nil
          go_simp
          refine hK.out _ _ (HS4.out) (fun _ => ?_)
          clear hK K
          (try simp only [Act.put, List.setIfInBounds_toArray, List.set_cons_zero, List.set_cons_succ])
          refine wpAnyH_ready (rs := [23]) (by kernel_rfl) (by simp) ?_
          refine AllReadyH.cons (o := ⟨some 11, _, _, _, _, _⟩) rfl (fun K hK => ?_) AllReadyH.nil
          go_simp
          refine hK.out _ _ (HS4.out) (fun _ => ?_)
          clear hK K
          (try simp only [Act.put, List.setIfInBounds_toArray, List.set_cons_zero, List.set_cons_succ])
          refine wpAnyH_done (by kernel_rfl) ?_ _
          go_wp2_with fail
          go_roundw
          case rel => exact ⟨j + 1, by rw [HNX.out]; omega, by go_num, by rw [HP1.out, HM1.out]; exact HPM4.out⟩
          case measure => simp [intOf]; omega
      case neg =>
        obtain rfl : j = X.length := by omega
        have hjj : ((X.length : Int) < (X.length : Int)) = False := eq_false (by omega)
        rw [List.take_length] at S3
        have HV1 : Hid (NumsV wr u10 (plsN ds X)) := ⟨S3.out.p.ints (by simp [plsN]; unfold maxLen; omega), plsN_rng HDO.out X⟩
        have HV2 : Hid (NumsV wr u11 (mnsN ds X)) := ⟨S3.out.m.ints (by simp [mnsN]; unfold maxLen; omega), mnsN_rng HDO.out X⟩
        have HC1 := Lib.hid (sum_nums _ _ _ HV1.out)
        have HC2 := Lib.hid (sum_nums _ _ _ HV2.out)
        have hp := sumV_rng (plsN_rng HDO.out X)
        have hq := sumV_rng (mnsN_rng HDO.out X)
        have HI : Hid (aplI ns ws ds k = if sumE (plsN ds X) ≠ 0 ∨ sumE (mnsN ds X) ≠ 0 then (0, 4)
          else if sumV (mnsN ds X) ≤ sumV (plsN ds X) then (addV (ws.getD k 0) (sumV (plsN ds X) - sumV (mnsN ds X)), addE (ws.getD k 0) (sumV (plsN ds X) - sumV (mnsN ds X)))
          else (subV (ws.getD k 0) (sumV (mnsN ds X) - sumV (plsN ds X)), subE (ws.getD k 0) (sumV (mnsN ds X) - sumV (plsN ds X)))) := by
          show _ = _
          unfold aplI
          rw [HXE.out]
        have he1 : sumE (plsN ds X) = 0 ∨ sumE (plsN ds X) = 4 := by unfold sumE; split <;> simp
        have he2 : sumE (mnsN ds X) = 0 ∨ sumE (mnsN ds X) = 4 := by unfold sumE; split <;> simp
        obtain ⟨P, hP⟩ : ∃ x, sumV (plsN ds X) = x := ⟨_, rfl⟩
        obtain ⟨Q, hQ⟩ : ∃ x, sumV (mnsN ds X) = x := ⟨_, rfl⟩
        obtain ⟨E1, hE1⟩ : ∃ x, sumE (plsN ds X) = x := ⟨_, rfl⟩
        obtain ⟨E2, hE2⟩ : ∃ x, sumE (mnsN ds X) = x := ⟨_, rfl⟩
        rw [hP, hE1] at HC1
        rw [hQ, hE2] at HC2
        rw [hP] at hp
        rw [hQ] at hq
        rw [hP, hQ, hE1, hE2] at HI
        rw [hE1] at he1
        rw [hE2] at he2
        obtain ⟨wb, wo, hwe, hwb, hwc⟩ := NumsV.atP HW.out (k := k) (by rw [HWL.out]; exact hlt)
        have hwr := HW.out.2 _ (getD_mem (l := ws) (k := k) (by rw [HWL.out]; exact hlt))
        cases hwe
        obtain ⟨W, hWv⟩ : ∃ x, ws.getD k 0 = x := ⟨_, rfl⟩
        rw [hWv] at hwc hwr HI
        have HWC := Lib.hid ((S3.out.t.b.cell (p := ⟨wb, wo + k, none⟩) hwb).trans hwc)
        clear hP hQ hE1 hE2 hWv hwc hwb
        obtain ⟨nx, hnx⟩ : ∃ n, X.length = n := ⟨_, rfl⟩
        rw [hnx] at hxl ⊢
        clear hnx
        rcases he1 with h1 | h1
        case inr =>
          subst h1
          have HRR : Hid (R = ([], 4)) := by show R = _; rw [HR.out]; exact aplK_stop (aplK_bad HAP.out (by rw [HI.out, if_pos (.inl (by simp))]) (by simp)) (by simp) dl (by omega)
          go_wp2_with (first
            | (go_at_call 35; have _d := K1; refine HC2.out.mono ?_; rintro e w' ⟨rfl, rfl⟩)
            | (go_at_call 35; refine HC1.out.mono ?_; rintro e w' ⟨rfl, rfl⟩; have K1 := True.intro))
          go_ret2
          exact ⟨_, by rw [HRR.out]; rfl, by rw [HRR.out]; exact ⟨⟨none, 0, 0, rfl, rfl, Nat.zero_le _, .inl rfl⟩, by simp⟩, S3.out.t.b⟩
        subst h1
        rcases he2 with h2 | h2
        case inr =>
          subst h2
          have HRR : Hid (R = ([], 4)) := by show R = _; rw [HR.out]; exact aplK_stop (aplK_bad HAP.out (by rw [HI.out, if_pos (.inr (by simp))]) (by simp)) (by simp) dl (by omega)
          go_wp2_with (first
            | (go_at_call 35; have _d := K1; refine HC2.out.mono ?_; rintro e w' ⟨rfl, rfl⟩)
            | (go_at_call 35; refine HC1.out.mono ?_; rintro e w' ⟨rfl, rfl⟩; have K1 := True.intro))
          go_ret2
          exact ⟨_, by rw [HRR.out]; rfl, by rw [HRR.out]; exact ⟨⟨none, 0, 0, rfl, rfl, Nat.zero_le _, .inl rfl⟩, by simp⟩, S3.out.t.b⟩
        subst h2
        replace HI := Lib.hid (HI.out.trans (if_neg (by simp)))
        by_cases hpq : Q ≤ P
        · have hwv : IntKind.u64.wrap (P - Q) = P - Q := IntWalk.u64_in _ (by omega)
          have hdc : decide (Q ≤ P) = true := decide_eq_true hpq
          have HOP := Lib.hid (fun u => radd_any W (P - Q) hwr.1 hwr.2 (by omega) (by omega) u)
          have HI2 := Lib.hid (HI.out.trans (if_pos hpq))
          have HVR : Hid (0 ≤ addV W (P - Q) ∧ addV W (P - Q) ≤ 18446744073709551615) := by show _ ∧ _; unfold addV; split <;> omega
          have hee : addE W (P - Q) = 0 ∨ addE W (P - Q) = 4 := by unfold addE; split <;> simp
          obtain ⟨V, hV⟩ : ∃ x, addV W (P - Q) = x := ⟨_, rfl⟩
          obtain ⟨E, hE⟩ : ∃ x, addE W (P - Q) = x := ⟨_, rfl⟩
          rw [hV, hE] at HOP HI2
          rw [hV] at HVR
          rw [hE] at hee
          clear hV hE
          rcases hee with h3 | h3
          case inr =>
            subst h3
            have HRR : Hid (R = ([], 4)) := by show R = _; rw [HR.out]; exact aplK_stop (aplK_bad HAP.out (by rw [HI2.out]) (by simp)) (by simp) dl (by omega)
            clear hpq
            go_wp2_with (first
              | ((with_reducible refine at_load (.tmp 89) ?_); refine wpList_load_1 53 (.tmp 89) rfl wb (wo + k) (.int .u64 W) HWC.out rfl _ Try.underlying53 rfl rfl ?_)
              | (go_at_call 36; refine (HOP.out _).mono ?_; rintro e w' ⟨rfl, rfl⟩)
              | (go_at_call 35; have _d := K1; refine HC2.out.mono ?_; rintro e w' ⟨rfl, rfl⟩)
              | (go_at_call 35; refine HC1.out.mono ?_; rintro e w' ⟨rfl, rfl⟩; have K1 := True.intro))
            go_ret2
            exact ⟨_, by rw [HRR.out]; rfl, by rw [HRR.out]; exact ⟨⟨none, 0, 0, rfl, rfl, Nat.zero_le _, .inl rfl⟩, by simp⟩, S3.out.t.b⟩
          subst h3
          have HAG := Lib.hid (aplK_good HAP.out HI2.out)
          clear hpq
          go_wp2_with (first
            | ((with_reducible refine at_load (.tmp 89) ?_); refine wpList_load_1 53 (.tmp 89) rfl wb (wo + k) (.int .u64 W) HWC.out rfl _ Try.underlying53 rfl rfl ?_)
            | (go_at_call 36; refine (HOP.out _).mono ?_; rintro e w' ⟨rfl, rfl⟩)
            | (go_at_call 35; have _d := K1; refine HC2.out.mono ?_; rintro e w' ⟨rfl, rfl⟩)
            | (go_at_call 35; refine HC1.out.mono ?_; rintro e w' ⟨rfl, rfl⟩; have K1 := True.intro)
            | ((with_reducible refine at_app (.tmp 113) (.tmp 115) ?_); refine wpList_app1 HII.out (by omega) Try.underlying27 (.tmp 113) (.tmp 115) rfl rfl (w.heap.size + 1) _ _ rfl (S3.out.l.grown (World.grownBy_alloc _ (.cells #[.int .u64 V] 53) none) (fun n _ => by simp)) wr.heap.size 1 V rfl ((Blk.new rfl).cell 0) (by rw [HLL.out]; omega) (by have := S3.out.t.t.lt; simp; omega) ?_; intro v9 w9 h9 g9 o9; have HO9 := Lib.hid h9; have S9 := Lib.hid ((S3.out.t.call ((Below.refl wr.heap.size wr).alloc (Nat.le_refl _) (.cells #[.int .u64 V] 53))).grown g9 (fun j hj => (S3.out.l.lt j hj).1)); clear h9 g9 o9))
          go_roundw
          case rel => exact ⟨k + 1, L ++ [V], by omega, by go_num, HAG.out, by rw [List.length_append, HLL.out]; rfl, fun x hx => (List.mem_append.1 hx).elim (fun h => HLR.out x h) (fun h => by rw [List.mem_singleton.1 h]; exact HVR.out), HO9.out, S9.out⟩
          case measure => simp [intOf]; omega
        · have hwv : IntKind.u64.wrap (Q - P) = Q - P := IntWalk.u64_in _ (by omega)
          have hdc : decide (Q ≤ P) = false := decide_eq_false hpq
          have HOP := Lib.hid (fun u => rsub_any W (Q - P) hwr.1 hwr.2 (by omega) (by omega) u)
          have HI2 := Lib.hid (HI.out.trans (if_neg hpq))
          have HVR : Hid (0 ≤ subV W (Q - P) ∧ subV W (Q - P) ≤ 18446744073709551615) := by show _ ∧ _; unfold subV; split <;> omega
          have hee : subE W (Q - P) = 0 ∨ subE W (Q - P) = 4 := by unfold subE; split <;> simp
          obtain ⟨V, hV⟩ : ∃ x, subV W (Q - P) = x := ⟨_, rfl⟩
          obtain ⟨E, hE⟩ : ∃ x, subE W (Q - P) = x := ⟨_, rfl⟩
          rw [hV, hE] at HOP HI2
          rw [hV] at HVR
          rw [hE] at hee
          clear hV hE
          rcases hee with h3 | h3
          case inr =>
            subst h3
            have HRR : Hid (R = ([], 4)) := by show R = _; rw [HR.out]; exact aplK_stop (aplK_bad HAP.out (by rw [HI2.out]) (by simp)) (by simp) dl (by omega)
            clear hpq
            go_wp2_with (first
              | ((with_reducible refine at_load (.tmp 89) ?_); refine wpList_load_1 53 (.tmp 89) rfl wb (wo + k) (.int .u64 W) HWC.out rfl _ Try.underlying53 rfl rfl ?_)
              | (go_at_call 37; refine (HOP.out _).mono ?_; rintro e w' ⟨rfl, rfl⟩)
              | (go_at_call 35; have _d := K1; refine HC2.out.mono ?_; rintro e w' ⟨rfl, rfl⟩)
              | (go_at_call 35; refine HC1.out.mono ?_; rintro e w' ⟨rfl, rfl⟩; have K1 := True.intro))
            go_ret2
            exact ⟨_, by rw [HRR.out]; rfl, by rw [HRR.out]; exact ⟨⟨none, 0, 0, rfl, rfl, Nat.zero_le _, .inl rfl⟩, by simp⟩, S3.out.t.b⟩
          subst h3
          have HAG := Lib.hid (aplK_good HAP.out HI2.out)
          clear hpq
          go_wp2_with (first
            | ((with_reducible refine at_load (.tmp 89) ?_); refine wpList_load_1 53 (.tmp 89) rfl wb (wo + k) (.int .u64 W) HWC.out rfl _ Try.underlying53 rfl rfl ?_)
            | (go_at_call 37; refine (HOP.out _).mono ?_; rintro e w' ⟨rfl, rfl⟩)
            | (go_at_call 35; have _d := K1; refine HC2.out.mono ?_; rintro e w' ⟨rfl, rfl⟩)
            | (go_at_call 35; refine HC1.out.mono ?_; rintro e w' ⟨rfl, rfl⟩; have K1 := True.intro)
            | ((with_reducible refine at_app (.tmp 113) (.tmp 115) ?_); refine wpList_app1 HII.out (by omega) Try.underlying27 (.tmp 113) (.tmp 115) rfl rfl (w.heap.size + 1) _ _ rfl (S3.out.l.grown (World.grownBy_alloc _ (.cells #[.int .u64 V] 53) none) (fun n _ => by simp)) wr.heap.size 1 V rfl ((Blk.new rfl).cell 0) (by rw [HLL.out]; omega) (by have := S3.out.t.t.lt; simp; omega) ?_; intro v9 w9 h9 g9 o9; have HO9 := Lib.hid h9; have S9 := Lib.hid ((S3.out.t.call ((Below.refl wr.heap.size wr).alloc (Nat.le_refl _) (.cells #[.int .u64 V] 53))).grown g9 (fun j hj => (S3.out.l.lt j hj).1)); clear h9 g9 o9))
          go_roundw
          case rel => exact ⟨k + 1, L ++ [V], by omega, by go_num, HAG.out, by rw [List.length_append, HLL.out]; rfl, fun x hx => (List.mem_append.1 hx).elim (fun h => HLR.out x h) (fun h => by rw [List.mem_singleton.1 h]; exact HVR.out), HO9.out, S9.out⟩
          case measure => simp [intOf]; omega
end

/-! MgA -/
section
set_option linter.unusedVariables false
set_option linter.unusedSimpArgs false
open Go.RowKit

set_option maxRecDepth 100000
/-! ### A slice of slices of deltas -/

def RowsV (w : World) (v : Value) (R : List (List DlD)) : Prop := ∃ a cap, v = .slice a R.length cap ∧ R.length ≤ maxLen ∧ (R.length = 0 ∨ ∃ b off, a = some ⟨b, off, none⟩ ∧ b < w.heap.size ∧ ∀ i, i < R.length → ∃ x, w.cell? ⟨b, off + i, none⟩ = some x ∧ DeltasV w x (R.getD i []))

theorem RowsV.call {w w' : World} {v : Value} {R : List (List DlD)} (h : RowsV w v R) (hb : Below w.heap.size w w') : RowsV w' v R := by
  obtain ⟨a, cap, rfl, hm, h⟩ := h
  refine ⟨a, cap, rfl, hm, ?_⟩
  rcases h with h | ⟨b, off, rfl, hl, hc⟩
  · exact .inl h
  · refine .inr ⟨b, off, rfl, Nat.lt_of_lt_of_le hl hb.size, fun i hi => ?_⟩
    obtain ⟨x, h1, h2⟩ := hc i hi
    exact ⟨x, (hb.cell (p := ⟨b, off + i, none⟩) hl).trans h1, h2.call hb⟩

theorem RowsV.at {w : World} {a : Option Addr} {l c : Nat} {R : List (List DlD)} (h : RowsV w (.slice a l c) R) {i : Nat} (hi : i < R.length) :
    ∃ b off x, a = some ⟨b, off, none⟩ ∧ b < w.heap.size ∧ w.cell? ⟨b, off + i, none⟩ = some x ∧ DeltasV w x (R.getD i []) := by
  obtain ⟨a', c', e, hm, h⟩ := h
  cases e
  rcases h with h | ⟨b, off, rfl, hl, hc⟩
  · omega
  · obtain ⟨x, h1, h2⟩ := hc i hi
    exact ⟨b, off, x, rfl, hl, h1, h2⟩
/-! ### What Merge answers (P14.4) -/

def mgA (a b : DlD) : DlD := ⟨addV a.p b.p, addV a.m b.m⟩

def mgK (o ds : List DlD) : Nat → Option (List DlD)
  | 0 => some o
  | k + 1 => (mgK o ds k).bind fun q => if addE (q.getD k zeDl).p (ds.getD k zeDl).p = 0 ∧ addE (q.getD k zeDl).m (ds.getD k zeDl).m = 0 then some (q.set k (mgA (q.getD k zeDl) (ds.getD k zeDl))) else none

def mgI (n : Nat) (R : List (List DlD)) : Nat → Option (List DlD)
  | 0 => some (List.replicate n zeDl)
  | i + 1 => (mgI n R i).bind fun q => mgK q (R.getD i []) n

def mrgN (n : Nat) (R : List (List DlD)) : List DlD × Int :=
  if (R.all fun ds => ds.length == n) = true then (match mgI n R R.length with | none => ([], 4) | some o => (o, 0)) else ([], 2)

theorem mgK_stop {o ds : List DlD} {k : Nat} (h : mgK o ds k = none) : ∀ n, k ≤ n → mgK o ds n = none
  | 0, hn => by
    obtain rfl : k = 0 := by omega
    exact h
  | n + 1, hn => by
    by_cases hk : k = n + 1
    · rw [← hk]; exact h
    · have ih := mgK_stop h n (by omega)
      show (mgK o ds n).bind _ = _
      rw [ih]; rfl

theorem mgI_stop {m : Nat} {R : List (List DlD)} {k : Nat} (h : mgI m R k = none) : ∀ n, k ≤ n → mgI m R n = none
  | 0, hn => by
    obtain rfl : k = 0 := by omega
    exact h
  | n + 1, hn => by
    by_cases hk : k = n + 1
    · rw [← hk]; exact h
    · have ih := mgI_stop h n (by omega)
      show (mgI m R n).bind _ = _
      rw [ih]; rfl

theorem mgK_good {o ds q : List DlD} {k : Nat} (h : mgK o ds k = some q) (h1 : addE (q.getD k zeDl).p (ds.getD k zeDl).p = 0) (h2 : addE (q.getD k zeDl).m (ds.getD k zeDl).m = 0) : mgK o ds (k + 1) = some (q.set k (mgA (q.getD k zeDl) (ds.getD k zeDl))) := by
  show (mgK o ds k).bind _ = _
  rw [h, Option.bind_some, if_pos ⟨h1, h2⟩]

theorem mgK_bad {o ds q : List DlD} {k : Nat} (h : mgK o ds k = some q) (h1 : addE (q.getD k zeDl).p (ds.getD k zeDl).p ≠ 0 ∨ addE (q.getD k zeDl).m (ds.getD k zeDl).m ≠ 0) : mgK o ds (k + 1) = none := by
  show (mgK o ds k).bind _ = _
  rw [h, Option.bind_some, if_neg (by rintro ⟨a, b⟩; rcases h1 with h | h <;> contradiction)]

theorem addE_or (x y : Int) : addE x y = 0 ∨ addE x y = 4 := by unfold addE; split <;> simp

theorem bs_dl (p m : Int) (u : World) : (Instr.build 74 #[(0, .int .u64 p), (1, .int .u64 m)]).run Try.prog u = .ok (.agg (DlD.mk p m).cells.toArray) u := by kernel_rfl
/-! ### The row of the call's own -/

structure MrS (w : World) (T : Array Value) (Q : List DlD) (u : World) : Prop where
  t : PaS w T u
  r : RowB u (w.heap.size + 1) (Q.map DlD.cells)
  o : ∀ d ∈ Q, d.ok

theorem MrS.call {w u u' : World} {T : Array Value} {Q : List DlD} (h : MrS w T Q u) (hb : Below u.heap.size u u') : MrS w T Q u' := ⟨h.t.call hb, h.r.call hb, h.o⟩

theorem MrS.set {w u u' : World} {T : Array Value} {Q : List DlD} (h : MrS w T Q u) {k : Nat} {d : DlD} (hd : d.ok) (hu : Upd (w.heap.size + 1) u u') (hr : RowB u' (w.heap.size + 1) ((Q.map DlD.cells).set k d.cells)) : MrS w T (Q.set k d) u' :=
  ⟨⟨hu.blk h.t.t (by omega), hu.below h.t.b (by omega)⟩, by rw [List.map_set]; exact hr, fun x hx => (List.mem_or_eq_of_mem_set hx).elim (h.o x) (fun e => e ▸ hd)⟩

theorem cells2 (Q : List DlD) : ∀ L ∈ Q.map DlD.cells, L.length = 2 := by
  intro L hL
  obtain ⟨d, _, rfl⟩ := List.mem_map.1 hL
  rfl

theorem MrS.cells {w u : World} {T : Array Value} {Q : List DlD} (h : MrS w T Q u) {k : Nat} (hk : k < Q.length) : u.cell? ⟨w.heap.size + 1, k * 2, none⟩ = some (.int .u64 (Q.getD k zeDl).p) ∧ u.cell? ⟨w.heap.size + 1, k * 2 + 1, none⟩ = some (.int .u64 (Q.getD k zeDl).m) := by
  have e : (Q.map DlD.cells)[k]? = some (Q.getD k zeDl).cells := by simp [List.getD, hk]
  exact ⟨h.r.cell (cells2 Q) e (j := 0) rfl, h.r.cell (cells2 Q) e (j := 1) rfl⟩

theorem MrS.deltas {w u : World} {T : Array Value} {Q : List DlD} (h : MrS w T Q u) (hl : Q.length ≤ maxLen) (c : Nat) : DeltasV u (.slice (some ⟨w.heap.size + 1, 0, none⟩) Q.length c) Q := by
  refine ⟨_, _, rfl, hl, .inr ⟨_, 0, rfl, h.r.lt, Q.map fun d => d.cells.toArray, ?_, by simp, ?_⟩⟩
  · have e : rowsL (Q.map fun d => d.cells.toArray) = (Q.map DlD.cells).flatten := by simp [rowsL, List.map_map, Function.comp_def]
    rw [e]; exact h.r.range
  · intro p hp
    obtain ⟨i, hi, rfl⟩ := List.mem_iff_getElem.1 hp
    simp only [List.length_zip, List.length_map] at hi
    simp only [List.getElem_zip, List.getElem_map]
    exact ⟨rfl, h.o _ (List.getElem_mem _)⟩

def MgF (w : World) (T : Array Value) (n : Nat) (R : List (List DlD)) (iv : Value) (u : World) : Prop :=
  ∃ i : Nat, i ≤ R.length ∧ iv = .int .i64 i ∧ (∀ j, j < i → (R.getD j []).length = n) ∧ MrS w T (List.replicate n zeDl) u

def MgO (w : World) (T : Array Value) (n : Nat) (R : List (List DlD)) (iv : Value) (u : World) : Prop :=
  ∃ (i : Nat) (Q : List DlD), i ≤ R.length ∧ iv = .int .i64 i ∧ mgI n R i = some Q ∧ Q.length = n ∧ MrS w T Q u

def MgJ (w : World) (T : Array Value) (n : Nat) (o ds : List DlD) (kv : Value) (u : World) : Prop :=
  ∃ (k : Nat) (Q : List DlD), k ≤ n ∧ kv = .int .i64 k ∧ mgK o ds k = some Q ∧ Q.length = n ∧ MrS w T Q u

def MrgE (r : List DlD × Int) (w : World) (e : Ending) (w' : World) : Prop :=
  ∃ v', e = .returned (.tuple #[v', .int .i64 r.2]) ∧ DeltasV w' v' r.1 ∧ Below w.heap.size w w'

theorem getD_mem' {α : Type} {l : List α} {d : α} {k : Nat} (h : k < l.length) : l.getD k d ∈ l := by rw [List.getD_eq_getElem?_getD, List.getElem?_eq_getElem h]; exact List.getElem_mem _

theorem deltas_nil (u : World) : DeltasV u (.slice none 0 0) [] := ⟨none, 0, rfl, Nat.zero_le _, .inl rfl⟩

set_option maxHeartbeats 32000000 in
theorem mrg_any (sv lv : Value) (ns : List NdD) (R : List (List DlD)) (hl : ns.length ≤ 100000) (w : World) (hN : NodesV w sv ns) (hR : RowsV w lv R) :
    Calls Try.prog 26 #[.agg #[sv], lv] w (MrgE (mrgN ns.length R) w) := by
  obtain ⟨ta, tc, rfl, hmx⟩ := hN.shape
  obtain ⟨la, lc, rfl, hlm, _⟩ := id hR
  unfold maxLen at hmx hlm
  have HR := Lib.hid hR
  obtain ⟨A, hA⟩ : ∃ A, Hid (mrgN ns.length R = A) := ⟨_, Lib.hid rfl⟩
  rw [hA.out]
  obtain ⟨m, hm⟩ : ∃ m, Hid (ns.length = m) := ⟨_, Lib.hid rfl⟩
  obtain ⟨L, hL⟩ : ∃ L, Hid (R.length = L) := ⟨_, Lib.hid rfl⟩
  rw [hm.out] at hmx hl hA ⊢
  rw [hL.out] at hlm HR ⊢
  have S0 := Lib.hid (pas_new w #[.slice ta m tc] 25)
  have ST := Lib.hid (fun u (h : PaS w #[.slice ta m tc] u) => h.t.cell 0)
  clear hN hR
  go_enter Try.func26, Try.ntmps26
  go_wp2_with (first
    | ((with_reducible refine at_load (.tmp 14) ?_); refine wpList_load_1 23 (.tmp 14) rfl w.heap.size 0 (.slice ta m tc) (S0.out.t.cell 0) rfl _ Try.underlying23 rfl rfl ?_)
    | ((with_reducible refine at_makeEl (.tmp 16) ?_); refine wpList_make_els rfl (.tmp 16) 30 74 rfl zeDl.cells 16 Try.underlying30 info_delta .i64 m rfl (by omega) (by omega) ?_; intro w1 hg1 hs1 hr1; have S1 : Hid (MrS w #[.slice ta m tc] (List.replicate m zeDl) w1) := ⟨S0.out.grown hg1 (fun j hj => by cases hj), (by rw [List.map_replicate]; simpa using hr1), (fun d hd => by rw [List.eq_of_mem_replicate hd]; exact ⟨⟨Int.le_refl _, (by show (0 : Int) ≤ _; omega)⟩, ⟨Int.le_refl _, (by show (0 : Int) ≤ _; omega)⟩⟩)⟩; clear hg1 hs1 hr1))
  go_loopw [7] (fun iv wr => MgF w #[.slice ta m tc] m R iv wr) (fun iv _ => L - (intOf iv).toNat)
  case atStart => exact ⟨0, Nat.zero_le _, rfl, (fun j hj => by omega), S1.out⟩
  case round =>
    obtain ⟨i, hi, rfl, hfm, hs⟩ := hrel
    have HFM := Lib.hid hfm
    have S2 := Lib.hid hs
    clear hfm hs S1 S0
    rw [hL.out] at hi
    by_cases hlt : i < L
    case neg =>
      obtain rfl : L = i := by omega
      have HALL : Hid (A = (match mgI m R L with | none => ([], 4) | some o => (o, 0))) := by
        show A = _
        rw [← hA.out]
        unfold mrgN
        rw [if_pos (List.all_eq_true.2 fun d hd => by obtain ⟨j, hj, rfl⟩ := List.mem_iff_getElem.1 hd; have := HFM.out j (by rw [← hL.out]; exact hj); simpa [List.getD, hj] using this), hL.out]
      go_wp2_with fail
      go_loopw [8] (fun iv wr => MgO w #[.slice ta m tc] m R iv wr) (fun iv _ => L - (intOf iv).toNat)
      case atStart => exact ⟨0, _, Nat.zero_le _, rfl, rfl, by simp, S2.out⟩
      case round =>
        obtain ⟨i, Q, hi, rfl, hgi, hql, hs⟩ := hrel
        have HGI := Lib.hid hgi
        have HQL := Lib.hid hql
        have S3 := Lib.hid hs
        clear hgi hql hs S2
        rw [hL.out] at hi
        by_cases hlt2 : i < L
        case neg =>
          obtain rfl : L = i := by omega
          have HRR : Hid (A = (Q, 0)) := by show A = _; rw [HALL.out, HGI.out]
          go_wp2_with fail
          go_ret2
          exact ⟨_, by rw [HRR.out]; rfl, by rw [HRR.out]; have := S3.out.deltas (by rw [HQL.out]; unfold maxLen; omega) m; rw [HQL.out] at this; exact this, S3.out.t.b⟩
        have hlt2' : (i : Int) < L := by omega
        have HNX : Hid (mgI m R (i + 1) = mgK Q (R.getD i []) m) := by show (mgI m R i).bind _ = _; rw [HGI.out]; rfl
        have HXL : Hid ((R.getD i []).length = m) := HFM.out i (by omega)
        obtain ⟨ds, hds⟩ : ∃ ds, R.getD i [] = ds := ⟨_, rfl⟩
        obtain ⟨b, off, x, rfl, hb, hc, hx⟩ := HR.out.at (i := i) (by rw [hL.out]; exact hlt2)
        rw [hds] at HNX HXL hx
        clear hds
        obtain ⟨xa, xc, rfl, hxm⟩ := ElV.shape hx
        rw [HXL.out] at hc hx
        have HX := Lib.hid hx
        have HC := Lib.hid hc
        clear hxm hx hc
        go_wp2_with fail
        go_loopw [9] (fun kv wr => MgJ w #[.slice ta m tc] m Q ds kv wr) (fun kv _ => m - (intOf kv).toNat)
        case atStart => exact ⟨0, _, Nat.zero_le _, rfl, rfl, HQL.out, S3.out⟩
        case round =>
          obtain ⟨k, P, hk, rfl, hgk, hpl, hs⟩ := hrel
          have HGK := Lib.hid hgk
          have HPL := Lib.hid hpl
          have S4 := Lib.hid hs
          clear hgk hpl hs S3
          by_cases hlt3 : k < m
          case neg =>
            obtain rfl : m = k := by omega
            go_wp2_with fail
            go_roundw
            case rel => exact ⟨i + 1, P, by rw [hL.out]; omega, by go_num, by rw [HNX.out]; exact HGK.out, HPL.out, S4.out⟩
            case measure => simp [intOf]; omega
          have hlt3' : (k : Int) < m := by omega
          obtain ⟨xb, xo, rfl, _hxl, hxb, hxr, hxo⟩ := HX.out.elem (i := k) (by rw [HXL.out]; exact hlt3)
          clear _hxl
          have hpo := S4.out.o _ (getD_mem' (d := zeDl) (by rw [HPL.out]; exact hlt3 : k < P.length))
          have HGOOD := Lib.hid (fun a b => mgK_good (k := k) HGK.out a b)
          have HBAD := Lib.hid (fun a => mgK_bad (k := k) HGK.out a)
          have HPC := Lib.hid (fun u (h : MrS w #[.slice ta m tc] P u) => h.cells (k := k) (by rw [HPL.out]; exact hlt3))
          obtain ⟨p, hp⟩ : ∃ p, P.getD k zeDl = p := ⟨_, rfl⟩
          obtain ⟨d, hd⟩ : ∃ d, ds.getD k zeDl = d := ⟨_, rfl⟩
          rw [hp] at hpo HGOOD HBAD HPC
          rw [hd] at hxr hxo HGOOD HBAD
          clear hp hd
          obtain ⟨P1, P2⟩ := p
          obtain ⟨D1, D2⟩ := d
          obtain ⟨hp1, hp2⟩ := hpo
          obtain ⟨hd1, hd2⟩ := hxo
          simp only [mgA] at HGOOD HBAD HPC hp1 hp2 hd1 hd2
          have HR1 : Hid (w.cell? ⟨xb, xo + k * 2, none⟩ = some (.int .u64 D1)) := hxr 0 _ rfl
          have HR2 : Hid (w.cell? ⟨xb, xo + k * 2 + 1, none⟩ = some (.int .u64 D2)) := hxr 1 _ rfl
          clear hxr
          have HA1 : Hid (∀ u, Calls Try.prog 36 #[.int .u64 P1, .int .u64 D1] u fun e w' => e = .returned (.tuple #[.int .u64 (addV P1 D1), .int .i64 (addE P1 D1)]) ∧ Below u.heap.size u w') := fun u => (radd_any P1 D1 hp1.1 hp1.2 hd1.1 hd1.2 u).mono fun _ _ h => ⟨h.1, Below.same_world h.2⟩
          have HA2 : Hid (∀ u, Calls Try.prog 36 #[.int .u64 P2, .int .u64 D2] u fun e w' => e = .returned (.tuple #[.int .u64 (addV P2 D2), .int .i64 (addE P2 D2)]) ∧ Below u.heap.size u w') := fun u => (radd_any P2 D2 hp2.1 hp2.2 hd2.1 hd2.2 u).mono fun _ _ h => ⟨h.1, Below.same_world h.2⟩
          have hv1 := addV_rng P1 D1 hp1.1 hd1.1
          have hv2 := addV_rng P2 D2 hp2.1 hd2.1
          obtain ⟨v1, hv1e⟩ : ∃ v, addV P1 D1 = v := ⟨_, rfl⟩
          obtain ⟨v2, hv2e⟩ : ∃ v, addV P2 D2 = v := ⟨_, rfl⟩
          obtain ⟨e1, he1⟩ : ∃ v, addE P1 D1 = v := ⟨_, rfl⟩
          obtain ⟨e2, he2⟩ : ∃ v, addE P2 D2 = v := ⟨_, rfl⟩
          rw [hv1e, he1] at HA1
          rw [hv2e, he2] at HA2
          rw [hv1e] at hv1 HGOOD
          rw [hv2e] at hv2 HGOOD
          rw [he1, he2] at HGOOD HBAD
          clear hv1e hv2e he1 he2
          have KB : Hid (e1 ≠ 0 ∨ e2 ≠ 0 → A = ([], 4)) := fun h => by rw [HALL.out, mgI_stop (k := i + 1) (by rw [HNX.out]; exact mgK_stop (HBAD.out h) _ (by omega)) L (by omega)]
          go_wp2_with fail
          refine wp_region_fam2 (by kernel_rfl) (by kernel_rfl) ?_
          intro T F hT hF hG
          have C1 : ∀ t, (F t).cell? ⟨w.heap.size + 1, k * 2, none⟩ = some (.int .u64 P1) := fun t => ((hF t).cell (p := ⟨w.heap.size + 1, k * 2, none⟩) S4.out.r.lt).trans (HPC.out _ S4.out).1
          have C2 : ∀ t, (F t).cell? ⟨b, off + i, none⟩ = some (.slice (some ⟨xb, xo, none⟩) m xc) := fun t => ((hF t).cell (p := ⟨b, off + i, none⟩) (Nat.lt_of_lt_of_le hb S4.out.t.b.size)).trans ((S4.out.t.b.cell (p := ⟨b, off + i, none⟩) hb).trans HC.out)
          have C3 : ∀ t, (F t).cell? ⟨xb, xo + k * 2, none⟩ = some (.int .u64 D1) := fun t => ((hF t).cell (p := ⟨xb, xo + k * 2, none⟩) (Nat.lt_of_lt_of_le hxb S4.out.t.b.size)).trans ((S4.out.t.b.cell (p := ⟨xb, xo + k * 2, none⟩) hxb).trans HR1.out)
          repeat (go_big_quiet_step ((go_at_call 36; exact fam_call hF hG (Nat.le_refl _) (HA1.out _))))
          refine wpQuiet_nil ?_
          rintro _ ⟨t, rfl⟩
          have S5 := Lib.hid (S4.out.call (hF t))
          clear C1 C2 C3 hG
          go_wp2_with fail
          refine wp_region_fam2 (by kernel_rfl) (by kernel_rfl) ?_
          intro T F hT hF hG
          have C1 : ∀ t, (F t).cell? ⟨w.heap.size + 1, k * 2 + 1, none⟩ = some (.int .u64 P2) := fun t => ((hF t).cell (p := ⟨w.heap.size + 1, k * 2 + 1, none⟩) S5.out.r.lt).trans (HPC.out _ S5.out).2
          have C2 : ∀ t, (F t).cell? ⟨b, off + i, none⟩ = some (.slice (some ⟨xb, xo, none⟩) m xc) := fun t => ((hF t).cell (p := ⟨b, off + i, none⟩) (Nat.lt_of_lt_of_le hb S5.out.t.b.size)).trans ((S5.out.t.b.cell (p := ⟨b, off + i, none⟩) hb).trans HC.out)
          have C3 : ∀ t, (F t).cell? ⟨xb, xo + k * 2 + 1, none⟩ = some (.int .u64 D2) := fun t => ((hF t).cell (p := ⟨xb, xo + k * 2 + 1, none⟩) (Nat.lt_of_lt_of_le hxb S5.out.t.b.size)).trans ((S5.out.t.b.cell (p := ⟨xb, xo + k * 2 + 1, none⟩) hxb).trans HR2.out)
          repeat (go_big_quiet_step ((go_at_call 36; exact fam_call hF hG (Nat.le_refl _) (HA2.out _))))
          refine wpQuiet_nil ?_
          rintro _ ⟨t, rfl⟩
          have S6 := Lib.hid (S5.out.call (hF t))
          clear C1 C2 C3 hG
          by_cases h1 : e1 = 0
          case neg =>
            have h1b : (e1 != 0) = true := by simpa using h1
            go_wp2_with fail
            go_ret2
            have := KB.out (.inl h1)
            exact ⟨_, by rw [this]; rfl, by rw [this]; exact deltas_nil _, S6.out.t.b⟩
          subst h1
          by_cases h2 : e2 = 0
          case neg =>
            have h2b : (e2 != 0) = true := by simpa using h2
            go_wp2_with fail
            go_ret2
            have := KB.out (.inr h2)
            exact ⟨_, by rw [this]; rfl, by rw [this]; exact deltas_nil _, S6.out.t.b⟩
          subst h2
          have HBV := Lib.hid (fun u => bs_dl v1 v2 u)
          have hd0 : Hid ((DlD.mk v1 v2).ok) := ⟨hv1, hv2⟩
          go_wp2_with (first
            | ((with_reducible refine at_build (some 89) ?_); refine wpList_build_g 74 _ rfl #[(0, .int .u64 v1), (1, .int .u64 v2)] (by simp [Act.eval, Act.put]) (.agg (DlD.mk v1 v2).cells.toArray) (HBV.out _) rfl ?_)
            | ((with_reducible refine at_store (.tmp 90) ?_); refine wpList_store_row rfl 74 (.tmp 90) (.tmp 89) rfl (w.heap.size + 1) 2 k (P.map DlD.cells) (DlD.mk v1 v2).cells S6.out.r (cells2 P) (by rw [List.length_map, HPL.out]; exact hlt3) (by simp [Act.eval, Act.put]) (by simp [Act.eval, Act.put]) rfl (by kernel_rfl) (DlD.one _) ?_; intro w9 U9 R9; have S9 := Lib.hid (S6.out.set hd0.out U9 R9); clear U9 R9))
          go_roundw
          case rel => exact ⟨k + 1, _, by omega, by go_num, HGOOD.out rfl rfl, by rw [List.length_set, HPL.out], S9.out⟩
          case measure => simp [intOf]; omega
    have hlt' : (i : Int) < L := by omega
    obtain ⟨b, off, x, rfl, hb, hc, hx⟩ := (HR.out.call S2.out.t.b).at (i := i) (by rw [hL.out]; exact hlt)
    obtain ⟨xa, xc, rfl, hxm⟩ := ElV.shape hx
    unfold maxLen at hxm
    obtain ⟨xl, hxl⟩ : ∃ n, Hid ((R.getD i []).length = n) := ⟨_, Lib.hid rfl⟩
    rw [hxl.out] at hc hxm
    have hct := S2.out.t.t.cell 0
    clear hx
    go_wp2_with fail
    refine wp_region_fam2 (by kernel_rfl) (by kernel_rfl) ?_
    intro T F hT hF hG
    have C1 : ∀ t, (F t).cell? ⟨b, off + i, none⟩ = some (.slice xa xl xc) := fun t => ((hF t).cell (p := ⟨b, off + i, none⟩) hb).trans hc
    have C2 : ∀ t, (F t).cell? ⟨w.heap.size, 0, none⟩ = some (.slice ta m tc) := fun t => ((hF t).cell (p := ⟨w.heap.size, 0, none⟩) S2.out.t.t.lt).trans hct
    by_cases hxe : xl = m
    · have hne : ((xl : Int) != (m : Int)) = false := by simp [hxe]
      repeat (go_big_quiet_step (fail))
      refine wpQuiet_nil ?_
      rintro _ ⟨t, rfl⟩
      have S3 := Lib.hid (S2.out.call (hF t))
      clear C1 C2 hG
      go_wp2_with fail
      go_roundw
      case rel => exact ⟨i + 1, by rw [hL.out]; omega, by go_num, (fun j hj => by rcases Nat.lt_succ_iff_lt_or_eq.1 hj with h | rfl; exact HFM.out j h; rw [hxl.out]; exact hxe), S3.out⟩
      case measure => simp [intOf]; omega
    · have hne : ((xl : Int) != (m : Int)) = true := by simp; omega
      have HBAD : Hid (A = ([], 2)) := by
        show A = _
        rw [← hA.out]
        unfold mrgN
        rw [if_neg (fun h => hxe (by have := List.all_eq_true.1 h (R.getD i []) (getD_mem' (by rw [hL.out]; exact hlt)); rw [← hxl.out]; simpa using this))]
      repeat (go_big_quiet_step (fail))
      refine wpQuiet_nil ?_
      rintro _ ⟨t, rfl⟩
      have S3 := Lib.hid (S2.out.call (hF t))
      clear C1 C2 hG
      go_wp2_with fail
      go_ret2
      exact ⟨_, by rw [HBAD.out]; rfl, by rw [HBAD.out]; exact deltas_nil _, S3.out.t.b⟩
end

end Go.Proofs.Ytdlbobpglgjhiaa
