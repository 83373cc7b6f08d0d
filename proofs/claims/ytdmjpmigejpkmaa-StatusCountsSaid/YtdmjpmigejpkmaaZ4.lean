/- Several texts as one: BtD, AnD, SuB, CdM, CdA, CdB, Ref0, Ref6, ToB, CdC, CdD, CdE, CdF, CdP, CdR, CdS, CdT. -/
import Derived.Test.YtdmjpmigejpkmaaZ3
import Derived.Test.YtdmjpmigejpkmaaHeldK
import Derived.Test.YtdmjpmigejpkmaaBase
import Derived.Laws.BitsLemmas
import Derived.Laws.Bits64
import Derived.Test.YtdmjpmigejpkmaaWorld
import Derived.Test.YtdmjpmigejpkmaaLt
import Derived.Test.YtdmjpmigejpkmaaRow2
import Derived.Test.YtdmjpmigejpkmaaShelf
import Derived.Test.YtdmjpmigejpkmaaGr
import Derived.Deep.AppendLies
import Derived.Maps.AppendAt
import Derived.OwnWalk
import Derived.Laws.AppendOwnNone
import Derived.Test.YtdmjpmigejpkmaaMath
import Derived.Test.YtdmjpmigejpkmaaEq
import Derived.Test.YtdmjpmigejpkmaaRoot0
import Derived.Deep.RegionHeld3
import Derived.Laws.CopyOwn
namespace Go.Proofs.Ytdmjpmigejpkmaa

/-! BtD -/
section
set_option linter.unusedVariables false
set_option linter.unusedSimpArgs false
open Go.RowKit

set_option maxRecDepth 100000

/-- '[]int{}'. -/
theorem bs_int0 (u : World) : (Instr.buildSlice 22 0 #[]).run Try.prog u = .ok (.slice (some ⟨u.heap.size, 0, none⟩) 0 0) (u.alloc (.cells #[] 3)) := by kernel_rfl

theorem own_int0 {u : World} {B : Nat} (hB : B ≤ u.heap.size) : OwnK .i64 3 (u.alloc (.cells #[] 3)) B (.slice (some ⟨u.heap.size, 0, none⟩) 0 0) [] :=
  World.ownsRow_made u #[] 0 hB (Nat.zero_le _) (by simp)

/-- Truth values as cells of a row. -/
def bolL (xs : List Bool) : List (List Value) := xs.map fun x => [Value.bool x]

theorem bolL_sz (xs : List Bool) : ∀ L ∈ bolL xs, L.length = 1 := fun L hL => by
  obtain ⟨x, _, rfl⟩ := List.mem_map.1 hL
  rfl

theorem bolL_flat (xs : List Bool) : (bolL xs).flatten = xs.map Value.bool := by
  induction xs with
  | nil => rfl
  | cons x r ih => simp only [bolL, List.map_cons, List.flatten_cons] at *; rw [ih]; rfl

theorem bolL_len (xs : List Bool) : (bolL xs).length = xs.length := by simp [bolL]

theorem RowB.bol {w : World} {g : Nat} {xs : List Bool} (h : RowB w g (bolL xs)) {i : Nat} (hi : i < xs.length) : w.cell? ⟨g, i, none⟩ = some (.bool (xs.getD i false)) := by
  have h1 := h.cell (bolL_sz xs) (k := i) (j := 0) (L := [.bool (xs.getD i false)]) (v := .bool (xs.getD i false)) (by simp [bolL, List.getD, List.getElem?_eq_getElem hi]) rfl
  rw [Nat.mul_one, Nat.add_zero] at h1
  exact h1

theorem wpList_store_bol {P : Program} {ops : Array Oper} {rest : List Oper} {op : Oper} {a : Act} {w : World} {Q : Exit → Act → World → Prop} (hgd : op.guard = none) (ty : TypeId) (x y : Operand) (ho : op.op = .store ty x y)
    (g i : Nat) (xs : List Bool) (n : Bool) (hB : RowB w g (bolL xs)) (hk : i < xs.length) (hx : a.eval x = .pointer (some ⟨g, i, none⟩)) (hy : a.eval y = .bool n) (hi : (P.info? ty).map (·.size) = some 1)
    (h : ∀ w', Upd g w w' → RowB w' g (bolL (xs.set i n)) → wpList P ops Q rest (a.put op.dst undef) w') : wpList P ops Q (op :: rest) a w := by
  obtain ⟨sp, hB⟩ := hB
  have hl : i < (bolL xs).length := by rw [bolL_len]; exact hk
  refine wpList_store_part1 hgd ty x y ho g (bolL xs ++ [sp]) i (.bool (xs.getD i false)) (.bool n) hB (by rw [List.getElem?_append_left hl]; simp [bolL, List.getD, List.getElem?_eq_getElem hk]) (by rw [offP_row (bolL_sz xs) sp hl, Nat.mul_one]; exact hx) hy hi rfl rfl ?_
  intro w' U B
  refine h w' U ⟨sp, ?_⟩
  rw [List.set_append_left _ _ hl] at B
  rw [show bolL (xs.set i n) = (bolL xs).set i [.bool n] from by simp [bolL, List.map_set]]
  exact B

/-- make([]bool, n). -/
theorem wpList_make_bol {ops : Array Oper} {rest : List Oper} {o : Oper} {a : Act} {w : World} {Q : Exit → Act → World → Prop} (hg : o.guard = none) (l : Operand) (hop : o.op = Op.makeSlice 73 l l)
    (kl : IntKind) (n : Nat) (hl : a.eval l = .int kl (n : Int)) (hn : n ≤ 1000000)
    (hK : ∀ w', Below w.heap.size w w' → RowB w' w.heap.size (bolL (List.replicate n false)) → wpList Try.prog ops Q rest (a.put o.dst (.slice (some ⟨w.heap.size, 0, none⟩) n n)) w') : wpList Try.prog ops Q (o :: rest) a w := by
  obtain ⟨i0, hi0, hz0, hz1, hz2⟩ := info_parts (show (Try.prog.info? 4).map (fun i => (i.zero, i.size, i.bytes)) = some (some (.bool false), 1, 1) by kernel_rfl)
  refine wpList_plain hg fun _ hK' => ?_
  have hr := run_make (P := Try.prog) w 73 4 i0 (.bool false) Try.underlying73 hi0 hz0 kl kl n n (by omega) (by omega) (by rw [hz2]; omega) (by omega)
  simp only [Int.toNat_natCast, hz1, Nat.mul_one] at hr
  have hm : madeCells (Value.bool false).cells n = flatP (bolL (List.replicate n false) ++ [[]]) := by
    apply Array.toList_inj.1
    rw [show (Value.bool false).cells = #[Value.bool false] from rfl, toList_madeCells_one]
    unfold flatP
    rw [List.flatten_append, bolL_flat]
    simp
  rw [hm] at hr
  unfold Oper.wp
  simp only [execOp, hop, hl, Sem.run_bind, hr, Result.andThen, Sem.run_pure]
  exact hK' _ _ (hK _ ((Below.refl _ w).alloc (Nat.le_refl _) _) ⟨[], Blk.new rfl⟩)
/-! ### Depth -/

def DepI (w : World) (T : Array Value) (ns : List NdD) (L : Nat) (i d : Value) (wr : World) : Prop :=
  ∃ iv dv : Int, i = .int .i64 iv ∧ d = .int .i64 dv ∧ 0 ≤ dv ∧ dv + (pathN ns iv).length = L ∧ (-9223372036854775808 ≤ iv ∧ iv ≤ 9223372036854775807) ∧ PaS w T wr

theorem up_step {ns : List NdD} (h : TrOK ns) {k : Nat} (hk : k < ns.length) : ∃ u : Int, ns[k].up = u ∧ -1 ≤ u ∧ u < k ∧ (pathN ns (k : Int)).length = (pathN ns u).length + 1 := by
  by_cases h0 : k = 0
  · subst h0
    refine ⟨-1, h.root hk, by omega, by omega, ?_⟩
    rw [show ((0 : Nat) : Int) = 0 from rfl, pathN_zero hk, pathN_out (by omega)]
    rfl
  · obtain ⟨h1, h2, h3⟩ := h.upAt hk (by omega)
    refine ⟨_, h3, by omega, by omega, ?_⟩
    rw [pathN_step h hk (by omega), List.length_append]
    rfl

set_option maxHeartbeats 8000000 in
theorem cdepth_any (ns : List NdD) (hok : TrOK ns) (hlen : ns.length ≤ 100000) (i : Int) (hir : -9223372036854775808 ≤ i ∧ i ≤ 9223372036854775807) (v : Value) (w : World) (hN : NodesV w v ns) :
    Calls Try.prog 48 #[.agg #[v], .int .i64 i] w fun e w' => e = .returned (.int .i64 ((pathN ns i).length : Nat)) ∧ Below w.heap.size w w' := by
  obtain ⟨a, cap, rfl, hmx⟩ := hN.shape
  unfold maxLen at hmx
  have HIS := Lib.hid (fun (k : Int) u (hu : Below w.heap.size w u) => cisn_any _ ns k u (hN.call hu))
  have HN := Lib.hid hN
  have HOK := Lib.hid hok
  have HLE := Lib.hid (pathN_len ns i)
  have hi1 : (Try.prog.info? 25).map (·.size) = some 1 := by kernel_rfl
  obtain ⟨m, hm⟩ : ∃ m, Hid (ns.length = m) := ⟨_, Lib.hid rfl⟩
  rw [hm.out] at hmx HIS hlen HN HLE ⊢
  have S0 := Lib.hid (pas_new w #[.slice a m cap] 25)
  obtain ⟨L, hL⟩ : ∃ L, (pathN ns i).length = L := ⟨_, rfl⟩
  have HL := Lib.hid hL
  rw [hL] at HLE ⊢
  clear hN hok hL
  go_enter Try.func48, Try.ntmps48
  go_wp2_with fail
  go_loopw [1, 5] (fun i d wr => DepI w #[.slice a m cap] ns L i d wr) (fun i _ _ => (intOf i + 1).toNat)
  case atStart => exact ⟨i, 0, rfl, rfl, by omega, by rw [HL.out]; omega, hir, S0.out⟩
  case round =>
    obtain ⟨iv, dv, rfl, rfl, hd0, hdl, hir, hs⟩ := hrel
    have S1 := Lib.hid hs
    have HIR := Lib.hid hir
    have HDL := Lib.hid hdl
    have hdm : dv ≤ 100000 := by have := HLE.out; omega
    clear hs hir hdl
    by_cases hin : 0 ≤ iv ∧ iv < m
    case neg =>
      have HD : Hid (decide (0 ≤ iv ∧ iv < (m : Int)) = false) := decide_eq_false hin
      have hp : pathN ns iv = [] := pathN_out (by rw [hm.out]; exact hin)
      have HQ : Hid (dv = L) := by have := HDL.out; rw [hp] at this; show dv = L; simpa using this
      clear hin hp
      go_wp2_with (first
        | ((with_reducible refine at_load (.tmp 2) ?_); refine wpList_load_g 25 (.tmp 2) rfl w.heap.size rfl #[.slice a m cap] _ S1.out.t Try.underlying25 rfl hi1 rfl ?_)
        | (go_at_call 52; refine (HIS.out _ _ S1.out.b).mono ?_; rintro e w2 ⟨rfl, hb2⟩; rw [HD.out]; have S2 := Lib.hid (S1.out.call hb2); clear hb2))
      go_ret
      exact ⟨by first | rfl | (rw [HQ.out]; rfl), S2.out.b⟩
    obtain ⟨k, rfl⟩ : ∃ k : Nat, iv = k := ⟨iv.toNat, by omega⟩
    have HD : Hid (decide (0 ≤ (k : Int) ∧ (k : Int) < (m : Int)) = true) := decide_eq_true hin
    have hkn : k < ns.length := by rw [hm.out]; omega
    have hlt' : (k : Int) < m := by omega
    obtain ⟨b, off, rfl, hlm, hbb, hna, _⟩ := HN.out.elem hkn
    have HUP := Lib.hid hna.up
    obtain ⟨u, hu, hu0, hu1, hul⟩ := up_step HOK.out hkn
    rw [hu] at HUP
    have HUL := Lib.hid hul
    clear hin hlm hna hu hul
    go_wp2_with (first
      | ((with_reducible refine at_load (.tmp 2) ?_); refine wpList_load_g 25 (.tmp 2) rfl w.heap.size rfl #[.slice (some ⟨b, off, none⟩) m cap] _ S1.out.t Try.underlying25 rfl hi1 rfl ?_)
      | (go_at_call 52; refine (HIS.out _ _ S1.out.b).mono ?_; rintro e w2 ⟨rfl, hb2⟩; rw [HD.out]; have S2 := Lib.hid (S1.out.call hb2); have HU2 := Lib.hid ((S2.out.b.cell (p := ⟨b, off + k * 240 + 238, none⟩) hbb).trans HUP.out); clear hb2)
      | ((with_reducible refine at_load (.tmp 11) ?_); refine wpList_load_1 23 (.tmp 11) rfl w.heap.size 0 (.slice (some ⟨b, off, none⟩) m cap) (S2.out.t.cell 0) rfl _ Try.underlying23 rfl rfl ?_)
      | ((with_reducible refine at_load (.tmp 15) ?_); refine wpList_load_1 3 (.tmp 15) rfl b (off + k * 240 + 238) (.int .i64 u) HU2.out rfl _ Try.underlying3 rfl rfl ?_))
    go_roundw
    case rel => exact ⟨u, dv + 1, by go_num, by go_num, by omega, by have h1 := HDL.out; have h2 := HUL.out; omega, by omega, S2.out⟩
    case measure => simp [intOf]; omega
/-! ### Leaves -/

def markB (ns : List NdD) (k j : Nat) : Bool := (List.range k).any fun i => decide (upI ns i = (j : Int))

def markL (ns : List NdD) (m k : Nat) : List Bool := (List.range m).map (markB ns k)

theorem markL_len (ns : List NdD) (m k : Nat) : (markL ns m k).length = m := by simp [markL]

theorem markL_zero (ns : List NdD) (m : Nat) : List.replicate m false = markL ns m 0 := by
  apply List.ext_getElem?
  intro j
  simp only [markL, List.getElem?_replicate, List.getElem?_map, List.getElem?_range']
  by_cases h : j < m
  · simp [h, markB]
  · simp [h]

theorem markB_succ (ns : List NdD) (k j : Nat) : markB ns (k + 1) j = (markB ns k j || decide (upI ns k = (j : Int))) := by
  simp [markB, List.range_succ]

theorem markL_get (ns : List NdD) (m k j : Nat) (h : j < m) : (markL ns m k).getD j false = markB ns k j := by
  simp [markL, List.getD, h]

theorem markL_skip {ns : List NdD} {m k : Nat} (h : ¬ (0 ≤ upI ns k ∧ upI ns k < m)) : markL ns m (k + 1) = markL ns m k := by
  refine List.map_congr_left fun j hj => ?_
  rw [markB_succ]
  have : decide (upI ns k = (j : Int)) = false := decide_eq_false (fun e => h (by have := List.mem_range.1 hj; omega))
  rw [this, Bool.or_false]

theorem markL_set {ns : List NdD} {m k u : Nat} (h : upI ns k = (u : Int)) : (markL ns m k).set u true = markL ns m (k + 1) := by
  apply List.ext_getElem?
  intro j
  rw [List.getElem?_set, markL_len]
  by_cases hj : j < m
  · have e1 : (markL ns m (k + 1))[j]? = some (markB ns (k + 1) j) := by simp [markL, hj]
    have e2 : (markL ns m k)[j]? = some (markB ns k j) := by simp [markL, hj]
    rw [e1, e2, markB_succ, h]
    by_cases e : u = j
    · subst e; simp [hj]
    · have : decide ((u : Int) = (j : Int)) = false := decide_eq_false (by omega)
      rw [this, if_neg e, Bool.or_false]
  · have e1 : (markL ns m (k + 1))[j]? = none := List.getElem?_eq_none (by rw [markL_len]; omega)
    have e2 : (markL ns m k)[j]? = none := List.getElem?_eq_none (by rw [markL_len]; omega)
    rw [e1, e2]
    by_cases e : u = j
    · subst e; simp [hj]
    · simp [e]

theorem selK_congr {p q : Nat → Bool} : ∀ {k : Nat}, (∀ j, j < k → p j = q j) → selK p k = selK q k
  | 0, _ => rfl
  | k + 1, h => by
    have ih := selK_congr (k := k) (fun j hj => h j (by omega))
    have hk := h k (by omega)
    cases e : p k
    · rw [selK_no e, selK_no (hk ▸ e), ih]
    · rw [selK_yes e, selK_yes (hk ▸ e), ih]

theorem leaf_mark (ns : List NdD) : leafN ns = selK (fun j => !markB ns ns.length j) ns.length := by
  refine selK_congr fun j hj => ?_
  have hc : childN ns (j : Int) = selK (fun k => decide (upI ns k = (j : Int))) ns.length := by unfold childN; rw [if_pos (by omega)]
  rw [hc]
  cases hm : markB ns ns.length j
  · refine decide_eq_true (Nat.eq_zero_of_not_pos fun h => ?_)
    obtain ⟨x, hx⟩ := List.exists_mem_of_length_pos h
    obtain ⟨i, h1, _, h3⟩ := selK_mem.1 hx
    have : markB ns ns.length j = true := List.any_eq_true.2 ⟨i, List.mem_range.2 h1, h3⟩
    rw [hm] at this; cases this
  · refine decide_eq_false fun h => ?_
    obtain ⟨i, h1, h2⟩ := List.any_eq_true.1 hm
    have hx : (i : Int) ∈ selK (fun k => decide (upI ns k = (j : Int))) ns.length := selK_mem.2 ⟨i, List.mem_range.1 h1, rfl, h2⟩
    rw [List.eq_nil_of_length_eq_zero h] at hx; cases hx

/-- The tree's variable, and the marks. -/
structure LeS (w : World) (T : Array Value) (xs : List Bool) (u : World) : Prop where
  p : PaS w T u
  r : RowB u (w.heap.size + 1) (bolL xs)

theorem LeS.call {w u u' : World} {T : Array Value} {xs : List Bool} (h : LeS w T xs u) (hb : Below u.heap.size u u') : LeS w T xs u' := ⟨h.p.call hb, h.r.call hb⟩

theorem LeS.grown {w u u' : World} {T : Array Value} {xs : List Bool} {row : Option Nat} (h : LeS w T xs u) (hg : u.grownBy u' row) (hr : ∀ j, row = some j → w.heap.size + 1 < j) : LeS w T xs u' := ⟨h.p.grown hg (fun j hj => by have := hr j hj; omega), h.r.grown hg (fun e => by have := hr _ e.symm; omega)⟩

def LeI (w : World) (T : Array Value) (ns : List NdD) (m : Nat) (i : Value) (wr : World) : Prop :=
  ∃ k : Nat, k ≤ m ∧ i = .int .i64 k ∧ LeS w T (markL ns m k) wr

def LeJ (w : World) (T : Array Value) (xs : List Bool) (p : Nat → Bool) (m : Nat) (v i : Value) (wr : World) : Prop :=
  ∃ k : Nat, k ≤ m ∧ i = .int .i64 k ∧ OwnK .i64 3 wr (w.heap.size + 2) v (selK p k) ∧ LeS w T xs wr

theorem OwnK.off2 {w wr : World} {v : Value} {xs : List Int} (h : OwnK .i64 3 wr (w.heap.size + 2) v xs) : ∀ j, v.ownBlock = some j → w.heap.size + 1 < j := fun j hj => by have := (h.lt j hj).1; omega
end

/-! AnD -/
section
set_option linter.unusedVariables false
set_option linter.unusedSimpArgs false
open Go.RowKit

set_option maxRecDepth 100000

theorem wpList_makeN {ops : Array Oper} {rest : List Oper} {o : Oper} {a : Act} {w : World} {Q : Exit → Act → World → Prop} (hg : o.guard = none) (l : Operand) (hop : o.op = Op.makeSlice 22 l l)
    (kl : IntKind) (n : Nat) (hl : a.eval l = .int kl (n : Int)) (hn : n ≤ 1000000)
    (hK : ∀ w', Below w.heap.size w w' → RowB w' w.heap.size (numL .i64 (List.replicate n 0)) → wpList Try.prog ops Q rest (a.put o.dst (.slice (some ⟨w.heap.size, 0, none⟩) n n)) w') : wpList Try.prog ops Q (o :: rest) a w := by
  obtain ⟨i0, hi0, hz0, hz1, hz2⟩ := info_parts info_int
  refine wpList_plain hg fun _ hK' => ?_
  have hr := run_make (P := Try.prog) w 22 3 i0 (.int .i64 0) Try.underlying22 hi0 hz0 kl kl n n (by omega) (by omega) (by rw [hz2]; omega) (by omega)
  simp only [Int.toNat_natCast, hz1, Nat.mul_one] at hr
  have hm : madeCells (Value.int .i64 0).cells n = flatP (numL .i64 (List.replicate n 0) ++ [[]]) := by
    apply Array.toList_inj.1
    rw [show (Value.int .i64 0).cells = #[Value.int .i64 0] from rfl, toList_madeCells_one]
    unfold flatP
    rw [List.flatten_append, numL_flat]
    simp
  rw [hm] at hr
  unfold Oper.wp
  simp only [execOp, hop, hl, Sem.run_bind, hr, Result.andThen, Sem.run_pure]
  exact hK' _ _ (hK _ ((Below.refl _ w).alloc (Nat.le_refl _) _) ⟨[], Blk.new rfl⟩)
/-! ### Path -/

theorem set_rep (n : Nat) (x : Int) (D : List Int) : (List.replicate (n + 1) 0 ++ D).set n x = List.replicate n 0 ++ x :: D := by
  rw [List.replicate_succ', List.append_assoc, List.set_append_right _ _ (by simp)]
  simp

def PacI (w : World) (T : Array Value) (ns : List NdD) (g : Nat) (x : Int) (iv pv : Value) (wr : World) : Prop :=
  ∃ (i p : Int) (D : List Int), iv = .int .i64 i ∧ pv = .int .i64 p ∧ p + 1 = ((pathN ns i).length : Nat) ∧ pathN ns x = pathN ns i ++ D ∧ RowB wr g (numL .i64 (List.replicate (pathN ns i).length 0 ++ D)) ∧ PaS w T wr

/-- What Path promises here. -/
def PacE (ns : List NdD) (x : Int) (w : World) (e : Ending) (w' : World) : Prop := ∃ v', e = .returned v' ∧ IntsV w' v' (pathN ns x) ∧ Below w.heap.size w w'

set_option maxHeartbeats 8000000 in
theorem anpa_any (ns : List NdD) (hok : TrOK ns) (hlen : ns.length ≤ 100000) (x : Int) (hir : -9223372036854775808 ≤ x ∧ x ≤ 9223372036854775807) (v : Value) (w : World) (hN : NodesV w v ns) :
    Calls Try.prog 37 #[.agg #[v], .int .i64 x] w (PacE ns x w) := by
  obtain ⟨a, cap, rfl, hmx⟩ := hN.shape
  unfold maxLen at hmx
  have HDE := Lib.hid (fun u (hu : Below w.heap.size w u) => cdepth_any ns hok hlen x hir _ u (hN.call hu))
  have HLE := Lib.hid (pathN_len ns x)
  have HRG := Lib.hid (pathN_rng hok x)
  have HN := Lib.hid hN
  have HOK := Lib.hid hok
  have hi1 : (Try.prog.info? 25).map (·.size) = some 1 := by kernel_rfl
  obtain ⟨m, hm⟩ : ∃ m, Hid (ns.length = m) := ⟨_, Lib.hid rfl⟩
  rw [hm.out] at hmx HDE HN hlen HLE HRG ⊢
  have S0 := Lib.hid (pas_new w #[.slice a m cap] 25)
  obtain ⟨L, hL⟩ : ∃ L, (pathN ns x).length = L := ⟨_, rfl⟩
  have HL := Lib.hid hL
  rw [hL] at HDE HLE
  have hLm : L ≤ 100000 := by have := HLE.out; omega
  clear hN hok hir hL
  go_enter Try.func37, Try.ntmps37
  go_wp2_with (first
    | ((with_reducible refine at_load (.tmp 2) ?_); refine wpList_load_g 25 (.tmp 2) rfl w.heap.size rfl #[.slice a m cap] _ S0.out.t Try.underlying25 rfl hi1 rfl ?_)
    | (go_at_call 48; refine (HDE.out _ S0.out.b).mono ?_; rintro e w1 ⟨rfl, hb⟩; have S1 := Lib.hid (S0.out.call hb); clear hb)
    | ((with_reducible refine at_makeEl (.tmp 9) ?_); refine wpList_makeN rfl (.tmp 9) rfl .i64 L rfl (by omega) ?_; intro w2 hb2 hr2; have S2 := Lib.hid (S1.out.call hb2); have R2 := Lib.hid hr2; clear hb2 hr2))
  obtain ⟨g, hg⟩ : ∃ g, w1.heap.size = g := ⟨_, rfl⟩
  have hgw : w.heap.size < g := by rw [← hg]; exact S1.out.t.lt
  rw [hg] at R2 ⊢
  clear hg
  go_loopw [1, 6] (fun iv pv wr => PacI w #[.slice a m cap] ns g x iv pv wr) (fun _ pv _ => (intOf pv + 1).toNat)
  case atStart => exact ⟨x, (L : Int) - 1, [], rfl, by go_num, by rw [HL.out]; omega, by simp, by rw [HL.out, List.append_nil]; exact R2.out, S2.out⟩
  case round =>
    obtain ⟨i, p, D, rfl, rfl, hp, hpx, hrow, hs⟩ := hrel
    have S3 := Lib.hid hs
    have HPX := Lib.hid hpx
    have HROW := Lib.hid hrow
    have HPP := Lib.hid hp
    clear hs hpx hrow hp
    by_cases hi : 0 ≤ i ∧ i < m
    case neg =>
      have hout : pathN ns i = [] := pathN_out (by rw [hm.out]; exact hi)
      have hp1 : p = -1 := by have := HPP.out; rw [hout] at this; simp at this; omega
      subst hp1
      have HD : Hid (pathN ns x = D) := by show _ = _; rw [HPX.out, hout]; rfl
      have R3 : Hid (RowB wr g (numL .i64 D)) := by show RowB _ _ _; have := HROW.out; rw [hout] at this; exact this
      have HDL : Hid (L = D.length) := by show L = _; rw [← HL.out, HD.out]
      clear hi hout
      go_wp2_with fail
      go_ret
      exact ⟨_, rfl, ⟨by rw [HD.out]; exact R3.out.ints HDL.out (by unfold maxLen; have := HDL.out; omega), fun y hy => by have := HRG.out y hy; omega⟩, S3.out.b⟩
    obtain ⟨k, rfl⟩ : ∃ k : Nat, i = k := ⟨i.toNat, by omega⟩
    have hkm0 : (k : Int) < m := hi.2
    have hkl : k < ns.length := by rw [hm.out]; omega
    clear hi
    have hkn : k < ns.length := by omega
    obtain ⟨b, off, rfl, hlm, hbb, hna, _⟩ := HN.out.elem hkn
    have HUP := Lib.hid hna.up
    have HSL := Lib.hid hna.bk.slot
    obtain ⟨hu0, hu1, hupp⟩ := up_path HOK.out hkn
    obtain ⟨u, hu⟩ : ∃ u, ns[k].up = u := ⟨_, rfl⟩
    obtain ⟨sl, hsl⟩ : ∃ sl, ns[k].b.slot = sl := ⟨_, rfl⟩
    rw [hu] at HUP hupp hu0 hu1
    obtain ⟨l, hl⟩ : ∃ l, (pathN ns u).length = l := ⟨_, rfl⟩
    have hpl : p = l := by have := HPP.out; rw [hupp, List.length_append, List.length_singleton, hl] at this; omega
    subst hpl
    have HNX : Hid (pathN ns x = pathN ns u ++ (k : Int) :: D) := by show _ = _; rw [HPX.out, hupp, List.append_assoc]; rfl
    have hrow := HROW.out
    rw [hupp, List.length_append, List.length_singleton, hl] at hrow
    have HSET := Lib.hid (set_rep l (k : Int) D)
    obtain ⟨X, hX⟩ : ∃ X, List.replicate (l + 1) 0 ++ D = X := ⟨_, rfl⟩
    have HXL : Hid (l < X.length) := by show l < _; rw [← hX]; simp; omega
    rw [hX] at hrow HSET
    have R3 := Lib.hid hrow
    have HLU := Lib.hid hl
    have hlL : (l : Int) < L := by
      have h1 := HL.out
      rw [HNX.out, List.length_append, hl, List.length_cons] at h1
      omega
    have HU2 := Lib.hid ((S3.out.b.cell (p := ⟨b, off + k * 240 + 238, none⟩) hbb).trans HUP.out)
    clear hlm hna hu hsl hupp HSL hl hX hrow
    go_wp2_with (first
      | ((with_reducible refine at_store (.tmp 21) ?_); refine wpList_store_num rfl 3 (.tmp 21) _ rfl g l .i64 X (k : Int) R3.out HXL.out rfl rfl rfl ?_; intro w4 U4 B4; rw [HSET.out] at B4; have S4 : Hid (PaS w #[.slice (some ⟨b, off, none⟩) m cap] w4) := ⟨U4.blk S3.out.t (by omega), U4.below S3.out.b (by omega)⟩; have HU4 := Lib.hid ((S4.out.b.cell (p := ⟨b, off + k * 240 + 238, none⟩) hbb).trans HUP.out); have R4 := Lib.hid B4; clear U4 B4)
      | ((with_reducible refine at_load (.tmp 22) ?_); refine wpList_load_1 23 (.tmp 22) rfl w.heap.size 0 (.slice (some ⟨b, off, none⟩) m cap) (S4.out.t.cell 0) rfl _ Try.underlying23 rfl rfl ?_)
      | ((with_reducible refine at_load (.tmp 26) ?_); refine wpList_load_1 3 (.tmp 26) rfl b (off + k * 240 + 238) (.int .i64 u) HU4.out rfl _ Try.underlying3 rfl rfl ?_))
    go_roundw
    case rel => exact ⟨u, (l : Int) - 1, (k : Int) :: D, by go_num, by go_num, by rw [HLU.out]; omega, HNX.out, by rw [HLU.out]; exact R4.out, S4.out⟩
    case measure => simp [intOf]
/-! ### Descendants -/

def DecI (w : World) (T : Array Value) (g : Nat) (ns : List NdD) (x m : Nat) (p : Nat → Bool) (dv cv : Value) (wr : World) : Prop :=
  ∃ k : Nat, x < k ∧ k ≤ m ∧ cv = .int .i64 k ∧ OwnK .i64 3 wr (g + 1) dv (selK p k) ∧ RowB wr g (bolL (undL ns (x : Int) m k)) ∧ PaS w T wr

theorem OwnK.offG {g : Nat} {wr : World} {v : Value} {xs : List Int} (h : OwnK .i64 3 wr (g + 1) v xs) : ∀ j, v.ownBlock = some j → g < j := fun j hj => by have := (h.lt j hj).1; omega

set_option maxHeartbeats 8000000 in
theorem ande_any (ns : List NdD) (hok : TrOK ns) (hlen : ns.length ≤ 100000) (x : Int) (v : Value) (w : World) (hN : NodesV w v ns) :
    Calls Try.prog 38 #[.agg #[v], .int .i64 x] w (SelE (descN ns x) w) := by
  obtain ⟨a, cap, rfl, hmx⟩ := hN.shape
  unfold maxLen at hmx
  have HIS := Lib.hid (fun (k : Int) u (hu : Below w.heap.size w u) => ani_any _ ns k u (hN.call hu))
  have HN := Lib.hid hN
  have HOK := Lib.hid hok
  have hi1 : (Try.prog.info? 25).map (·.size) = some 1 := by kernel_rfl
  obtain ⟨m, hm⟩ : ∃ m, Hid (ns.length = m) := ⟨_, Lib.hid rfl⟩
  rw [hm.out] at hmx HIS HN hlen ⊢
  have S0 := Lib.hid (pas_new w #[.slice a m cap] 25)
  have HII := Lib.hid info_int
  by_cases hx : 0 ≤ x ∧ x < m
  case neg =>
    have HX : Hid (decide (0 ≤ x ∧ x < (m : Int)) = false) := decide_eq_false hx
    have HR : Hid (descN ns x = []) := desc_out hok (by rw [hm.out]; exact hx)
    clear hN hok hx
    go_enter Try.func38, Try.ntmps38
    go_wp2_with (first
        | ((with_reducible refine at_load (.tmp 2) ?_); refine wpList_load_g 25 (.tmp 2) rfl w.heap.size rfl #[.slice a m cap] _ S0.out.t Try.underlying25 rfl hi1 rfl ?_)
        | (go_at_call 49; refine (HIS.out x _ S0.out.b).mono ?_; rintro e w1 ⟨rfl, hb⟩; rw [HX.out]; have S1 := Lib.hid (S0.out.call hb); clear hb))
    go_ret
    exact ⟨_, rfl, by rw [HR.out]; exact OwnK.nil _ _ _ _, S1.out.b⟩
  have HX : Hid (decide (0 ≤ x ∧ x < (m : Int)) = true) := decide_eq_true hx
  obtain ⟨z, rfl⟩ : ∃ z : Nat, x = z := ⟨x.toNat, by omega⟩
  have hzm : (z : Int) < m := hx.2
  have hzl : z < ns.length := by rw [hm.out]; omega
  have HF1 := Lib.hid (undL_first hok hzl m)
  have HF2 := Lib.hid (selK_first hok hzl)
  have HP : Hid (descN ns (z : Int) = selK (fun k => decide ((z : Int) ∈ pathN ns (k : Int))) m) := by show _ = _; unfold descN; rw [hm.out]
  clear hN hok hx
  go_enter Try.func38, Try.ntmps38
  go_wp2_with (first
    | ((with_reducible refine at_load (.tmp 2) ?_); refine wpList_load_g 25 (.tmp 2) rfl w.heap.size rfl #[.slice a m cap] _ S0.out.t Try.underlying25 rfl hi1 rfl ?_)
    | (go_at_call 49; refine (HIS.out (z : Int) _ S0.out.b).mono ?_; rintro e w1 ⟨rfl, hb⟩; rw [HX.out]; have S1 := Lib.hid (S0.out.call hb); clear hb)
    | ((with_reducible refine at_load (.tmp 12) ?_); refine wpList_load_1 23 (.tmp 12) rfl w.heap.size 0 (.slice a m cap) (S1.out.t.cell 0) rfl _ Try.underlying23 rfl rfl ?_)
    | ((with_reducible refine at_makeEl (.tmp 14) ?_); refine wpList_make_bol rfl (.tmp 14) rfl .i64 m rfl (by omega) ?_; intro w2 hb2 hr2; have S2 := Lib.hid (S1.out.call hb2); have R2 := Lib.hid hr2; clear hb2 hr2)
    | ((with_reducible refine at_store (.tmp 18) ?_); refine wpList_store_bol rfl 4 (.tmp 18) _ rfl w1.heap.size z (List.replicate m false) true R2.out (by rw [List.length_replicate]; omega) rfl rfl rfl ?_; intro w3 U3 B3; rw [HF1.out] at B3; have HW1 : Hid (w.heap.size < w1.heap.size) := S1.out.t.lt; have S3 : Hid (PaS w #[.slice a m cap] w3) := ⟨U3.blk S2.out.t (by have := HW1.out; omega), U3.below S2.out.b (by have := HW1.out; omega)⟩; have R3 := Lib.hid B3; clear U3 B3))
  obtain ⟨g, hg⟩ : ∃ g, w1.heap.size = g := ⟨_, rfl⟩
  have hgw : w.heap.size < g := by rw [← hg]; exact S1.out.t.lt
  rw [hg] at R3 ⊢
  have hg3 : g < w3.heap.size := R3.out.lt
  have hal : Below w3.heap.size w3 (w3.alloc (.cells #[.int .i64 (z : Int)] 3)) := (Below.refl _ _).alloc (Nat.le_refl _) _
  have HO4 : Hid (OwnK .i64 3 (w3.alloc (.cells #[.int .i64 (z : Int)] 3)) (g + 1) (.slice (some ⟨w3.heap.size, 0, none⟩) 1 1) [(z : Int)]) := own_one _ _ _ hg3
  have R4 := Lib.hid (R3.out.call hal)
  have S4 := Lib.hid (S3.out.call hal)
  obtain ⟨p, hp⟩ : ∃ p : Nat → Bool, (fun (k : Nat) => decide ((z : Int) ∈ pathN ns (k : Int))) = p := ⟨_, rfl⟩
  have HPP : Hid (∀ k : Nat, decide ((z : Int) ∈ pathN ns (k : Int)) = p k) := fun k => by rw [← hp]
  rw [hp] at HF2 HP
  clear hg hal hp hg3
  go_loopw [6, 7] (fun dv cv wr => DecI w #[.slice a m cap] g ns z m p dv cv wr) (fun _ cv _ => m - (intOf cv).toNat)
  case atStart => exact ⟨z + 1, by omega, by omega, by go_num, by rw [HF2.out]; exact HO4.out, R4.out, S4.out⟩
  case round =>
    obtain ⟨k, hzk, hkm, rfl, hown, hrow, hs⟩ := hrel
    have HOW := Lib.hid hown
    have R5 := Lib.hid hrow
    have S5 := Lib.hid hs
    have HXL := Lib.hid (selK_len p k)
    clear hown hrow hs
    by_cases hlt : k < m
    case neg =>
      obtain rfl : k = m := by omega
      go_wp2_with (first
        | ((with_reducible refine at_load (.tmp 24) ?_); refine wpList_load_1 23 (.tmp 24) rfl w.heap.size 0 (.slice a k cap) (S5.out.t.cell 0) rfl _ Try.underlying23 rfl rfl ?_))
      go_ret
      exact ⟨_, rfl, by rw [HP.out]; exact HOW.out.lower (by omega), S5.out.b⟩
    have hkm0 : (k : Int) < m := by omega
    have hkl : k < ns.length := by rw [hm.out]; omega
    have hk0 : 0 < k := by omega
    have hkn : k < ns.length := by omega
    obtain ⟨b, off, rfl, hlm, hbb, hna, _⟩ := HN.out.elem hkn
    have HUP := Lib.hid hna.up
    have HSL := Lib.hid hna.bk.slot
    obtain ⟨hu0, hu1, hupp⟩ := up_path HOK.out hkn
    have hun := HOK.out.upAt hkn hk0
    have hst := isan_step HOK.out hkn (a := (z : Int)) (by omega)
    rw [HPP.out k] at hst
    obtain ⟨u, hu⟩ : ∃ u, ns[k].up = u := ⟨_, rfl⟩
    obtain ⟨sl, hsl⟩ : ∃ sl, ns[k].b.slot = sl := ⟨_, rfl⟩
    rw [hu] at HUP hst hu0 hu1 hun
    obtain ⟨y, rfl⟩ : ∃ y : Nat, u = y := ⟨upAt ns k, hun.2.2⟩
    have hyl : y < m := by omega
    have hyk : y < k := by omega
    have hym : (y : Int) < m := by omega
    have HBC := Lib.hid (R5.out.bol (i := y) (by rw [undL_len]; exact hyl))
    rw [undL_get hyl hyk, ← hst] at HBC
    have HU2 := Lib.hid ((S5.out.b.cell (p := ⟨b, off + k * 240 + 238, none⟩) hbb).trans HUP.out)
    clear hlm hna hu hsl hupp hun HSL hst
    cases hpk : p k
    case false =>
      have HNX := Lib.hid (selK_no hpk)
      have HNU := Lib.hid (undL_no (m := m) ((HPP.out k).trans hpk))
      rw [hpk] at HBC
      clear hpk
      go_wp2_with (first
        | ((with_reducible refine at_load (.tmp 24) ?_); refine wpList_load_1 23 (.tmp 24) rfl w.heap.size 0 (.slice (some ⟨b, off, none⟩) m cap) (S5.out.t.cell 0) rfl _ Try.underlying23 rfl rfl ?_)
        | ((with_reducible refine at_load (.tmp 31) ?_); refine wpList_load_1 23 (.tmp 31) rfl w.heap.size 0 (.slice (some ⟨b, off, none⟩) m cap) (S5.out.t.cell 0) rfl _ Try.underlying23 rfl rfl ?_)
        | ((with_reducible refine at_load (.tmp 35) ?_); refine wpList_load_1 3 (.tmp 35) rfl b (off + k * 240 + 238) (.int .i64 (y : Int)) HU2.out rfl _ Try.underlying3 rfl rfl ?_)
        | ((with_reducible refine at_load (.tmp 37) ?_); refine wpList_load_1 4 (.tmp 37) rfl g y (.bool false) HBC.out rfl _ Try.underlying4 rfl rfl ?_))
      go_roundw
      case rel => exact ⟨k + 1, by omega, by omega, by go_num, by rw [HNX.out]; exact HOW.out, by rw [HNU.out]; exact R5.out, S5.out⟩
      case measure => simp [intOf]; omega
    case true =>
      have HNX := Lib.hid (selK_yes hpk)
      have HNU := Lib.hid (undL_set (m := m) ((HPP.out k).trans hpk))
      rw [hpk] at HBC
      clear hpk
      go_wp2_with (first
        | ((with_reducible refine at_load (.tmp 24) ?_); refine wpList_load_1 23 (.tmp 24) rfl w.heap.size 0 (.slice (some ⟨b, off, none⟩) m cap) (S5.out.t.cell 0) rfl _ Try.underlying23 rfl rfl ?_)
        | ((with_reducible refine at_load (.tmp 31) ?_); refine wpList_load_1 23 (.tmp 31) rfl w.heap.size 0 (.slice (some ⟨b, off, none⟩) m cap) (S5.out.t.cell 0) rfl _ Try.underlying23 rfl rfl ?_)
        | ((with_reducible refine at_load (.tmp 35) ?_); refine wpList_load_1 3 (.tmp 35) rfl b (off + k * 240 + 238) (.int .i64 (y : Int)) HU2.out rfl _ Try.underlying3 rfl rfl ?_)
        | ((with_reducible refine at_load (.tmp 37) ?_); refine wpList_load_1 4 (.tmp 37) rfl g y (.bool true) HBC.out rfl _ Try.underlying4 rfl rfl ?_)
        | ((with_reducible refine at_store (.tmp 41) ?_); refine wpList_store_bol rfl 4 (.tmp 41) _ rfl g k (undL ns (z : Int) m k) true R5.out (by rw [undL_len]; exact hlt) rfl rfl rfl ?_; intro w6 U6 B6; rw [HNU.out] at B6; have S6 : Hid (PaS w #[.slice (some ⟨b, off, none⟩) m cap] w6) := ⟨U6.blk S5.out.t (by omega), U6.below S5.out.b (by omega)⟩; have HO6 := Lib.hid (HOW.out.grown (upd_grown U6) (fun n hn e => by have := HOW.out.offG n hn; cases e; omega)); have R6 := Lib.hid B6; clear U6 B6)
        | ((with_reducible refine at_app (.tmp 42) (.tmp 44) ?_); refine wpList_app1 HII.out (by omega) Try.underlying22 (.tmp 42) (.tmp 44) rfl rfl (g + 1) _ _ rfl (HO6.out.grown (World.grownBy_alloc _ (.cells #[.int .i64 (k : Int)] 3) none) (fun n _ => by simp)) w6.heap.size 1 (k : Int) rfl ((Blk.new rfl).cell 0) (by have := HXL.out; omega) (by have := R6.out.lt; simp; omega) ?_; intro v7 w7 h7 g7 o7; rw [← HNX.out] at h7; have HO7 := Lib.hid h7; have S7 := Lib.hid ((S6.out.call ((Below.refl w6.heap.size w6).alloc (Nat.le_refl _) (.cells #[.int .i64 (k : Int)] 3))).grown g7 (fun j hj => by have := HO6.out.offG j hj; omega)); have R7 := Lib.hid ((R6.out.call ((Below.refl w6.heap.size w6).alloc (Nat.le_refl _) (.cells #[.int .i64 (k : Int)] 3))).grown g7 (fun e => by have := HO6.out.offG _ e.symm; omega)); clear h7 g7 o7))
      go_roundw
      case rel => exact ⟨k + 1, by omega, by omega, by go_num, HO7.out, R7.out, S7.out⟩
      case measure => simp [intOf]; omega
end

/-! SuB -/
section
set_option linter.unusedVariables false
set_option linter.unusedSimpArgs false
open Go.RowKit

set_option maxRecDepth 100000

theorem oneNd (ds : List NdD) : ∀ u ∈ (ds.map NdD.cells).flatten, u.oneCell' = true := fun u hu => by
  obtain ⟨L, hL, hu⟩ := List.mem_flatten.1 hu
  obtain ⟨v, _, rfl⟩ := List.mem_map.1 hL
  exact NdD.one v u hu

theorem rowsNd (ds : List NdD) : rowsL (ds.map fun v => v.cells.toArray) = (ds.map NdD.cells).flatten := by simp [rowsL, List.map_map, Function.comp_def]

theorem lenNd {ds : List NdD} (h : ∀ d ∈ ds, d.ok) : (ds.map NdD.cells).flatten.length = ds.length * 240 := by
  rw [← rowsNd, rowsL_len (sz := 240), List.length_map]
  intro X hX
  obtain ⟨d, hd, rfl⟩ := List.mem_map.1 hX
  rw [List.size_toArray, NdD.len (h d hd)]

/-- The cells of a slice of nodes that isn't empty. -/
theorem NodesV.rowN {w : World} {v : Value} {ds : List NdD} (h : NodesV w v ds) (h0 : 0 < ds.length) :
    ∃ b off c, v = .slice (some ⟨b, off, none⟩) ds.length c ∧ b < w.heap.size ∧ w.rangeAt b off (ds.map NdD.cells).flatten ∧ ds.length ≤ maxLen := by
  obtain ⟨a, cap, rfl, hm, hr⟩ := h
  rcases hr with h1 | ⟨b, off, rfl, hb, Xs, hrg, hA⟩
  · omega
  · have hX : Xs = ds.map fun d => d.cells.toArray := by
      apply List.ext_getElem (by simp [hA.1])
      intro i hi hj
      have hid : i < ds.length := by simpa using hj
      rw [List.getElem_map]
      exact (hA.at hid).1
    refine ⟨b, off, cap, rfl, hb, ?_, hm⟩
    rw [hX, rowsNd] at hrg; exact hrg

set_option maxHeartbeats 1000000 in
theorem cloneN (b off c : Nat) (ds : List NdD) (w : World) (h : w.rangeAt b off (ds.map NdD.cells).flatten) (hb : b < w.heap.size) (ho : ∀ d ∈ ds, d.ok) (hl : ds.length ≤ 100000) :
    Calls Try.prog 47 #[.slice (some ⟨b, off, none⟩) ds.length c] w fun e w' => ∃ v', e = .returned v' ∧ OwnEl NdEl 41 240 w' w.heap.size v' ds ∧ Below w.heap.size w w' := by
  obtain ⟨i0, hi, hz0, hz1, hz2⟩ := info_parts info_node
  have q22 : ∀ (w : World) (a : Option Addr) (n c n' c' : Nat), (binOp .eql 23 (.slice a n c) (.slice none n' c')).run Try.prog w = .ok (.bool a.isNone) w := fun w a n c n' c' => Lib.run_eql_slice_nil w _ _ a n c n' c' Try.underlying23
  have HR := Lib.hid h
  have HO := Lib.hid ho
  have HN := Lib.hid (lenNd ho)
  obtain ⟨ZN, hZN⟩ : ∃ Z, flatP (zeBkP ++ [[.int .i64 0], [.int .i64 0]]) = Z := ⟨_, rfl⟩
  have hz3 : (Value.agg ZN).cells.size = 240 := by rw [← hZN]; rfl
  rw [hZN] at hz0
  have hz1' : i0.size = 240 := hz1
  clear h ho hz1 hZN
  go_enter Try.func47, Try.ntmps47
  go_wp2_with (at_builtin; refine wpList_append_own _ rfl _ _ 23 rfl w.heap.size 41 i0 (.agg ZN) 240 352 Try.underlying23 hi hz0 hz1' hz2 hz3 (by decide) _ _ _ rfl (World.ownsRow_made w #[] 0 (Nat.le_refl _) (Nat.zero_le _) rfl) ⟨b, off, none⟩ ds.length c (ds.map NdD.cells).flatten rfl HN.out (fun j u hj => by rw [Go.WideShapes.add_plain]; exact (((Below.refl w.heap.size w).alloc (Nat.le_refl _) _).cell (p := ⟨b, off + j, none⟩) hb).trans (HR.out j u hj)) (oneNd ds) (by unfold maxLen; omega) (by omega) (by simp) ?_)
  intro v' w1 hown hgrow hnil
  go_wp2
  go_ret
  refine ⟨_, rfl, ⟨ds.map fun v => v.cells.toArray, ?_, by simp, ?_⟩, ((Below.refl _ w).alloc (Nat.le_refl _) _).grown hgrow (by simp) (by intro k hk; simp [Value.ownBlock] at hk; omega)⟩
  · rw [rowsNd]; simpa using hown
  · intro p hp
    obtain ⟨i, hi, rfl⟩ := List.mem_iff_getElem.1 hp
    simp only [List.length_zip, List.length_map] at hi
    simp only [List.getElem_zip, List.getElem_map]
    exact ⟨rfl, HO.out _ (List.getElem_mem _)⟩
/-! ### settle -/

structure SuS (w : World) (g : Nat) (sp : List Value) (lv : Value) (l : List Int) (us : List NdD) (u : World) : Prop where
  r : Blk u (w.heap.size + 1) #[.slice none 0 0]
  n : Blk u g (flatP (ndP us ++ [sp]))
  l : IntsV u lv l
  b : Below w.heap.size w u

theorem SuS.setS {w : World} {g : Nat} {sp : List Value} {lv : Value} {l : List Int} {us us' : List NdD} {u u' : World} (h : SuS w g sp lv l us u) (h2 : w.heap.size + 1 < g) (ho : Off g lv) (U : Upd g u u') (B : Blk u' g (flatP (ndP us' ++ [sp]))) : SuS w g sp lv l us' u' :=
  ⟨U.blk h.r (by omega), B, ⟨h.l.1.grownOff (upd_grown U) (fun g' e => by cases e; exact ho), h.l.2⟩, U.below h.b (by omega)⟩
noncomputable instance (ns : List NdD) (l : List Int) (f : Int) : Decidable (freeS ns l f) := Classical.propDecidable _

/-- What settle answers. -/
noncomputable def setN (ns : List NdD) (l : List Int) (s f : Int) : List NdD × Int :=
  if l = [] then ([], 10) else if freeS ns l f then (stN ns (pkT l l.length) s, 0) else ([], 21)

set_option maxHeartbeats 16000000 in
theorem settle_any (ns : List NdD) (hlen : ns.length ≤ 100000) (v lv : Value) (l : List Int) (s f : Int) (hsf : s ≠ f) (hl : ∀ x ∈ l, 0 ≤ x ∧ x < ns.length) (hs : -9223372036854775808 ≤ s ∧ s ≤ 9223372036854775807) (w : World) (hN : NodesV w v ns) (hI : IntsV w lv l) :
    Calls Try.prog 36 #[.agg #[v], lv, .int .i64 s, .int .i64 f] w (SetE (setN ns l s f) w) := by
  have hi1 : (Try.prog.info? 25).map (·.size) = some 1 := by kernel_rfl
  have hiI : (Try.prog.info? 3).map (·.size) = some 1 := by kernel_rfl
  have HOKS := Lib.hid hN.oks
  have HI := Lib.hid hI
  have HL := Lib.hid hl
  obtain ⟨la, lm, lc, rfl⟩ := ints_shape' hI.1
  have HLM := Lib.hid hI.len
  have hlm := hI.len.2
  unfold maxLen at hlm
  by_cases hl0 : lm = 0
  · subst hl0
    have hnil : l = [] := List.eq_nil_of_length_eq_zero hI.len.1
    have HR : Hid (setN ns l s f = ([], 10)) := by show _ = _; unfold setN; rw [if_pos hnil]
    have S0 := Lib.hid (pas_new w #[v] 25)
    have S1 : Hid (Below w.heap.size w ((w.alloc (.cells #[v] 25)).alloc (.cells #[.slice none 0 0] 25)) ∧ Blk ((w.alloc (.cells #[v] 25)).alloc (.cells #[.slice none 0 0] 25)) (w.heap.size + 1) #[.slice none 0 0]) := ⟨S0.out.b.alloc S0.out.b.size _, Blk.new (by simp)⟩
    clear hN hI hl hnil S0
    go_enter Try.func36, Try.ntmps36
    go_wp2_with (first
      | ((with_reducible refine at_build (some 16) ?_); refine wpList_build_g 25 _ rfl #[] (by simp) (.agg #[.slice none 0 0]) (bz_tree _) rfl ?_)
      | ((with_reducible refine at_store (.tmp 8) ?_); refine wpList_store_blk rfl 25 (.tmp 8) _ rfl (w.heap.size + 1) #[.slice none 0 0] rfl rfl #[.slice none 0 0] S1.out.2 rfl hi1 (by simp [Value.oneCell']) ?_; intro w9 U9 B9; have HR9 := Lib.hid B9; have HB9 := Lib.hid (U9.below S1.out.1 (by omega)); clear U9 B9))
    exact bodyPost_ret (res_cell_tmp rfl rfl rfl HR9.out Try.underlying25 rfl hi1) rfl (by rw [HR.out]; exact ⟨_, rfl, nodes_nil _, CapOK.nil, New.nil _, HB9.out⟩)
  have h0 : 0 < ns.length := by
    have hll := hI.len.1
    cases l with
    | nil => simp at hll; omega
    | cons x xs => have := hl x (by simp); omega
  have hne : l ≠ [] := fun e => by have := hI.len.1; rw [e] at this; simp at this; omega
  have hlz : ((lm : Int) == 0) = false := by simp; omega
  obtain ⟨b0, o0, c0, rfl, hb0, hrg, hmx⟩ := hN.rowN h0
  have HCL := Lib.hid (fun u (hu : Below w.heap.size w u) => cloneN b0 o0 c0 ns u (Below.rng hu hb0 hrg) (Nat.lt_of_lt_of_le hb0 hu.size) hN.oks hlen)
  have HQY : Hid (freeS ns l f → setN ns l s f = (stN ns (pkT l l.length) s, 0)) := fun h => by unfold setN; rw [if_neg hne, if_pos h]
  have HQN : Hid (¬ freeS ns l f → setN ns l s f = ([], 21)) := fun h => by unfold setN; rw [if_neg hne, if_neg h]
  obtain ⟨q, hq⟩ : ∃ q, setN ns l s f = q := ⟨_, rfl⟩
  rw [hq] at HQY HQN ⊢
  obtain ⟨m, hm⟩ : ∃ m, Hid (ns.length = m) := ⟨_, Lib.hid rfl⟩
  rw [hm.out] at HCL HL h0 hlen hmx ⊢
  have S0 := Lib.hid (pas_new w #[.slice (some ⟨b0, o0, none⟩) m c0] 25)
  have S1 : Hid (PaS w #[.slice (some ⟨b0, o0, none⟩) m c0] ((w.alloc (.cells #[.slice (some ⟨b0, o0, none⟩) m c0] 25)).alloc (.cells #[.slice none 0 0] 25)) ∧ Blk ((w.alloc (.cells #[.slice (some ⟨b0, o0, none⟩) m c0] 25)).alloc (.cells #[.slice none 0 0] 25)) (w.heap.size + 1) #[.slice none 0 0]) := ⟨⟨S0.out.t.alloc _, S0.out.b.alloc S0.out.b.size _⟩, Blk.new (by simp)⟩
  clear hN hI hl S0 hq hne hl0 hrg hb0
  go_enter Try.func36, Try.ntmps36
  go_wp2_with (first
    | ((with_reducible refine at_load (.tmp 17) ?_); refine wpList_load_1 23 (.tmp 17) rfl w.heap.size 0 (.slice (some ⟨b0, o0, none⟩) m c0) (S1.out.1.t.cell 0) rfl _ Try.underlying23 rfl rfl ?_)
    | (go_at_call 47; refine (HCL.out _ S1.out.1.b).mono ?_; rintro e w3 ⟨v3, rfl, ho3, hb3⟩; have HO3 := Lib.hid ho3; have hsh3 := ho3.shape; obtain ⟨xa, xc, rfl, _, hxc, _⟩ := hsh3; rw [hm.out] at HO3 hxc ⊢; have S3 : Hid (Blk w3 (w.heap.size + 1) #[.slice none 0 0] ∧ Below w.heap.size w w3) := ⟨S1.out.2.call hb3, S1.out.1.b.trans (hb3.mono S1.out.1.b.size)⟩; clear ho3 hb3))
  obtain ⟨g, hg, hgb⟩ : ∃ g, xa = some ⟨g, 0, none⟩ ∧ w.heap.size + 2 ≤ g ∧ g < w3.heap.size := by
    obtain ⟨Xs, h1, _⟩ := HO3.out
    rcases h1.2 with ⟨e, h'⟩ | ⟨g, cap, cur, e, hb, _⟩
    · rw [hm.out] at h'; omega
    · have hlt := HO3.out.lt g (by rw [e]; rfl)
      injection e with e1 _ _
      refine ⟨g, e1, ?_, hlt.2⟩
      have := hlt.1
      simp at this
      omega
  subst hg
  obtain ⟨sp, hrow, _⟩ := own_row HO3.out
  have SE0 : Hid (SuS w g sp (.slice la lm lc) l (stN ns (pkT l 0) s) w3) := by
    have e : stN ns (pkT l 0) s = ns := by
      rw [show pkT l 0 = fun _ => false from by funext j; simp [pkT]]; exact stN_none ns s
    rw [e]
    exact ⟨S3.out.1, hrow, ⟨HI.out.1.below S3.out.2, HI.out.2⟩, S3.out.2⟩
  have HIO : Hid (Off g (.slice la lm lc)) := fun z l' c' e h' => by
    obtain ⟨a', n', c'', e', _, _, hr⟩ := HI.out.1
    cases e; cases e'
    rcases hr with h | ⟨b, o, e2, hb, _⟩
    · omega
    · cases e2; show b ≠ g; omega
  clear S1 S3 HO3 hrow HCL
  go_loopw [22] (fun j wr => ∃ k : Nat, k ≤ lm ∧ j = .int .i64 k ∧ (∀ x ∈ l.take k, (ndN ns x.toNat).st ≠ f) ∧ SuS w g sp (.slice la lm lc) l (stN ns (pkT l k) s) wr) (fun j _ => lm - (intOf j).toNat)
  case atStart => exact ⟨0, Nat.zero_le _, rfl, by simp, SE0.out⟩
  case round =>
    obtain ⟨k, hk, rfl, hfr, hS⟩ := hrel
    have SS := Lib.hid hS
    have HFR := Lib.hid hfr
    clear SE0 hS hfr
    by_cases hlt : k < lm
    case neg =>
      obtain rfl : k = lm := by omega
      have hall : l.take k = l := List.take_of_length_le (by rw [HLM.out.1]; exact Nat.le_refl _)
      have HQ : Hid (q = (stN ns (pkT l l.length) s, 0)) := by
        have := HFR.out
        rw [hall] at this
        exact (HQY.out this)
      go_wp2_with (first
        | ((with_reducible refine at_build (some 41) ?_); refine wpList_build_g 25 _ rfl #[(0, .slice (some ⟨g, 0, none⟩) m xc)] (by simp [Act.eval, Act.put]) (.agg #[.slice (some ⟨g, 0, none⟩) m xc]) (b_tree _ _ _ _) rfl ?_)
        | ((with_reducible refine at_store (.tmp 8) ?_); refine wpList_store_blk rfl 25 (.tmp 8) _ rfl (w.heap.size + 1) #[.slice (some ⟨g, 0, none⟩) m xc] rfl rfl #[.slice none 0 0] SS.out.r rfl hi1 (by simp [Value.oneCell']) ?_; intro w9 U9 B9; have HR9 := Lib.hid B9; have HU9 := Lib.hid U9; have HB9 := Lib.hid (U9.below SS.out.b (by omega)); clear U9 B9))
      refine bodyPost_ret (res_cell_tmp rfl rfl rfl HR9.out Try.underlying25 rfl hi1) rfl ?_
      have hn := HU9.out.blk SS.out.n (by omega)
      have hu : ∀ d ∈ stN ns (pkT l k) s, d.ok := stN_oks HOKS.out _ hs
      have h9 := row_nodes (cap := xc) hn hu (by rw [stN_len, hm.out]; unfold maxLen; omega)
      rw [stN_len, hm.out] at h9
      rw [HQ.out]
      refine ⟨_, rfl, ?_, ?_, ?_, HB9.out⟩
      · rw [HLM.out.1]; exact h9
      · intro a n c e; cases e; exact hxc
      · intro z l' c' e _; cases e; show _ ≤ g; omega
    have hlt' : (k : Int) < lm := by omega
    have hkl : k < l.length := by rw [HLM.out.1]; exact hlt
    obtain ⟨lb, lo, rfl, hlb, hlc⟩ := SS.out.l.at hkl
    have hxr := HL.out _ (getD_mem (l := l) (k := k) hkl)
    obtain ⟨x, hx⟩ : ∃ x : Nat, l.getD k 0 = x := ⟨(l.getD k 0).toNat, by omega⟩
    rw [hx] at hlc hxr
    have hxm : x < m := by omega
    have hxm' : (x : Int) < m := by omega
    have hxn : x < ns.length := by rw [hm.out]; exact hxm
    have hxu : x < (stN ns (pkT l k) s).length := by rw [stN_len]; exact hxn
    have hu : ∀ d ∈ stN ns (pkT l k) s, d.ok := stN_oks HOKS.out _ hs
    have HSUC := Lib.hid (pK_succ hkl hx)
    have hTK : l.take (k + 1) = l.take k ++ [(x : Int)] := by rw [List.take_succ_eq_append_getElem hkl]; rw [getD_at hkl] at hx; rw [hx]
    have HTK := Lib.hid hTK
    have HAT := Lib.hid (ndP_at hxu sp)
    have HOF := Lib.hid (ndP_off hu hxu sp)
    have HST := Lib.hid (fun (d : NdD) (hd : (stN ns (pkT l k) s)[x]? = some d) => stN_set hxn hd)
    have HPS := Lib.hid (ndP_set hxu sp s)
    have hst := (stN_b ns (pkT l k) s hxn hxu).2.2
    have hcs : ((stN ns (pkT l k) s)[x].st = f ↔ ns[x].st = f) := by
      rw [hst]
      by_cases hp : pkT l k x = true
      · rw [if_pos hp]
        have hm' : (x : Int) ∈ l.take k := by unfold pkT at hp; simpa using hp
        have h2 := HFR.out _ hm'
        rw [show ((x : Int)).toNat = x from rfl, ndN_at hxn] at h2
        exact ⟨fun e => absurd e hsf, fun e => absurd e h2⟩
      · rw [if_neg hp]
    have HCS : Hid ((stN ns (pkT l k) s)[x].st = f ↔ (ndN ns (x : Int).toNat).st = f) := by
      show _ ↔ _
      rw [show ((x : Int)).toNat = x from rfl, ndN_at hxn]; exact hcs
    have HSE : Hid ((stN ns (pkT l k) s)[x]? = some (stN ns (pkT l k) s)[x]) := List.getElem?_eq_getElem hxu
    obtain ⟨d, hd⟩ : ∃ d, (stN ns (pkT l k) s)[x] = d := ⟨_, rfl⟩
    rw [hd] at HAT HPS HCS HSE
    obtain ⟨us, hus⟩ : ∃ us, stN ns (pkT l k) s = us := ⟨_, rfl⟩
    rw [hus] at SS HAT HOF HST HPS HSE
    obtain ⟨cs, hcst⟩ : ∃ z, d.st = z := ⟨_, rfl⟩
    rw [hcst] at HAT HCS
    have C2 : Hid (wr.cell? ⟨lb, lo + k, none⟩ = some (.int .i64 x)) := hlc
    have C3 : Hid (wr.cell? ⟨g, x * 240 + 239, none⟩ = some (.int .i64 cs)) := by have := SS.out.n.part1 HAT.out; rw [HOF.out] at this; exact this
    have HLO : Hid (Off g (.slice (some ⟨lb, lo, none⟩) lm lc)) := HIO.out
    clear hd hus hcst hu hxu hst hcs hTK hx hlc hkl hxr
    by_cases hcf : cs = f
    · have hqq : (cs == f) = true := beq_iff_eq.2 hcf
      have HNF : Hid (¬ freeS ns l f) := fun h => h _ (List.mem_of_mem_take (i := k + 1) (a := (x : Int)) (by rw [HTK.out]; simp)) (HCS.out.1 hcf)
      have HQ : Hid (q = ([], 21)) := HQN.out HNF.out
      clear hcf
      go_wp2_with (first
        | ((with_reducible refine at_load (.tmp 24) ?_); refine wpList_load_1 3 (.tmp 24) rfl lb (lo + k) (.int .i64 x) C2.out rfl _ Try.underlying3 rfl rfl ?_)
        | ((with_reducible refine at_load (.tmp 29) ?_); refine wpList_load_1 3 (.tmp 29) rfl g (x * 240 + 239) (.int .i64 cs) C3.out rfl _ Try.underlying3 rfl rfl ?_)
        | ((with_reducible refine at_build (some 33) ?_); refine wpList_build_g 25 _ rfl #[] (by simp) (.agg #[.slice none 0 0]) (bz_tree _) rfl ?_)
        | ((with_reducible refine at_store (.tmp 8) ?_); refine wpList_store_blk rfl 25 (.tmp 8) _ rfl (w.heap.size + 1) #[.slice none 0 0] rfl rfl #[.slice none 0 0] SS.out.r rfl hi1 (by simp [Value.oneCell']) ?_; intro w9 U9 B9; have HR9 := Lib.hid B9; have HB9 := Lib.hid (U9.below SS.out.b (by omega)); clear U9 B9))
      exact bodyPost_ret (res_cell_tmp rfl rfl rfl HR9.out Try.underlying25 rfl hi1) rfl (by rw [HQ.out]; exact ⟨_, rfl, nodes_nil _, CapOK.nil, New.nil _, HB9.out⟩)
    · have hqq : (cs == f) = false := by rw [Bool.eq_false_iff]; intro h; exact hcf (beq_iff_eq.1 h)
      have HNF : Hid (∀ y ∈ l.take (k + 1), (ndN ns y.toNat).st ≠ f) := fun y hy => by
        rw [HTK.out] at hy
        rcases List.mem_append.1 hy with h | h
        · exact HFR.out y h
        · rw [List.mem_singleton.1 h]; exact fun e => hcf (HCS.out.2 e)
      clear hcf
      go_wp2_with (first
        | ((with_reducible refine at_load (.tmp 24) ?_); refine wpList_load_1 3 (.tmp 24) rfl lb (lo + k) (.int .i64 x) C2.out rfl _ Try.underlying3 rfl rfl ?_)
        | ((with_reducible refine at_load (.tmp 29) ?_); refine wpList_load_1 3 (.tmp 29) rfl g (x * 240 + 239) (.int .i64 cs) C3.out rfl _ Try.underlying3 rfl rfl ?_)
        | ((with_reducible refine at_store (.tmp 38) ?_); refine wpList_store_part1 rfl 3 (.tmp 38) _ rfl g (ndP us ++ [sp]) (3 * x + 2) (.int .i64 cs) (.int .i64 s) SS.out.n HAT.out (by rw [HOF.out]; rfl) rfl hiI rfl rfl ?_; intro w9 U9 B9; have S9 := Lib.hid (SS.out.setS (by omega) HLO.out U9 (HPS.out ▸ B9)); clear U9 B9))
      go_roundw
      case rel => exact ⟨k + 1, by omega, by go_num, HNF.out, by rw [HSUC.out, ← HST.out _ HSE.out]; exact S9.out⟩
      case measure => simp [intOf]; omega
/-! ### Raise, Condemn -/

theorem path_nil_iff {ns : List NdD} (hok : TrOK ns) {i : Int} : pathN ns i = [] ↔ ¬ (0 ≤ i ∧ i < ns.length) := by
  constructor
  · intro h hin
    obtain ⟨k, rfl⟩ : ∃ k : Nat, i = k := ⟨i.toNat, by omega⟩
    have := (up_path hok (k := k) (by omega)).2.2
    rw [h] at this
    simp at this
  · exact fun h => pathN_out h

theorem rai_set {ns : List NdD} (hok : TrOK ns) (i : Int) : raiN ns i = setN ns (pathN ns i) 1 2 := by
  unfold raiN setN
  by_cases hin : 0 ≤ i ∧ i < ns.length
  · rw [if_neg (fun h => h hin), if_neg (fun h => (path_nil_iff hok).1 h hin)]
    have hF := free_in (f := 2) (pathN_rng hok i) (p := onB ns i) (fun j _ => rfl)
    by_cases ha : anyS ns (onB ns i) 2
    · rw [if_pos ha, if_neg (fun h => hF.1 h ha)]
    · rw [if_neg ha, if_pos (hF.2 ha)]
      congr 1
      refine stN_cong2 ns 1 (fun j hj => ?_)
      unfold pkT onB; rw [List.take_length]
  · rw [if_pos hin, if_pos ((path_nil_iff hok).2 hin)]

theorem desc_nil_iff {ns : List NdD} (hok : TrOK ns) {i : Int} : descN ns i = [] ↔ ¬ (0 ≤ i ∧ i < ns.length) := by
  constructor
  · intro h hin
    obtain ⟨k, rfl⟩ : ∃ k : Nat, i = k := ⟨i.toNat, by omega⟩
    have hm : (k : Int) ∈ descN ns (k : Int) := by
      unfold descN
      refine selK_mem.2 ⟨k, by omega, rfl, ?_⟩
      simp only [decide_eq_true_eq]
      have := (up_path hok (k := k) (by omega)).2.2
      rw [this]; simp
    rw [h] at hm
    simp at hm
  · exact fun h => desc_out hok h

theorem con_set {ns : List NdD} (hok : TrOK ns) (i : Int) : conN ns i = setN ns (descN ns i) 2 1 := by
  unfold conN setN
  have hp : ∀ j, j < ns.length → belB ns i j = decide ((j : Int) ∈ descN ns i) := fun j hj => by
    unfold belB descN
    rw [Bool.eq_iff_iff, decide_eq_true_eq, decide_eq_true_eq, selK_mem]
    constructor
    · intro h; exact ⟨j, hj, rfl, by simpa using h⟩
    · rintro ⟨j', _, e, h⟩
      obtain rfl : j = j' := by omega
      simpa using h
  by_cases hin : 0 ≤ i ∧ i < ns.length
  · rw [if_neg (fun h => h hin), if_neg (fun h => (desc_nil_iff hok).1 h hin)]
    have hF := free_in (f := 1) (desc_rng ns i) hp
    by_cases ha : anyS ns (belB ns i) 1
    · rw [if_pos ha, if_neg (fun h => hF.1 h ha)]
    · rw [if_neg ha, if_pos (hF.2 ha)]
      congr 1
      refine stN_cong2 ns 2 (fun j hj => ?_)
      rw [hp j hj]; unfold pkT; rw [List.take_length]
  · rw [if_pos hin, if_pos ((desc_nil_iff hok).2 hin)]
end

/-! CdM -/
section
set_option linter.unusedVariables false
open Go.RowKit

/-- The encoding of a number: groups of seven bits, the least significant one first. -/
def uenc (n : Nat) : List Int := if h : n < 128 then [(n : Int)] else ((n % 128 + 128 : Nat) : Int) :: uenc (n / 128)
termination_by n
decreasing_by omega

theorem uenc_one {n : Nat} (h : n < 128) : uenc n = [(n : Int)] := by rw [uenc, dif_pos h]

theorem uenc_more {n : Nat} (h : ¬ n < 128) : uenc n = ((n % 128 + 128 : Nat) : Int) :: uenc (n / 128) := by rw [uenc, dif_neg h]

theorem uenc_byte (n : Nat) : ∀ x ∈ uenc n, 0 ≤ x ∧ x ≤ 255 := by
  induction n using Nat.strongRecOn with
  | ind n ih =>
    intro x hx
    by_cases h : n < 128
    · rw [uenc_one h] at hx
      simp at hx
      omega
    · rw [uenc_more h] at hx
      rcases List.mem_cons.1 hx with rfl | hx
      · omega
      · exact ih (n / 128) (by omega) x hx

theorem uenc_len (k : Nat) : ∀ n, n < 128 ^ (k + 1) → (uenc n).length ≤ k + 1 := by
  induction k with
  | zero => intro n h; rw [uenc_one (by omega)]; simp
  | succ k ih =>
    intro n h
    by_cases h1 : n < 128
    · rw [uenc_one h1]; simp
    · rw [uenc_more h1]
      have := ih (n / 128) (by rw [Nat.pow_succ] at h; omega)
      simp only [List.length_cons]
      omega

theorem uenc_ne (n : Nat) : 1 ≤ (uenc n).length := by
  by_cases h : n < 128
  · rw [uenc_one h]; simp
  · rw [uenc_more h]; simp

theorem uenc_len10 {n : Nat} (h : n ≤ 18446744073709551615) : (uenc n).length ≤ 10 := by
  have e : (128 : Nat) ^ (9 + 1) = 1180591620717411303424 := by decide
  exact uenc_len 9 n (by omega)

/-- byte(n) with 128 added. -/
theorem or128 (x : Nat) (h : x < 256) : bits .or .u8 (x : Int) 128 = ((x % 128 + 128 : Nat) : Int) := by
  have key : ∀ x : Fin 256, bits .or .u8 (x.val : Int) 128 = ((x.val % 128 + 128 : Nat) : Int) := by decide +kernel
  exact key ⟨x, h⟩

theorem and127 (x : Nat) (h : x < 18446744073709551616) : bits .and .u64 (x : Int) 127 = ((x % 128 : Nat) : Int) := by
  have h := (bits_nat .u64 64 (by decide) (fun n h0 h1 => by rw [IntKind.wrap_u64]; omega) x 127 (by omega) (by decide)).1
  have e : x &&& 127 = x % 2 ^ 7 := Nat.and_two_pow_sub_one_eq_mod x 7
  rw [e] at h
  exact h
/-! ### The checksum -/

def rs (xs : List Int) : Int := 1 + xs.sum + xs.length

def rtk (xs : List Int) : Nat → Int
  | 0 => 0
  | k + 1 => rtk xs k + rs (xs.take (k + 1))

def ckS (xs : List Int) (k : Nat) : Int := rs (xs.take k) % 4294967295

def ckT (xs : List Int) (k : Nat) : Int := rtk xs k % 4294967295

def ck (xs : List Int) : Int := ckT xs xs.length * 4294967296 + ckS xs xs.length

theorem rs_nonneg {xs : List Int} (h : ∀ x ∈ xs, 0 ≤ x ∧ x ≤ 255) : 0 ≤ rs xs := by
  have := sum_nonneg (fun x hx => (h x hx).1)
  unfold rs; omega

theorem ckS_rng (xs : List Int) (k : Nat) : 0 ≤ ckS xs k ∧ ckS xs k < 4294967295 := by unfold ckS; omega

theorem ckT_rng (xs : List Int) (k : Nat) : 0 ≤ ckT xs k ∧ ckT xs k < 4294967295 := by unfold ckT; omega

theorem ckS_zero (xs : List Int) : ckS xs 0 = 1 := by simp [ckS, rs]

theorem ckT_zero (xs : List Int) : ckT xs 0 = 0 := by simp [ckT, rtk]

theorem ckS_next {xs : List Int} {k : Nat} (h : k < xs.length) : ckS xs (k + 1) = (ckS xs k + xs.getD k 0 + 1) % 4294967295 := by
  have e : rs (xs.take (k + 1)) = rs (xs.take k) + xs.getD k 0 + 1 := by
    unfold rs
    rw [take_sum h, List.length_take, List.length_take, Nat.min_eq_left (by omega), Nat.min_eq_left (by omega)]
    omega
  unfold ckS
  rw [e]
  omega

theorem ckT_next {xs : List Int} {k : Nat} : ckT xs (k + 1) = (ckT xs k + ckS xs (k + 1)) % 4294967295 := by
  unfold ckT ckS
  rw [rtk]
  omega

theorem ck_rng (xs : List Int) : 0 ≤ ck xs ∧ ck xs ≤ 18446744073709551615 := by
  have := ckS_rng xs xs.length
  have := ckT_rng xs xs.length
  unfold ck; omega

theorem rtk_congr {xs ys : List Int} : ∀ k, (∀ j, j < k → rs (xs.take (j + 1)) = rs (ys.take (j + 1))) → rtk xs k = rtk ys k
  | 0, _ => rfl
  | k + 1, h => by rw [rtk, rtk, rtk_congr k fun j hj => h j (by omega), h k (by omega)]

theorem sum_set (xs : List Int) (i : Nat) (v : Int) (h : i < xs.length) : (xs.set i v).sum = xs.sum - xs.getD i 0 + v := by
  induction xs generalizing i with
  | nil => simp at h
  | cons x r ih =>
    cases i with
    | zero => simp [List.getD]; omega
    | succ i =>
      have := ih i (by simpa using h)
      simp only [List.set_cons_succ, List.sum_cons, this]
      simp [List.getD]; omega

/-- One byte that is changed changes the checksum. -/
theorem ck_set {xs : List Int} {i : Nat} {v : Int} (h : i < xs.length) (hx : 0 ≤ xs.getD i 0 ∧ xs.getD i 0 ≤ 255) (hv : 0 ≤ v ∧ v ≤ 255) (hne : v ≠ xs.getD i 0) : ck (xs.set i v) ≠ ck xs := by
  have e : rs (xs.set i v) = rs xs - xs.getD i 0 + v := by
    unfold rs; rw [sum_set xs i v h, List.length_set]; omega
  have a1 := ckS_rng (xs.set i v) (xs.set i v).length
  have a2 := ckS_rng xs xs.length
  intro hc
  unfold ck at hc
  have s1 : ckS (xs.set i v) (xs.set i v).length = ckS xs xs.length := by omega
  unfold ckS at s1
  rw [List.take_length, List.take_length, e] at s1
  generalize xs.getD i 0 = x at *
  omega

/-- Two neighbours that differ, exchanged. -/
def swp (xs : List Int) (i : Nat) : List Int := (xs.set i (xs.getD (i + 1) 0)).set (i + 1) (xs.getD i 0)

theorem swp_len (xs : List Int) (i : Nat) : (swp xs i).length = xs.length := by simp [swp]

theorem take_set_le (xs : List Int) (i k : Nat) (v : Int) (h : k ≤ i) : (xs.set i v).take k = xs.take k := by
  rw [List.take_set_of_le h]

theorem rs_swp {xs : List Int} {i : Nat} (h : i + 1 < xs.length) : rs (swp xs i) = rs xs := by
  unfold rs swp
  rw [sum_set _ _ _ (by simpa using h), sum_set _ _ _ (by omega)]
  have : (xs.set i (xs.getD (i + 1) 0)).getD (i + 1) 0 = xs.getD (i + 1) 0 := by
    simp [List.getD]
  rw [this]
  simp only [List.length_set]
  omega

theorem rs_take_swp {xs : List Int} {i : Nat} (h : i + 1 < xs.length) (k : Nat) (hk : k ≠ i + 1) : rs ((swp xs i).take k) = rs (xs.take k) := by
  by_cases hle : k ≤ i
  · unfold swp
    rw [take_set_le _ _ _ _ (by omega), take_set_le _ _ _ _ hle]
  · have e : (swp xs i).take k = swp (xs.take k) i := by
      unfold swp
      rw [List.take_set, List.take_set]
      simp [List.getD, show i + 1 < k by omega, show i < k by omega]
    rw [e, rs_swp (by rw [List.length_take]; omega)]

theorem rs_take_mid {xs : List Int} {i : Nat} (h : i + 1 < xs.length) : rs ((swp xs i).take (i + 1)) = rs (xs.take (i + 1)) + xs.getD (i + 1) 0 - xs.getD i 0 := by
  have e : (swp xs i).take (i + 1) = (xs.take (i + 1)).set i (xs.getD (i + 1) 0) := by
    unfold swp
    rw [take_set_le _ _ _ _ (Nat.le_refl _), List.take_set]
  rw [e]
  unfold rs
  rw [sum_set _ _ _ (by rw [List.length_take]; omega), List.length_set]
  have : (xs.take (i + 1)).getD i 0 = xs.getD i 0 := by simp [List.getD]
  rw [this]
  omega

theorem rtk_swp {xs : List Int} {i : Nat} (h : i + 1 < xs.length) (k : Nat) : rtk (swp xs i) k = rtk xs k + (if i < k then xs.getD (i + 1) 0 - xs.getD i 0 else 0) := by
  induction k with
  | zero => simp [rtk]
  | succ k ih =>
    rw [rtk, rtk, ih]
    by_cases hk : k = i
    · subst hk
      rw [rs_take_mid h, if_neg (by omega), if_pos (by omega)]
      omega
    · rw [rs_take_swp h _ (by omega)]
      by_cases hlt : i < k
      · rw [if_pos hlt, if_pos (by omega)]; omega
      · rw [if_neg hlt, if_neg (by omega)]; omega

theorem ck_swp {xs : List Int} {i : Nat} (h : i + 1 < xs.length) (h1 : 0 ≤ xs.getD i 0 ∧ xs.getD i 0 ≤ 255) (h2 : 0 ≤ xs.getD (i + 1) 0 ∧ xs.getD (i + 1) 0 ≤ 255) (hne : xs.getD i 0 ≠ xs.getD (i + 1) 0) :
    ck (swp xs i) ≠ ck xs := by
  have a1 := ckS_rng (swp xs i) (swp xs i).length
  have a2 := ckS_rng xs xs.length
  intro hc
  unfold ck at hc
  have s1 : ckT (swp xs i) (swp xs i).length = ckT xs xs.length := by omega
  unfold ckT at s1
  rw [swp_len, rtk_swp h, if_pos (by omega)] at s1
  generalize xs.getD i 0 = x at *
  generalize xs.getD (i + 1) 0 = y at *
  omega

/-- A byte xored with an odd byte is another byte. -/
theorem xor_odd (x b : Nat) (hx : x < 256) (hb : b < 256) : ∃ v : Nat, v < 256 ∧ v ≠ x ∧ bits .xor .u8 (x : Int) (bits .or .u8 (b : Int) 1) = (v : Int) := by
  have k1 : ∀ b : Fin 256, ∃ c : Fin 256, c.val % 2 = 1 ∧ bits .or .u8 (b.val : Int) 1 = (c.val : Int) := by decide +kernel
  obtain ⟨⟨c, hc⟩, hodd, e⟩ := k1 ⟨b, hb⟩
  simp only at hodd e
  rw [e]
  have h : bits .xor .u8 (x : Int) (c : Int) = ((x ^^^ c : Nat) : Int) := by
    have hl : x ^^^ c < 2 ^ 8 := Nat.xor_lt_two_pow (by omega) (by omega)
    have hx' : x % 2 ^ IntKind.u8.bits = x := Nat.mod_eq_of_lt (show x < 2 ^ 8 by omega)
    have hc' : c % 2 ^ IntKind.u8.bits = c := Nat.mod_eq_of_lt (show c < 2 ^ 8 by omega)
    simp only [bits, BitVec.ofInt_natCast, BitVec.toNat_xor, BitVec.toNat_ofNat, hx', hc', IntKind.wrap_u8]
    omega
  refine ⟨x ^^^ c, Nat.xor_lt_two_pow (n := 8) (by omega) (by omega), ?_, h⟩
  intro hx'
  have : c = 0 := by
    have := congrArg (x ^^^ ·) hx'
    simp only [← Nat.xor_assoc, Nat.xor_self, Nat.zero_xor] at this
    exact this
  omega
end

/-! CdA -/
section
set_option linter.unusedVariables false
open Go.RowKit

/-- A slice of bytes. -/
structure Byt (w : World) (v : Value) (xs : List Int) : Prop where
  ints : Ints .u8 w v xs
  rng : ∀ x ∈ xs, 0 ≤ x ∧ x ≤ 255
  fits : ∀ a l c, v = .slice a l c → l ≤ c ∧ c ≤ maxLen

theorem Byt.below {w w' : World} {v : Value} {xs : List Int} (h : Byt w v xs) (hb : Below w.heap.size w w') : Byt w' v xs := ⟨h.ints.below hb, h.rng, h.fits⟩

theorem Byt.at {w : World} {v : Value} {xs : List Int} (h : Byt w v xs) {k : Nat} (hk : k < xs.length) : 0 ≤ xs.getD k 0 ∧ xs.getD k 0 ≤ 255 := by
  have e : xs.getD k 0 = xs[k] := by simp [List.getD, List.getElem?_eq_getElem hk]
  rw [e]; exact h.rng _ (List.getElem_mem hk)

theorem IsRow.byt {w : World} {a : Option Addr} {len cap : Nat} {zs : List Int} (h : IsRow .u8 w a len cap zs) : Byt w (.slice a len cap) (zs.take len) :=
  ⟨h.ints.1, fun x hx => wf_u8 (h.ints.2 x hx), fun a' l' c' e => by
    cases e
    rcases h with ⟨_, rfl, rfl, _⟩ | ⟨x, _, h1, h2, _⟩
    · exact ⟨Nat.le_refl _, Nat.zero_le _⟩
    · exact ⟨h1, h2⟩⟩
end

/-! CdB -/
section
set_option linter.unusedVariables false
open Go.RowKit

theorem info_u8c : (Try.prog.info? 5).map (fun i => (i.zero, i.size, i.bytes)) = some (some (.int .u8 0), 1, 1) := by kernel_rfl

/-- A slice of bytes in a row of the call's own, from block B on. -/
def Own (w : World) (B : Nat) (v : Value) (xs : List Int) : Prop := w.ownsRow B 5 1 v xs.length (xs.map (Value.int .u8))

theorem Own.fits {w : World} {B : Nat} {v : Value} {xs : List Int} (h : Own w B v xs) : ∀ a l c, v = .slice a l c → l ≤ c ∧ c ≤ maxLen := by
  rintro a l c rfl
  rcases h.2 with ⟨e, _⟩ | ⟨g, cap, cur, e, _, _, h1, h2, _⟩
  · cases e; exact ⟨Nat.le_refl _, Nat.zero_le _⟩
  · cases e; exact ⟨h1, h2⟩

theorem Own.byt {w : World} {B : Nat} {v : Value} {xs : List Int} (h : Own w B v xs) (hm : xs.length ≤ maxLen) (hr : ∀ x ∈ xs, 0 ≤ x ∧ x ≤ 255) : Byt w v xs := ⟨Ints.own h hm, hr, h.fits⟩

theorem Own.nil (w : World) (B : Nat) : Own w B (.slice none 0 0) [] := World.ownsRow_nil w B 5 1

theorem Own.lt {w : World} {B : Nat} {v : Value} {xs : List Int} (h : Own w B v xs) : ∀ k, v.ownBlock = some k → B ≤ k ∧ k < w.heap.size := World.ownsRow.lt h

theorem Own.alloc {w : World} {B : Nat} {v : Value} {xs : List Int} (h : Own w B v xs) (o : Obj) : Own (w.alloc o) B v xs := World.ownsRow.alloc h o

theorem Own.of_own {w : World} {B n : Nat} {v : Value} {xs : List Int} (h : w.ownsRow B 5 1 v n (xs.map (Value.int .u8))) : Own w B v xs := by
  have := h.1
  simp at this
  unfold Own
  rw [this]; exact h

theorem Own.below {w w' : World} {B N : Nat} {v : Value} {xs : List Int} (h : Own w B v xs) (hb : Below N w w') (hN : ∀ k, v.ownBlock = some k → k < N) : Own w' B v xs := by
  refine ⟨h.1, ?_⟩
  rcases h.2 with h' | ⟨g, cap, cur, rfl, h2, h3, h4⟩
  · exact .inl h'
  · exact .inr ⟨g, cap, cur, rfl, h2, by rw [hb.block g (hN g rfl)]; exact h3, h4⟩

theorem Own.call {w w' : World} {B : Nat} {v : Value} {xs : List Int} (h : Own w B v xs) (hb : Below w.heap.size w w') : Own w' B v xs := h.below hb fun k hk => (h.lt k hk).2

theorem own_zero {w : World} {B cap : Nat} {cur : Array Value} (hb : B ≤ w.heap.size) (hm : cap ≤ maxLen) (hs : cur.size = cap) : Own (w.alloc (.cells cur 5)) B (.slice (some ⟨w.heap.size, 0, none⟩) 0 cap) [] :=
  World.ownsRow_made w cur cap hb hm (by rw [hs]; omega)

theorem byt_nil (w : World) : Byt w (.slice none 0 0) [] := ⟨⟨none, 0, 0, rfl, rfl, Nat.zero_le _, .inl rfl⟩, by simp, fun a l c e => by cases e; exact ⟨Nat.le_refl _, Nat.zero_le _⟩⟩

theorem Byt.of_blk {w : World} {g cap : Nat} {xs : List Int} (h : Blk w g (bytesV xs)) (hm : xs.length ≤ cap ∧ cap ≤ maxLen) (hr : ∀ x ∈ xs, 0 ≤ x ∧ x ≤ 255) : Byt w (.slice (some ⟨g, 0, none⟩) xs.length cap) xs :=
  ⟨⟨_, _, _, rfl, rfl, Nat.le_trans hm.1 hm.2, .inr ⟨g, 0, rfl, h.lt, fun i hi => by rw [Nat.zero_add, h.cell]; exact bytesV_at hi⟩⟩, hr, fun a l c e => by cases e; exact hm⟩

theorem byt_one {w : World} {x : Int} (h : 0 ≤ x ∧ x ≤ 255) (t : TypeId) : Byt (w.alloc (.cells #[.int .u8 x] t)) (.slice (some ⟨w.heap.size, 0, none⟩) 1 1) [x] :=
  Byt.of_blk (xs := [x]) (g := w.heap.size) (Blk.new rfl) (by constructor; simp; unfold maxLen; omega) (by simpa using h)

theorem Below.own {N B : Nat} {w0 w w' : World} {v : Value} {xs : List Int} (hb : Below N w0 w) (hg : w.grownBy w' v.ownBlock) (ho : Own w B v xs) (hN : N ≤ B) (hB : B ≤ w.heap.size) : Below N w0 w' :=
  hb.grown hg (by omega) (fun k hk => by have := (ho.lt k hk).1; omega)

theorem flat_len_take (ds : List (List Int)) (k : Nat) : (ds.take k).flatten.length ≤ ds.flatten.length := by
  have h : ds.flatten = (ds.take k).flatten ++ (ds.drop k).flatten := by rw [← List.flatten_append, List.take_append_drop]
  rw [h, List.length_append]; omega

theorem flat_take {ds : List (List Int)} {k : Nat} (h : k < ds.length) : (ds.take (k + 1)).flatten = (ds.take k).flatten ++ ds.getD k [] := by
  rw [List.take_succ_eq_append_getElem h, List.flatten_append]
  simp only [List.flatten_cons, List.flatten_nil, List.append_nil, List.getD, List.getElem?_eq_getElem h, Option.getD_some]

/-- The slices that are to be joined. -/
def Parts (w : World) (g m : Nat) (vs : Array Value) (ds : List (List Int)) : Prop := Blk w g vs ∧ vs.size = m ∧ ds.length = m ∧ ∀ k, k < m → Byt w (vs.getD k undef) (ds.getD k [])

theorem Parts.below {w w' : World} {g m : Nat} {vs : Array Value} {ds : List (List Int)} (h : Parts w g m vs ds) (hb : Below w.heap.size w w') : Parts w' g m vs ds :=
  ⟨h.1.call hb, h.2.1, h.2.2.1, fun k hk => (h.2.2.2 k hk).below hb⟩

theorem Parts.cell {w : World} {g m : Nat} {vs : Array Value} {ds : List (List Int)} (h : Parts w g m vs ds) {k : Nat} (hk : k < m) : w.cell? ⟨g, k, none⟩ = some (vs.getD k undef) := by
  rw [h.1.cell]
  simp [Array.getD, h.2.1, hk]

theorem Parts.bytes {w : World} {g m : Nat} {vs : Array Value} {ds : List (List Int)} (h : Parts w g m vs ds) : ∀ x ∈ ds.flatten, 0 ≤ x ∧ x ≤ 255 := by
  intro x hx
  obtain ⟨d, hd, hx⟩ := List.mem_flatten.1 hx
  obtain ⟨k, hk, rfl⟩ := List.mem_iff_getElem.1 hd
  have := (h.2.2.2 k (by rw [← h.2.2.1]; exact hk)).rng x
  simp only [List.getD, List.getElem?_eq_getElem hk, Option.getD_some] at this
  exact this hx
end

/-! Ref0 -/
section
set_option linter.unusedVariables false
open Go.RowKit

/-- Half limb i. -/
def hf (n : Int) (i : Nat) : Int := n / (4294967296 : Int) ^ i % 4294967296

theorem hf_rng (n : Int) (i : Nat) : 0 ≤ hf n i ∧ hf n i < 4294967296 := by unfold hf; omega

theorem or_lo (b x : Int) (hb : 0 ≤ b) (hb2 : b < 4294967296) (hx : 0 ≤ x) (hx2 : x < 4294967296) : bits .or .u64 b (x * 4294967296) = b + x * 4294967296 := by
  obtain ⟨b, rfl⟩ := Int.eq_ofNat_of_zero_le hb
  obtain ⟨x, rfl⟩ := Int.eq_ofNat_of_zero_le hx
  have h := or_low 32 x b (by omega) (by omega)
  have e : ((x : Int) * 4294967296) = ((x * 2 ^ 32 : Nat) : Int) := by omega
  rw [e, bits_or_u64_nat _ _ (by omega) (by omega), Nat.or_comm]
  rw [bits_or_u64_nat _ _ (by omega) (by omega)] at h
  omega

theorem or_zero (x : Int) (hx : 0 ≤ x) (hx2 : x < 18446744073709551616) : bits .or .u64 0 x = x := by
  obtain ⟨x, rfl⟩ := Int.eq_ofNat_of_zero_le hx
  rw [show (0 : Int) = ((0 : Nat) : Int) from rfl, bits_or_u64_nat _ _ (by omega) (by omega), Nat.zero_or]

/-- The number modulo the next power: one half limb more. -/
theorem mod_next (n : Int) (k : Nat) : n % (4294967296 : Int) ^ (k + 1) = n % (4294967296 : Int) ^ k + (4294967296 : Int) ^ k * hf n k := by
  unfold hf
  rw [Int.pow_succ]
  have hp : (0 : Int) < (4294967296 : Int) ^ k := Int.pow_pos (by omega)
  generalize (4294967296 : Int) ^ k = P at *
  have h1 := Int.mul_ediv_add_emod n P
  have h2 := Int.mul_ediv_add_emod (n / P) 4294967296
  have h3 := Int.emod_nonneg n (show P ≠ 0 by omega)
  have h4 := Int.emod_lt_of_pos n hp
  have h5 := Int.emod_nonneg (n / P) (show (4294967296 : Int) ≠ 0 by omega)
  have h6 := Int.emod_lt_of_pos (n / P) (show (0 : Int) < 4294967296 by omega)
  generalize n / P % 4294967296 = r at *
  generalize n % P = s at *
  have hle : P * r ≤ P * 4294967295 := Int.mul_le_mul_of_nonneg_left (by omega) (by omega)
  have hge : 0 ≤ P * r := Int.mul_nonneg (by omega) (by omega)
  have hn : n = P * 4294967296 * (n / P / 4294967296) + (s + P * r) := by
    have : P * (n / P) = P * 4294967296 * (n / P / 4294967296) + P * r := by
      rw [Int.mul_assoc, ← Int.mul_add, h2]
    omega
  rw [hn, Int.mul_add_emod_self_left, Int.emod_eq_of_lt (by omega) (by omega)]

theorem pow_pos32 (k : Nat) : (0 : Int) < (4294967296 : Int) ^ k := Int.pow_pos (by omega)

theorem pow8 : (4294967296 : Int) ^ 8 = 115792089237316195423570985008687907853269984665640564039457584007913129639936 := by decide

theorem pow_le8 {k : Nat} (h : k ≤ 8) : (4294967296 : Int) ^ k ≤ 115792089237316195423570985008687907853269984665640564039457584007913129639936 := by
  have : k = 0 ∨ k = 1 ∨ k = 2 ∨ k = 3 ∨ k = 4 ∨ k = 5 ∨ k = 6 ∨ k = 7 ∨ k = 8 := by omega
  rcases this with rfl | rfl | rfl | rfl | rfl | rfl | rfl | rfl | rfl <;> decide
end

/-! Ref6 -/
section
set_option linter.unusedVariables false
open Go.RowKit

theorem and1 (x : Int) (h0 : 0 ≤ x) (h : x < 18446744073709551616) : bits .and .u64 x 1 = x % 2 := by
  obtain ⟨a, rfl⟩ := Int.eq_ofNat_of_zero_le h0
  have := bits_and_u64_nat a 1 (by omega) (by omega)
  rw [show ((1 : Nat) : Int) = 1 from rfl] at this
  rw [this, Nat.and_one_is_mod]
  simp

theorem pow_pos2 (k : Nat) : (0 : Int) < (2 : Int) ^ k := Int.pow_pos (by omega)

theorem pow_split {t : Nat} (ht : t < 64) : (18446744073709551616 : Int) = (2 : Int) ^ t * ((2 : Int) ^ (63 - t) * 2) := by
  rw [← Int.pow_succ, ← Int.pow_add, show t + (63 - t + 1) = 64 by omega]; rfl

theorem low_bit (m : Int) (t : Nat) (ht : t < 64) : m % 18446744073709551616 / (2 : Int) ^ t % 2 = m / (2 : Int) ^ t % 2 := by
  have hB := pow_split ht
  have hp := pow_pos2 t
  have h := Int.mul_ediv_add_emod m 18446744073709551616
  generalize (2 : Int) ^ t = P at *
  generalize (2 : Int) ^ (63 - t) = Q at *
  have e : m / P = (m % 18446744073709551616) / P + Q * 2 * (m / 18446744073709551616) := by
    conv => lhs; rw [← h, Int.add_comm, hB, Int.mul_assoc P, Int.add_mul_ediv_left _ _ (by omega)]
    rw [hB]
  rw [e, show Q * 2 * (m / 18446744073709551616) = 2 * (Q * (m / 18446744073709551616)) by rw [Int.mul_comm Q, Int.mul_assoc], Int.add_mul_emod_self_left]

/-- Bit i. -/
def bitN (n : Int) (i : Nat) : Int := n / (2 : Int) ^ i % 2

theorem bitN_rng (n : Int) (i : Nat) : 0 ≤ bitN n i ∧ bitN n i ≤ 1 := by unfold bitN; omega

theorem div_le_self' (x : Int) (t : Nat) (h : 0 ≤ x) : 0 ≤ x / (2 : Int) ^ t ∧ x / (2 : Int) ^ t ≤ x := ⟨Int.ediv_nonneg h (Int.le_of_lt (pow_pos2 t)), Int.ediv_le_self _ h⟩
end

/-! ToB -/
section
set_option linter.unusedVariables false
open Go.RowKit

/-- Byte i of a number, from the least significant one on. -/
def byteN (n : Int) (i : Nat) : Int := n / (2 : Int) ^ (8 * i) % 256

/-- The 32 bytes, the most significant one first. -/
def bytesN (n : Int) : List Int := (List.range 32).map fun j => byteN n (31 - j)

theorem bytesN_is (n : Int) : IsBytes 32 (bytesN n) := by
  refine ⟨by simp [bytesN], fun x hx => ?_⟩
  simp only [bytesN, List.mem_map] at hx
  obtain ⟨j, _, rfl⟩ := hx
  have h : 0 ≤ byteN n (31 - j) ∧ byteN n (31 - j) ≤ 255 := by unfold byteN; omega
  simpa [Lit.wf, IntKind.min, IntKind.max, IntKind.signed, IntKind.bits] using h

theorem low_byte (m : Int) (t : Nat) (ht : t < 8) : m % 18446744073709551616 / (2 : Int) ^ (8 * t) % 256 = m / (2 : Int) ^ (8 * t) % 256 := by
  have hB : (18446744073709551616 : Int) = (2 : Int) ^ (8 * t) * ((2 : Int) ^ (56 - 8 * t) * 256) := by
    rw [show (256 : Int) = 2 ^ 8 from rfl, ← Int.pow_add, ← Int.pow_add, show 8 * t + (56 - 8 * t + 8) = 64 by omega]; rfl
  have hp := pow_pos2 (8 * t)
  have h := Int.mul_ediv_add_emod m 18446744073709551616
  generalize (2 : Int) ^ (8 * t) = P at *
  generalize (2 : Int) ^ (56 - 8 * t) = Q at *
  have e : m / P = (m % 18446744073709551616) / P + Q * 256 * (m / 18446744073709551616) := by
    conv => lhs; rw [← h, Int.add_comm, hB, Int.mul_assoc P, Int.add_mul_ediv_left _ _ (by omega)]
    rw [hB]
  rw [e, show Q * 256 * (m / 18446744073709551616) = 256 * (Q * (m / 18446744073709551616)) by rw [Int.mul_comm Q, Int.mul_assoc], Int.add_mul_emod_self_left]

theorem byte_limb0 (n : Int) (t : Nat) (ht : t < 8) : l0 n / (2 : Int) ^ (8 * t) % 256 = byteN n (0 + t) := by
  unfold l0 byteN
  rw [low_byte _ t ht, show 8 * (0 + t) = 8 * t by omega]

theorem byte_limb1 (n : Int) (t : Nat) (ht : t < 8) : l1 n / (2 : Int) ^ (8 * t) % 256 = byteN n (8 + t) := by
  unfold l1 byteN
  rw [low_byte _ t ht, show 8 * (8 + t) = 64 + 8 * t by omega, Int.pow_add, ← Int.ediv_ediv_of_nonneg (Int.le_of_lt (pow_pos2 _)), show (2 : Int) ^ 64 = 18446744073709551616 from by decide]

theorem byte_limb2 (n : Int) (t : Nat) (ht : t < 8) : l2 n / (2 : Int) ^ (8 * t) % 256 = byteN n (16 + t) := by
  unfold l2 byteN
  rw [low_byte _ t ht, show 8 * (16 + t) = 128 + 8 * t by omega, Int.pow_add, ← Int.ediv_ediv_of_nonneg (Int.le_of_lt (pow_pos2 _)), show (2 : Int) ^ 128 = 340282366920938463463374607431768211456 from by decide]

theorem byte_limb3 (n : Int) (t : Nat) (ht : t < 8) : l3 n / (2 : Int) ^ (8 * t) % 256 = byteN n (24 + t) := by
  unfold l3 byteN
  rw [low_byte _ t ht, show 8 * (24 + t) = 192 + 8 * t by omega, Int.pow_add, ← Int.ediv_ediv_of_nonneg (Int.le_of_lt (pow_pos2 _)), show (2 : Int) ^ 192 = 6277101735386680763835789423207666416102355444464034512896 from by decide]

theorem Blk.setRow {w : World} {b : Nat} {cs ds : Array Value} (h : Blk w b cs) : Blk (w.setRow b ds) b ds := by
  obtain ⟨t, h⟩ := h
  exact ⟨t, setRow_heap w b cs ds t (0, 0) h⟩

theorem below_setRow {N : Nat} {w0 w : World} {b : Nat} {ds : Array Value} (h : Below N w0 w) (hN : N ≤ b) : Below N w0 (w.setRow b ds) :=
  h.trans ⟨rfl, rfl, rfl, by simp, fun k hk => setRow_other w b k ds (by omega)⟩

def ToI (w : World) (n : Int) (i : Value) (wr : World) : Prop :=
  ∃ (k : Nat) (cs : Array Value), k ≤ 32 ∧ i = .int .i64 k ∧ cs.size = 32 ∧ (∀ j, j < k → cs[31 - j]? = some (.int .u8 (byteN n j))) ∧ (∀ v ∈ cs, v.oneCell' = true) ∧ Below w.heap.size w wr ∧ w.heap.size + 3 ≤ wr.heap.size ∧
    Blk wr w.heap.size #[.int .u64 (l0 n), .int .u64 (l1 n), .int .u64 (l2 n), .int .u64 (l3 n)] ∧ Blk wr (w.heap.size + 1) (Array.replicate 32 (Value.int .u8 0)) ∧ Blk wr (w.heap.size + 1 + 1) cs

theorem ToI.start (n : Int) (w : World) (Z : Array Value) (hZ : Z = Array.replicate 32 (Value.int .u8 0)) (t u u' : TypeId) :
    ToI w n (.int .i64 0) (((w.alloc (.cells #[.int .u64 (l0 n), .int .u64 (l1 n), .int .u64 (l2 n), .int .u64 (l3 n)] t)).alloc (.cells Z u)).alloc (.cells Z u')) := by
  subst hZ
  refine ⟨0, _, by omega, rfl, by simp, by omega, by simp [Value.oneCell'], ?_, by simp, ?_, ?_, Blk.new (by simp)⟩
  · exact (((Below.refl _ _).alloc (Nat.le_refl _) _).alloc (by simp) _).alloc (by simp; omega) _
  · exact ((Blk.new rfl).alloc _).alloc _
  · exact (Blk.new (by simp)).alloc _

theorem ToI.next {w wr : World} {n b : Int} {cs : Array Value} {k : Nat} (hk : k < 32) (hb0 : b = byteN n k) (hcs : cs.size = 32) (hc : ∀ j, j < k → cs[31 - j]? = some (.int .u8 (byteN n j))) (h1 : ∀ v ∈ cs, v.oneCell' = true) (hb : Below w.heap.size w wr) (hsz : w.heap.size + 3 ≤ wr.heap.size)
    (bA : Blk wr w.heap.size #[.int .u64 (l0 n), .int .u64 (l1 n), .int .u64 (l2 n), .int .u64 (l3 n)]) (bR : Blk wr (w.heap.size + 1) (Array.replicate 32 (Value.int .u8 0))) (bD : Blk wr (w.heap.size + 1 + 1) cs) :
    ToI w n (.int .i64 ((k : Int) + 1)) (wr.setCell ⟨w.heap.size + 1 + 1, 31 - k, none⟩ (.int .u8 b)) := by
  subst hb0
  refine ⟨k + 1, cs.setIfInBounds (31 - k) (.int .u8 (byteN n k)), by omega, rfl, by simp [hcs], fun j hj => ?_, fun v hv => ?_, hb.setCell (by simp; omega) _, by simp [World.setCell]; omega, bA.setCell_other (by omega), bR.setCell_other (by omega), bD.setCell⟩
  · by_cases hjk : j = k
    · subst hjk
      rw [Array.getElem?_setIfInBounds_self_of_lt (by omega)]
    · rw [Array.getElem?_setIfInBounds_ne (by omega)]
      exact hc j (by omega)
  · rcases Array.mem_or_eq_of_mem_setIfInBounds hv with h | h
    · exact h1 v h
    · subst h; rfl

theorem to_all {n : Int} {cs : Array Value} (hcs : cs.size = 32) (hc : ∀ j, j < 32 → cs[31 - j]? = some (.int .u8 (byteN n j))) : cs = ((bytesN n).map (Value.int .u8)).toArray := by
  apply Array.ext_getElem?
  intro i
  by_cases hi : i < 32
  · have := hc (31 - i) (by omega)
    rw [show 31 - (31 - i) = i by omega] at this
    rw [this]
    simp [bytesN, hi]
  · rw [Array.getElem?_eq_none (by omega), Array.getElem?_eq_none (by simp [bytesN]; omega)]
end

/-! CdC -/
section
set_option linter.unusedVariables false
open Go.RowKit

/-- What the Append functions promise. -/
def App (w : World) (ys : List Int) (e : Ending) (w' : World) : Prop := ∃ v', e = .returned v' ∧ Byt w' v' ys ∧ Below w.heap.size w w'

theorem parts2 {w : World} {y1 y2 : Value} {d1 d2 : List Int} {t : TypeId} {n : Nat} (hn : n = w.heap.size) (h1 : Byt w y1 d1) (h2 : Byt w y2 d2) : Parts (w.alloc (.cells #[y1, y2] t)) n 2 #[y1, y2] [d1, d2] := by
  subst hn
  have hb : Below w.heap.size w (w.alloc (.cells #[y1, y2] t)) := (Below.refl _ w).alloc (Nat.le_refl _) _
  refine ⟨Blk.new rfl, rfl, rfl, fun k hk => ?_⟩
  match k, hk with
  | 0, _ => exact h1.below hb
  | 1, _ => exact h2.below hb

theorem parts3 {w : World} {y1 y2 y3 : Value} {d1 d2 d3 : List Int} {t : TypeId} {n : Nat} (hn : n = w.heap.size) (h1 : Byt w y1 d1) (h2 : Byt w y2 d2) (h3 : Byt w y3 d3) : Parts (w.alloc (.cells #[y1, y2, y3] t)) n 3 #[y1, y2, y3] [d1, d2, d3] := by
  subst hn
  have hb : Below w.heap.size w (w.alloc (.cells #[y1, y2, y3] t)) := (Below.refl _ w).alloc (Nat.le_refl _) _
  refine ⟨Blk.new rfl, rfl, rfl, fun k hk => ?_⟩
  match k, hk with
  | 0, _ => exact h1.below hb
  | 1, _ => exact h2.below hb
  | 2, _ => exact h3.below hb

theorem Byt.shape {w : World} {v : Value} {xs : List Int} (h : Byt w v xs) : ∃ a l c, v = .slice a l c := by
  obtain ⟨a, len, cap, e, _⟩ := h.ints
  exact ⟨a, len, cap, e⟩

theorem Own.shape {w : World} {B : Nat} {v : Value} {xs : List Int} (h : Own w B v xs) : ∃ a l c, v = .slice a l c := by
  rcases h.2 with ⟨e, _⟩ | ⟨g, cap, cur, e, _⟩
  · exact ⟨_, _, _, e⟩
  · exact ⟨_, _, _, e⟩

theorem Byt.grow {w w' : World} {v : Value} {xs : List Int} {N : Nat} (h : Byt w v xs) (hb : Below N w w') (hlt : ∀ a l c, v = .slice (some a) l c → 0 < l → a.block < N) : Byt w' v xs := by
  refine ⟨?_, h.rng, h.fits⟩
  obtain ⟨a, len, cap, rfl, hl, hm, hr⟩ := h.ints
  refine ⟨a, len, cap, rfl, hl, hm, ?_⟩
  rcases hr with h0 | ⟨b, off, rfl, hlt', hc⟩
  · exact .inl h0
  · by_cases h0 : len = 0
    · exact .inl h0
    · have hbN := hlt _ _ _ rfl (by omega)
      have hlt2 : b < w'.heap.size := Nat.lt_of_lt_of_le hlt' hb.size
      refine .inr ⟨b, off, rfl, hlt2, fun i hi => ?_⟩
      rw [hb.cell (p := ⟨b, off + i, none⟩) hbN]
      exact hc i hi

theorem Byt.alloc {w : World} {v : Value} {xs : List Int} (h : Byt w v xs) (o : Obj) : Byt (w.alloc o) v xs := h.below ((Below.refl _ w).alloc (Nat.le_refl _) _)

theorem uencI_one {n : Int} (h0 : 0 ≤ n) (h : n < 128) : uenc n.toNat = [n] := by rw [uenc_one (by omega), Int.toNat_of_nonneg h0]

theorem uencI_more {n : Int} (h0 : 0 ≤ n) (h : 128 ≤ n) : uenc n.toNat = (n % 128 + 128) :: uenc (n / 128).toNat := by
  rw [uenc_more (by omega)]
  congr 1
  · omega
  · congr 1; omega

theorem or128I {n : Int} (h0 : 0 ≤ n) : bits .or .u8 (n % 256) 128 = n % 128 + 128 := by
  have := or128 (n % 256).toNat (by omega)
  rw [Int.toNat_of_nonneg (by omega)] at this
  rw [this]
  omega

theorem and127I {n : Int} (h0 : 0 ≤ n) (h : n ≤ 18446744073709551615) : bits .and .u64 n 127 = n % 128 := by
  have := and127 n.toNat (by omega)
  rw [Int.toNat_of_nonneg h0] at this
  rw [this]
  omega

theorem wrap8I {n : Int} : IntKind.u8.wrap n = n % 256 := IntKind.wrap_u8 n

/-- What stands at the loop's head of AppendUint. -/
def UI (w : World) (n : Int) (g m : Value) (wr : World) : Prop :=
  ∃ (gs : List Int) (x : Int), 0 ≤ x ∧ x ≤ 18446744073709551615 ∧ m = .int .u64 x ∧ gs ++ uenc x.toNat = uenc n.toNat ∧ Own wr w.heap.size g gs ∧ Below w.heap.size w wr

theorem uenc_bytes {n x : Int} {gs : List Int} (h : gs ++ uenc x.toNat = uenc n.toNat) (hn0 : 0 ≤ n) (hn : n ≤ 18446744073709551615) : gs.length ≤ 10 ∧ ∀ y ∈ gs, 0 ≤ y ∧ y ≤ 255 := by
  have h1 := uenc_len10 (n := n.toNat) (by omega)
  rw [← h, List.length_append] at h1
  exact ⟨by omega, fun y hy => uenc_byte n.toNat y (by rw [← h]; simp [hy])⟩

theorem UI.next {w wr w2 : World} {n x : Int} {g v2 : Value} {gs : List Int} {t : TypeId} (hx0 : 128 ≤ x) (hx : x ≤ 18446744073709551615) (hg : gs ++ uenc x.toNat = uenc n.toNat) (ho : Own wr w.heap.size g gs) (hb : Below w.heap.size w wr)
    (ho2 : Own w2 w.heap.size v2 (gs ++ [x % 128 + 128])) (hg2 : (wr.alloc (.cells #[.int .u8 (x % 128 + 128)] t)).grownBy w2 g.ownBlock) : UI w n v2 (.int .u64 (x / 128)) w2 := by
  refine ⟨_, x / 128, by omega, by omega, rfl, ?_, ho2, Below.own (hb.alloc hb.size _) hg2 (ho.alloc _) (Nat.le_refl _) (by have := hb.size; simp; omega)⟩
  rw [uencI_more (by omega) hx0] at hg
  rw [List.append_assoc]
  exact hg
end

/-! CdD -/
section
set_option linter.unusedVariables false
open Go.RowKit

theorem isb_rng {n : Nat} {xs : List Int} (h : IsBytes n xs) : ∀ x ∈ xs, 0 ≤ x ∧ x ≤ 255 := fun x hx => wf_u8 (h.2 x hx)

theorem byt_root {w : World} {g : Nat} {xs : List Int} (h : IsBytes 32 xs) (hB : Blk w g (bytesV xs)) : Byt w (.slice (some ⟨g, 0, none⟩) 32 32) xs := by
  have := Byt.of_blk (cap := 32) hB (by rw [h.1]; unfold maxLen; omega) (isb_rng h)
  rwa [h.1] at this
end

/-! CdE -/
section
set_option linter.unusedVariables false
open Go.RowKit
end

/-! CdF -/
section
set_option linter.unusedVariables false
open Go.RowKit

/-- Of the old blocks only that of v has changed; v' lies there or in a new one. -/
structure Grew (w w' : World) (v v' : Value) : Prop where
  grown : w.grownBy w' v.ownBlock
  near : v'.ownBlock = v.ownBlock ∨ ∃ k, v'.ownBlock = some k ∧ w.heap.size ≤ k

theorem Grew.refl (w : World) (v : Value) : Grew w w v v := ⟨World.grownBy.rfl' _ _, .inl rfl⟩

theorem Grew.trans {w w1 w2 : World} {v v1 v2 : Value} (h : Grew w w1 v v1) (k : Grew w1 w2 v1 v2) : Grew w w2 v v2 := by
  refine ⟨⟨k.grown.os.trans h.grown.os, k.grown.tape.trans h.grown.tape, k.grown.output.trans h.grown.output, Nat.le_trans h.grown.size k.grown.size, fun i hi hne => ?_⟩, ?_⟩
  · have hne1 : some i ≠ v1.ownBlock := by
      rcases h.near with e | ⟨m, e, hm⟩
      · rw [e]; exact hne
      · rw [e]; intro he; cases he; omega
    exact (k.grown.block i (Nat.lt_of_lt_of_le hi h.grown.size) hne1).trans (h.grown.block i hi hne)
  · rcases k.near with e | ⟨m, e, hm⟩
    · rw [e]; exact h.near
    · exact .inr ⟨m, e, Nat.le_trans h.grown.size hm⟩

theorem Grew.below {w w1 : World} (v : Value) (h : Below w.heap.size w w1) : Grew w w1 v v := ⟨⟨h.os, h.tape, h.output, h.size, fun k hk _ => h.block k hk⟩, .inl rfl⟩

theorem Grew.at {w w' : World} {v v' : Value} (h : w.grownBy w' v.ownBlock) (h2 : v'.ownBlock = v.ownBlock ∨ v'.ownBlock = some w.heap.size) : Grew w w' v v' :=
  ⟨h, h2.imp id fun e => ⟨_, e, Nat.le_refl _⟩⟩

theorem Grew.alloc {w w' : World} {v v' : Value} {o : Obj} (h : (w.alloc o).grownBy w' v.ownBlock) (h2 : v'.ownBlock = v.ownBlock ∨ v'.ownBlock = some (w.alloc o).heap.size) : Grew w w' v v' :=
  (Grew.below v ((Below.refl _ w).alloc (Nat.le_refl _) o)).trans (Grew.at h h2)

/-- What they promise: from block B on memory is the caller's own. -/
def AppO (w : World) (B : Nat) (v : Value) (ys : List Int) (e : Ending) (w' : World) : Prop := ∃ v', e = .returned v' ∧ Own w' B v' ys ∧ Below B w w' ∧ Grew w w' v v'

theorem Own.blk_alloc {w w' : World} {B : Nat} {o : Obj} {v : Value} {xs : List Int} (ho : Own w B v xs) (hg : (w.alloc o).grownBy w' v.ownBlock) (hB : B ≤ w.heap.size) : Below B w w' :=
  Below.own ((Below.refl _ w).alloc hB _) hg (ho.alloc _) (Nat.le_refl _) (by simp; omega)

def UO (w : World) (B : Nat) (v : Value) (bs : List Int) (n : Int) (g m : Value) (wr : World) : Prop :=
  ∃ (gs : List Int) (x : Int), 0 ≤ x ∧ x ≤ 18446744073709551615 ∧ m = .int .u64 x ∧ gs ++ uenc x.toNat = uenc n.toNat ∧ Own wr B g (bs ++ gs) ∧ Below B w wr ∧ B ≤ wr.heap.size ∧ Grew w wr v g

theorem UO.next {w wr w2 : World} {B : Nat} {n x : Int} {v g v2 : Value} {bs gs : List Int} {t : TypeId} (hx0 : 128 ≤ x) (hx : x ≤ 18446744073709551615) (hg : gs ++ uenc x.toNat = uenc n.toNat) (ho : Own wr B g (bs ++ gs)) (hb : Below B w wr) (hB : B ≤ wr.heap.size)
    (ho2 : Own w2 B v2 (bs ++ gs ++ [x % 128 + 128])) (hg2 : (wr.alloc (.cells #[.int .u8 (x % 128 + 128)] t)).grownBy w2 g.ownBlock) (hgr : Grew w wr v g) (ha2 : v2.ownBlock = g.ownBlock ∨ v2.ownBlock = some (wr.alloc (.cells #[.int .u8 (x % 128 + 128)] t)).heap.size) : UO w B v bs n v2 (.int .u64 (x / 128)) w2 := by
  have h2 := Own.blk_alloc ho hg2 hB
  refine ⟨gs ++ [x % 128 + 128], x / 128, by omega, by omega, rfl, ?_, by rw [← List.append_assoc]; exact ho2, hb.trans h2, by have := h2.size; omega, hgr.trans (Grew.alloc hg2 ha2)⟩
  rw [uencI_more (by omega) hx0] at hg
  rw [List.append_assoc]
  exact hg
end

/-! CdP -/
section
set_option linter.unusedVariables false
open Go.RowKit

/-- The number that the first k groups hold. -/
def accU (xs : List Int) : Nat → Int
  | 0 => 0
  | k + 1 => accU xs k + (xs.getD k 0 % 128) * 2 ^ (7 * k)

/-- The number, its groups and the error, from group i on. -/
def pu (xs : List Int) : Nat → Nat → Int × Int × Int
  | 0, _ => (0, 0, 2)
  | f + 1, i => if xs.length ≤ i then (0, 0, 5) else if 128 ≤ xs.getD i 0 then pu xs f (i + 1) else if (xs.getD i 0 = 0 ∧ 0 < i) ∨ (1 < xs.getD i 0 ∧ i = 9) then (0, 0, 2) else (accU xs (i + 1), i + 1, 0)

theorem pow7 (k : Nat) : (2 : Int) ^ (7 * (k + 1)) = 128 * 2 ^ (7 * k) := by
  rw [show 7 * (k + 1) = 7 * k + 7 by omega, Int.pow_add, Int.mul_comm]; rfl

theorem pow7_pos (k : Nat) : 0 < (2 : Int) ^ (7 * k) := Int.pow_pos (by omega)

theorem accU_rng (xs : List Int) (k : Nat) : 0 ≤ accU xs k ∧ accU xs k < 2 ^ (7 * k) := by
  induction k with
  | zero => simp [accU]
  | succ k ih =>
    rw [accU, pow7]
    have hp := pow7_pos k
    generalize (2 : Int) ^ (7 * k) = p at *
    have h1 : 0 ≤ xs.getD k 0 % 128 ∧ xs.getD k 0 % 128 ≤ 127 := by omega
    generalize xs.getD k 0 % 128 = c at *
    have h2 : 0 ≤ c * p := Int.mul_nonneg h1.1 (by omega)
    have h3 : c * p ≤ 127 * p := Int.mul_le_mul_of_nonneg_right h1.2 (by omega)
    omega

theorem or_acc (a c i : Nat) (ha : a < 2 ^ i) (hc : c * 2 ^ i < 2 ^ 64) (h64 : 2 ^ i ≤ 2 ^ 64) : bits .or .u64 (a : Int) ((c : Int) * 2 ^ i) = (a : Int) + (c : Int) * 2 ^ i := by
  have h := (bits_nat .u64 64 (by decide) (fun n h0 h1 => by rw [IntKind.wrap_u64]; omega) a (c * 2 ^ i) (by omega) hc).2
  have e : ((c * 2 ^ i : Nat) : Int) = (c : Int) * 2 ^ i := by push_cast; rfl
  rw [e] at h
  rw [h, Nat.or_comm, Nat.mul_comm, ← Nat.two_pow_add_eq_or_of_lt ha c]
  push_cast
  rw [Int.mul_comm, Int.add_comm]

theorem or_next {xs : List Int} {k : Nat} (h0 : 0 ≤ xs.getD k 0) (hk : k ≤ 8 ∨ (k = 9 ∧ xs.getD k 0 ≤ 1)) : bits .or .u64 (accU xs k) (IntKind.u64.wrap (xs.getD k 0 % 128 * 2 ^ (k * 7))) = accU xs (k + 1) := by
  have ha := accU_rng xs k
  rw [accU, Nat.mul_comm k 7]
  generalize xs.getD k 0 = x at *
  obtain ⟨a, hA⟩ := Int.eq_ofNat_of_zero_le ha.1
  obtain ⟨c, hC⟩ := Int.eq_ofNat_of_zero_le (show 0 ≤ x % 128 by omega)
  have hc : c * 2 ^ (7 * k) < 2 ^ 64 := by
    rcases hk with hk | ⟨rfl, hk⟩
    · have h1 : c ≤ 127 := by omega
      have h2 : 2 ^ (7 * k) ≤ 2 ^ 56 := Nat.pow_le_pow_right (by decide) (by omega)
      have h3 : c * 2 ^ (7 * k) ≤ 127 * 2 ^ 56 := Nat.mul_le_mul h1 h2
      exact Nat.lt_of_le_of_lt h3 (by decide +kernel)
    · have h1 : c ≤ 1 := by omega
      have h3 : c * 2 ^ (7 * 9) ≤ 1 * 2 ^ (7 * 9) := Nat.mul_le_mul_right _ h1
      exact Nat.lt_of_le_of_lt h3 (by decide +kernel)
  have hi : 2 ^ (7 * k) ≤ 2 ^ 64 := Nat.pow_le_pow_right (by decide) (by omega)
  have hal : a < 2 ^ (7 * k) := by
    have := ha.2
    rw [hA] at this
    exact_mod_cast this
  have e : IntKind.u64.wrap ((c : Int) * 2 ^ (7 * k)) = (c : Int) * 2 ^ (7 * k) := by
    have e1 : (c : Int) * 2 ^ (7 * k) = ((c * 2 ^ (7 * k) : Nat) : Int) := by push_cast; rfl
    rw [e1, IntKind.wrap_u64]
    omega
  rw [hA, hC, e, or_acc a c (7 * k) hal hc hi]

theorem pu_step (xs : List Int) {k : Nat} (h : k < 10) : pu xs (10 - k) k = if xs.length ≤ k then (0, 0, 5) else if 128 ≤ xs.getD k 0 then pu xs (10 - (k + 1)) (k + 1) else if (xs.getD k 0 = 0 ∧ 0 < k) ∨ (1 < xs.getD k 0 ∧ k = 9) then (0, 0, 2) else (accU xs (k + 1), (k : Int) + 1, 0) := by
  rw [show 10 - k = (10 - (k + 1)) + 1 by omega, pu]

/-- What stands at the loop's head. -/
def PuI (xs : List Int) (n i : Value) : Prop := ∃ (k : Nat) (m : Int), k ≤ 10 ∧ k ≤ xs.length ∧ i = .int .i64 k ∧ n = .int .u64 m ∧ (k < 10 → m = accU xs k) ∧ pu xs (10 - k) k = pu xs 10 0

theorem tup3 {k l m : IntKind} {a b c : Int} {r : Int × Int × Int} (h : (a, b, c) = r) : Ending.returned (.tuple #[.int k a, .int l b, .int m c]) = .returned (.tuple #[.int k r.1, .int l r.2.1, .int m r.2.2]) := by rw [← h]
end

/-! CdR -/
section
set_option linter.unusedVariables false
open Go.RowKit
variable {lo : Nat}

/-- A block from lo on, below g. -/
def InR (lo g d : Nat) : Prop := lo ≤ d ∧ d < g

theorem InR.ne {g d : Nat} (h : InR lo g d) : d ≠ g := Nat.ne_of_lt h.2

/-- Block g holds a reader with these bytes left and this error; its bytes lie in an older block. -/
def Rdr (lo : Nat) (w : World) (g : Nat) (rest : List Int) (e : Int) : Prop := ∃ a l c, Blk w g #[.slice a l c, .int .i64 e] ∧ Byt w (.slice a l c) rest ∧ ∀ x, a = some x → 0 < l → InR lo g x.block

/-- A slice of bytes where block g alone is written. -/
theorem Byt.grownBy {w w' : World} {g l c : Nat} {a : Option Addr} {xs : List Int} (h : Byt w (.slice a l c) xs) (hg : w.grownBy w' (some g)) (hf : ∀ x, a = some x → 0 < l → x.block ≠ g) : Byt w' (.slice a l c) xs := by
  refine ⟨?_, h.rng, h.fits⟩
  obtain ⟨a, len, cap, e, hl, hm, hr⟩ := h.ints
  cases e
  refine ⟨_, _, _, rfl, hl, hm, ?_⟩
  by_cases h0 : l = 0
  · exact .inl h0
  rcases hr with h0 | ⟨b, off, rfl, hlt', hc⟩
  · exact .inl h0
  · have hne := hf _ rfl (by omega)
    refine .inr ⟨b, off, rfl, Nat.lt_of_lt_of_le hlt' hg.size, fun i hi => ?_⟩
    rw [hg.cell_far ⟨b, off + i, none⟩ hlt' (by simp only [ne_eq, Option.some.injEq]; exact hne)]
    exact hc i hi

theorem grownBy_below {w w' : World} {g N : Nat} (h : w.grownBy w' (some g)) (hN : N ≤ g) (hs : N ≤ w.heap.size) : Below N w w' :=
  (Below.refl N w).grown h hs (fun k hk => by cases hk; exact hN)

theorem grownBy_of_below {w w' : World} {row : Option Nat} (h : Below w.heap.size w w') : w.grownBy w' row := ⟨h.os, h.tape, h.output, h.size, fun k hk _ => h.block k hk⟩

theorem grownBy_set {w : World} {g j : Nat} {v : Value} : w.grownBy (w.setCell ⟨g, j, none⟩ v) (some g) :=
  ⟨rfl, rfl, rfl, by simp [World.setCell], fun k _ hne => Below.heap_setCell _ _ _ _ (fun e => hne (by rw [e]))⟩

theorem Rdr.two {w : World} {g : Nat} {v0 v1 : Value} (h : Blk w g #[v0, v1]) : w.cell? ⟨g, 0, none⟩ = some v0 ∧ w.cell? ⟨g, 1, none⟩ = some v1 ∧ ∀ j, w.frozen? ⟨g, j, none⟩ = false := ⟨h.cell 0, h.cell 1, h.free⟩

theorem Rdr.setErr {w : World} {g : Nat} {rest : List Int} {e e' : Int} (h : Rdr lo w g rest e) : Rdr lo (w.setCell ⟨g, 1, none⟩ (.int .i64 e')) g rest e' := by
  obtain ⟨a, l, c, hB, hY, hF⟩ := h
  exact ⟨a, l, c, hB.setCell (j := 1) (v := .int .i64 e'), hY.grownBy grownBy_set (fun x hx h0 => (hF x hx h0).ne), hF⟩

theorem Rdr.setRest {w : World} {g l c : Nat} {a : Option Addr} {rest r2 : List Int} {e : Int} (h : Rdr lo w g rest e) (h2 : Byt w (.slice a l c) r2) (hF : ∀ x, a = some x → 0 < l → InR lo g x.block) : Rdr lo (w.setCell ⟨g, 0, none⟩ (.slice a l c)) g r2 e := by
  obtain ⟨a', l', c', hB, hY, _⟩ := h
  refine ⟨a, l, c, hB.setCell (j := 0) (v := .slice a l c), h2.grownBy grownBy_set (fun x hx h0 => (hF x hx h0).ne), hF⟩

theorem Rdr.below {w w' : World} {g : Nat} {rest : List Int} {e : Int} (h : Rdr lo w g rest e) (hb : Below w.heap.size w w') : Rdr lo w' g rest e := by
  obtain ⟨a, l, c, hB, hY, hF⟩ := h
  exact ⟨a, l, c, hB.call hb, hY.below hb, hF⟩

theorem Rdr.belowN {w w' : World} {g N : Nat} {rest : List Int} {e : Int} (h : Rdr lo w g rest e) (hb : Below N w w') (hN : g < N) : Rdr lo w' g rest e := by
  obtain ⟨a, l, c, hB, hY, hF⟩ := h
  exact ⟨a, l, c, hB.below hb hN, hY.grow hb (fun a' l' c' e h0 => by cases e; exact Nat.lt_trans (hF _ rfl h0).2 hN), hF⟩

theorem Byt.drew {w : World} {v : Value} {xs : List Int} (h : Byt w v xs) : Byt w.drew v xs := ⟨show Ints .u8 w.drew v xs from h.ints, h.rng, h.fits⟩

theorem Rdr.drew {w : World} {g : Nat} {rest : List Int} {e : Int} (h : Rdr lo w g rest e) : Rdr lo w.drew g rest e := by
  obtain ⟨a, l, c, hB, hY, hF⟩ := h
  exact ⟨a, l, c, hB, hY.drew, hF⟩

theorem Byt.blk_lt {w : World} {a : Option Addr} {l c : Nat} {xs : List Int} (h : Byt w (.slice a l c) xs) : ∀ x, a = some x → 0 < l → x.block < w.heap.size := by
  rintro x rfl h0
  obtain ⟨_, _, _, e, _, _, hr⟩ := h.ints
  cases e
  rcases hr with h1 | ⟨b, off, e, hb, _⟩
  · omega
  · cases e; exact hb

theorem Rdr.lt {w : World} {g : Nat} {rest : List Int} {e : Int} (h : Rdr lo w g rest e) : g < w.heap.size := by
  obtain ⟨a, l, c, hB, hY, hF⟩ := h
  exact hB.lt

def closeF (rest : List Int) (e : Int) : Int := if e ≠ 0 then e else if rest.length = 0 then 0 else 2
end

/-! CdS -/
section
set_option linter.unusedVariables false
open Go.RowKit
variable {lo : Nat}

theorem Byt.take {w : World} {a : Option Addr} {l c k : Nat} {xs : List Int} (h : Byt w (.slice a l c) xs) (hk : k ≤ l) : Byt w (.slice a k c) (xs.take k) := by
  obtain ⟨a', l', c', e, hl, hm, hr⟩ := h.ints
  cases e
  refine ⟨⟨_, _, _, rfl, by rw [List.length_take]; omega, by omega, ?_⟩, fun x hx => h.rng x (List.mem_of_mem_take hx), fun a' l' c' e => by cases e; have := h.fits _ _ _ rfl; omega⟩
  by_cases h0 : k = 0
  · exact .inl h0
  rcases hr with hr | ⟨b, off, rfl, hb, hc⟩
  · omega
  · refine .inr ⟨b, off, rfl, hb, fun i hi => ?_⟩
    rw [hc i (by omega)]
    simp [List.getD, hi]

theorem Byt.drop {w : World} {a : Option Addr} {l c k : Nat} {xs : List Int} (h : Byt w (.slice a l c) xs) (hk : k ≤ l) : Byt w (.slice (if c = k then a else a.map (·.add k)) (l - k) (c - k)) (xs.drop k) := by
  obtain ⟨a', l', c', e, hl, hm, hr⟩ := h.ints
  cases e
  refine ⟨⟨_, _, _, rfl, by rw [List.length_drop]; omega, by omega, ?_⟩, fun x hx => h.rng x (List.mem_of_mem_drop hx), fun a' l' c' e => by cases e; have := h.fits _ _ _ rfl; omega⟩
  by_cases h0 : l - k = 0
  · exact .inl h0
  have hck := (h.fits _ _ _ rfl).1
  rw [if_neg (by omega)]
  rcases hr with hr | ⟨b, off, rfl, hb, hc⟩
  · omega
  · refine .inr ⟨b, off + k, by simp [Addr.add], hb, fun i hi => ?_⟩
    rw [Nat.add_assoc, hc (k + i) (by omega)]
    simp [List.getD]

theorem far_map {a : Option Addr} {l s g : Nat} (h : ∀ x, a = some x → 0 < l → InR lo g x.block) (hs : s ≤ l) : ∀ x, a.map (·.add s) = some x → 0 < l - s → InR lo g x.block := by
  intro x hx h0
  cases a with
  | none => cases hx
  | some y =>
    have e : y.add s = x := by simpa using hx
    subst e
    have := h y rfl (by omega)
    have eb : (y.add s).block = y.block := by unfold Addr.add; split <;> rfl
    rw [eb]; exact this

theorem pu_rng (xs : List Int) (hr : ∀ k, k < xs.length → 0 ≤ xs.getD k 0 ∧ xs.getD k 0 ≤ 255) : ∀ f i, f + i = 10 → 0 ≤ (pu xs f i).1 ∧ (pu xs f i).1 ≤ 18446744073709551615 ∧ 0 ≤ (pu xs f i).2.1 ∧ (pu xs f i).2.1 ≤ xs.length ∧ ((pu xs f i).2.2 = 0 ∨ (pu xs f i).2.2 = 2 ∨ (pu xs f i).2.2 = 5)
  | 0, i, _ => by simp [pu]
  | f + 1, i, hf => by
    rw [pu]
    split
    · simp
    · rename_i hlt
      split
      · exact pu_rng xs hr f (i + 1) (by omega)
      · rename_i h128
        split
        · simp
        · rename_i hbad
          have ha := accU_rng xs (i + 1)
          have hx := hr i (by omega)
          have hb : accU xs (i + 1) ≤ 18446744073709551615 := by
            by_cases h9 : i = 9
            · subst h9
              have h1 := accU_rng xs 9
              rw [accU]
              have e1 : (2 : Int) ^ (7 * 9) = 9223372036854775808 := by decide +kernel
              rw [e1] at h1 ⊢
              generalize xs.getD 9 0 = x at *
              omega
            · have h2 : (2 : Int) ^ (7 * (i + 1)) ≤ 2 ^ 63 := by
                have : (2 : Nat) ^ (7 * (i + 1)) ≤ 2 ^ 63 := Nat.pow_le_pow_right (by decide) (by omega)
                exact_mod_cast this
              have e2 : (2 : Int) ^ 63 = 9223372036854775808 := by decide +kernel
              rw [e2] at h2
              have := ha.2
              omega
          refine ⟨ha.1, hb, by simp only []; omega, by simp only []; omega, .inl rfl⟩

/-- Uint: value, bytes left, error. -/
def ruV (rest : List Int) (e most : Int) : Int := if e ≠ 0 then 0 else if (pu rest 10 0).2.2 ≠ 0 then 0 else if most < (pu rest 10 0).1 then 0 else (pu rest 10 0).1

def ruR (rest : List Int) (e most : Int) : List Int := if e ≠ 0 then rest else if (pu rest 10 0).2.2 ≠ 0 then rest else if most < (pu rest 10 0).1 then rest else rest.drop (pu rest 10 0).2.1.toNat

def ruE (rest : List Int) (e most : Int) : Int := if e ≠ 0 then e else if (pu rest 10 0).2.2 ≠ 0 then (pu rest 10 0).2.2 else if most < (pu rest 10 0).1 then 3 else 0

/-- What a reading method promises. -/
def Reads (lo : Nat) (w : World) (g : Nat) (v : Value) (rest : List Int) (e : Int) (en : Ending) (w' : World) : Prop := en = .returned v ∧ Rdr lo w' g rest e ∧ w.grownBy w' (some g)

/-- take: value, bytes left, error. -/
def tkR (rest : List Int) (e n : Int) : List Int := if e ≠ 0 then rest else if (rest.length : Int) < n then rest else rest.drop n.toNat

def tkE (rest : List Int) (e n : Int) : Int := if e ≠ 0 then e else if (rest.length : Int) < n then 5 else 0

def tkV (rest : List Int) (e n : Int) : List Int := if e ≠ 0 then [] else if (rest.length : Int) < n then [] else rest.take n.toNat

def Takes (lo : Nat) (w : World) (g : Nat) (ys rest : List Int) (e : Int) (en : Ending) (w' : World) : Prop :=
  ∃ a l c, en = .returned (.slice a l c) ∧ Byt w' (.slice a l c) ys ∧ (∀ x, a = some x → 0 < l → InR lo g x.block) ∧ Rdr lo w' g rest e ∧ w.grownBy w' (some g)
end

/-! CdT -/
section
set_option linter.unusedVariables false
open Go.RowKit
variable {lo : Nat}

theorem res_cellR {P : Program} {fn : Func} {p : Tmp} {ty : TypeId} {d : TypeDesc} {tmps : Array Value} {w : World} {b : Nat} {cs : Array Value} (h : fn.results = #[.cell p ty])
    (hp : tmps.getD p undef = .pointer (some ⟨b, 0, none⟩)) (hB : Blk w b cs) (hu : P.underlying ty = some d) (hd : (match d with | .struct _ | .array _ _ => true | _ => false) = true) (hi : (P.info? ty).map (·.size) = some cs.size) :
    (results fn tmps).run P w = .ok (.agg cs) w := by
  obtain ⟨t', hg⟩ := hB
  exact results_cell_row h tmps w b t' cs (0, 0) d hp hg hu hd hi

theorem grownBy_cut {w w1 w2 : World} {g : Nat} (h1 : w.grownBy w1 (some g)) (h2 : Below w.heap.size w1 w2) : w.grownBy w2 (some g) :=
  ⟨h2.os.trans h1.os, h2.tape.trans h1.tape, h2.output.trans h1.output, Nat.le_trans h1.size h2.size, fun k hk hne => (h2.block k hk).trans (h1.block k hk hne)⟩

/-- What word reads. -/
def wV (rest : List Int) (e : Int) : List Int := if e = 0 ∧ 32 ≤ rest.length then rest.take 32 else zeroR

theorem wV_is {rest : List Int} {e : Int} (h : ∀ x ∈ rest, 0 ≤ x ∧ x ≤ 255) : IsBytes 32 (wV rest e) := by
  unfold wV
  split
  · refine ⟨by rw [List.length_take]; omega, fun x hx => ?_⟩
    have := h x (List.mem_of_mem_take hx)
    simpa [Lit.wf, IntKind.min, IntKind.max, IntKind.signed, IntKind.bits] using this
  · exact zeroR_is

theorem tk32 (rest : List Int) (e : Int) : (tkV rest e 32 = [] ∧ wV rest e = zeroR) ∨ (tkV rest e 32 = wV rest e ∧ (wV rest e).length = 32) := by
  unfold tkV wV
  by_cases he : e = 0
  · subst he
    by_cases hl : 32 ≤ rest.length
    · right
      simp only [ne_eq, not_true_eq_false, if_false, true_and, if_pos hl]
      rw [if_neg (by omega)]
      exact ⟨rfl, by rw [List.length_take]; omega⟩
    · left
      simp only [ne_eq, not_true_eq_false, if_false, true_and, if_neg hl]
      rw [if_pos (by omega)]
      simp
  · left
    rw [if_pos he, if_neg (fun h => he h.1)]
    simp

theorem copy_src {w : World} {a : Option Addr} {l c : Nat} {ys : List Int} {Z : List Value} (h : Byt w (.slice a l c) ys) (hl : ys.length ≤ 32) (hz : Z.length = 32) :
    (ys.map (Value.int .u8)).length = Nat.min l 32 ∧ (0 < (ys.map (Value.int .u8)).length → ∃ ad, a = some ad ∧ ∀ j v, (ys.map (Value.int .u8))[j]? = some v → w.cell? (ad.add j) = some v) ∧ 0 + (ys.map (Value.int .u8)).length ≤ Z.length := by
  obtain ⟨_, _, _, e', hl2, _, hr⟩ := h.ints
  cases e'
  rw [List.length_map]
  refine ⟨?_, fun hp => ?_, by omega⟩
  · show ys.length = min l 32; omega
  · rcases hr with h0 | ⟨b, off, rfl, _, hc⟩
    · omega
    · refine ⟨_, rfl, fun j v hj => ?_⟩
      have hjl : j < ys.length := by
        have := (List.getElem?_eq_some_iff.1 hj).1
        simpa using this
      rw [Go.WideShapes.add_plain, hc j (by omega), ← hj]
      simp [List.getD, List.getElem?_eq_getElem hjl]

theorem word_splice {rest : List Int} {e : Int} {Z : Array Value} (hZ : Z = Array.replicate 32 (Value.int .u8 0)) (h : (tkV rest e 32 = [] ∧ wV rest e = zeroR) ∨ (tkV rest e 32 = wV rest e ∧ (wV rest e).length = 32)) :
    (splice Z.toList 0 ((tkV rest e 32).map (Value.int .u8))).toArray = bytesV (wV rest e) := by
  rcases h with ⟨h1, h2⟩ | ⟨h1, h2⟩
  · rw [h1, h2, hZ]; rfl
  · rw [h1, hZ]
    simp [splice, bytesV, h2]

def valK (f : Nat → Int) : Nat → Int
  | 0 => 0
  | k + 1 => valK f k + f k * 2 ^ (8 * k)

theorem pow8_pos (k : Nat) : 0 < (2 : Int) ^ (8 * k) := Int.pow_pos (by omega)

theorem valK_rng {f : Nat → Int} {n : Nat} (hf : ∀ i, i < n → 0 ≤ f i ∧ f i ≤ 255) : ∀ k, k ≤ n → 0 ≤ valK f k ∧ valK f k < 2 ^ (8 * k)
  | 0, _ => by simp [valK]
  | k + 1, hk => by
    obtain ⟨h1, h2⟩ := valK_rng hf k (by omega)
    have hp := pow8_pos k
    have e : (2 : Int) ^ (8 * (k + 1)) = 256 * 2 ^ (8 * k) := by
      rw [show 8 * (k + 1) = 8 * k + 8 by omega, Int.pow_add, Int.mul_comm]; rfl
    have h3 := hf k (by omega)
    rw [valK, e]
    generalize (2 : Int) ^ (8 * k) = p at *
    have h4 : 0 ≤ f k * p := Int.mul_nonneg h3.1 (by omega)
    have h5 : f k * p ≤ 255 * p := Int.mul_le_mul_of_nonneg_right h3.2 (by omega)
    omega

theorem valK_byte {f : Nat → Int} {n : Nat} (hf : ∀ i, i < n → 0 ≤ f i ∧ f i ≤ 255) : ∀ k, k ≤ n → ∀ i, i < k → valK f k / 2 ^ (8 * i) % 256 = f i
  | 0, _, i, hi => absurd hi (Nat.not_lt_zero _)
  | k + 1, hk, i, hi => by
    obtain ⟨h1, h2⟩ := valK_rng hf k (by omega)
    have h3 := hf i (by omega)
    by_cases hik : i = k
    · subst hik
      have hp := pow8_pos i
      rw [valK]
      have : (valK f i + f i * 2 ^ (8 * i)) / 2 ^ (8 * i) = f i := by
        rw [Int.add_mul_ediv_right _ _ (by omega), Int.ediv_eq_zero_of_lt h1 h2]; omega
      rw [this]
      omega
    · have ih := valK_byte hf k (by omega) i (by omega)
      have hp := pow8_pos i
      have e : (2 : Int) ^ (8 * k) = 256 * 2 ^ (8 * (k - i - 1)) * 2 ^ (8 * i) := by
        have : (256 : Int) = 2 ^ 8 := rfl
        rw [this, ← Int.pow_add, ← Int.pow_add]
        congr 1
        omega
      rw [valK, e, ← Int.mul_assoc, Int.add_mul_ediv_right _ _ (by omega)]
      generalize valK f k / 2 ^ (8 * i) = y at *
      rw [show f k * (256 * 2 ^ (8 * (k - i - 1))) = 256 * (f k * 2 ^ (8 * (k - i - 1))) by rw [← Int.mul_assoc, ← Int.mul_assoc, Int.mul_comm (f k) 256]]
      generalize f k * 2 ^ (8 * (k - i - 1)) = z
      omega

/-- Every 32 bytes are those of a number. -/
theorem bytes_of_num {xs : List Int} (h : IsBytes 32 xs) : ∃ n, W256 n ∧ bytesN n = xs := by
  have hf : ∀ i, i < 32 → 0 ≤ xs.getD (31 - i) 0 ∧ xs.getD (31 - i) 0 ≤ 255 := fun i hi => by
    have hlt : 31 - i < xs.length := by rw [h.1]; omega
    have e : xs.getD (31 - i) 0 = xs[31 - i] := by simp [List.getD, List.getElem?_eq_getElem hlt]
    rw [e]
    exact wf_u8 (h.2 _ (List.getElem_mem hlt))
  obtain ⟨h1, h2⟩ := valK_rng hf 32 (Nat.le_refl _)
  refine ⟨valK (fun i => xs.getD (31 - i) 0) 32, ⟨h1, by rw [show (2 : Int) ^ (8 * 32) = 115792089237316195423570985008687907853269984665640564039457584007913129639936 by decide +kernel] at h2; exact h2⟩, ?_⟩
  apply List.ext_getElem?
  intro j
  by_cases hj : j < 32
  · have hv := valK_byte hf 32 (Nat.le_refl _) (31 - j) (by omega)
    rw [show 31 - (31 - j) = j by omega] at hv
    have hlt : j < xs.length := by rw [h.1]; omega
    rw [show xs.getD j 0 = xs[j] by simp [List.getD, List.getElem?_eq_getElem hlt]] at hv
    unfold bytesN
    rw [List.getElem?_map, List.getElem?_range hj, List.getElem?_eq_getElem hlt]
    simp only [Option.map_some]
    unfold byteN
    rw [hv]
  · rw [List.getElem?_eq_none (by simp [bytesN]; omega), List.getElem?_eq_none (by rw [h.1]; omega)]
end

end Go.Proofs.Ytdmjpmigejpkmaa
