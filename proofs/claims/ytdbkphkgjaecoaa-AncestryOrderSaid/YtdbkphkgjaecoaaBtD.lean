/- blocktree's Children, Depth, Leaves. (Written by gen/btd-gen.py.) -/
import Derived.Test.YtdbkphkgjaecoaaBtA
import Derived.Test.YtdbkphkgjaecoaaTrH
import Derived.Test.YtdbkphkgjaecoaaOwM
set_option linter.unusedVariables false

set_option linter.unusedSimpArgs false
namespace Go.Proofs.Ytdbkphkgjaecoaa
open Go.RowKit

set_option maxRecDepth 100000

/-- '[]int{}'. -/
theorem bs_int0 (u : World) : (Instr.buildSlice 22 0 #[]).run Try.prog u = .ok (.slice (some ⟨u.heap.size, 0, none⟩) 0 0) (u.alloc (.cells #[] 3)) := by kernel_rfl

theorem own_int0 {u : World} {B : Nat} (hB : B ≤ u.heap.size) : OwnK .i64 3 (u.alloc (.cells #[] 3)) B (.slice (some ⟨u.heap.size, 0, none⟩) 0 0) [] :=
  World.ownsRow_made u #[] 0 hB (Nat.zero_le _) (by simp)

/-- Truth values as cells of a row. -/
def bolL (xs : List Bool) : List (List Value) := xs.map fun x => [Value.bool x]

theorem bolL_sz (xs : List Bool) : ∀ L ∈ bolL xs, L.length = 1 := fun L hL => by
  obtain ⟨x, _, rfl⟩ := List.mem_map.1 hL
  rfl

theorem bolL_flat (xs : List Bool) : (bolL xs).flatten = xs.map Value.bool := by
  induction xs with
  | nil => rfl
  | cons x r ih => simp only [bolL, List.map_cons, List.flatten_cons] at *; rw [ih]; rfl

theorem bolL_len (xs : List Bool) : (bolL xs).length = xs.length := by simp [bolL]

theorem RowB.bol {w : World} {g : Nat} {xs : List Bool} (h : RowB w g (bolL xs)) {i : Nat} (hi : i < xs.length) : w.cell? ⟨g, i, none⟩ = some (.bool (xs.getD i false)) := by
  have h1 := h.cell (bolL_sz xs) (k := i) (j := 0) (L := [.bool (xs.getD i false)]) (v := .bool (xs.getD i false)) (by simp [bolL, List.getD, List.getElem?_eq_getElem hi]) rfl
  rw [Nat.mul_one, Nat.add_zero] at h1
  exact h1

theorem wpList_store_bol {P : Program} {ops : Array Oper} {rest : List Oper} {op : Oper} {a : Act} {w : World} {Q : Exit → Act → World → Prop} (hgd : op.guard = none) (ty : TypeId) (x y : Operand) (ho : op.op = .store ty x y)
    (g i : Nat) (xs : List Bool) (n : Bool) (hB : RowB w g (bolL xs)) (hk : i < xs.length) (hx : a.eval x = .pointer (some ⟨g, i, none⟩)) (hy : a.eval y = .bool n) (hi : (P.info? ty).map (·.size) = some 1)
    (h : ∀ w', Upd g w w' → RowB w' g (bolL (xs.set i n)) → wpList P ops Q rest (a.put op.dst undef) w') : wpList P ops Q (op :: rest) a w := by
  obtain ⟨sp, hB⟩ := hB
  have hl : i < (bolL xs).length := by rw [bolL_len]; exact hk
  refine wpList_store_part1 hgd ty x y ho g (bolL xs ++ [sp]) i (.bool (xs.getD i false)) (.bool n) hB (by rw [List.getElem?_append_left hl]; simp [bolL, List.getD, List.getElem?_eq_getElem hk]) (by rw [offP_row (bolL_sz xs) sp hl, Nat.mul_one]; exact hx) hy hi rfl rfl ?_
  intro w' U B
  refine h w' U ⟨sp, ?_⟩
  rw [List.set_append_left _ _ hl] at B
  rw [show bolL (xs.set i n) = (bolL xs).set i [.bool n] from by simp [bolL, List.map_set]]
  exact B

/-- make([]bool, n). -/
theorem wpList_make_bol {ops : Array Oper} {rest : List Oper} {o : Oper} {a : Act} {w : World} {Q : Exit → Act → World → Prop} (hg : o.guard = none) (l : Operand) (hop : o.op = Op.makeSlice 62 l l)
    (kl : IntKind) (n : Nat) (hl : a.eval l = .int kl (n : Int)) (hn : n ≤ 1000000)
    (hK : ∀ w', Below w.heap.size w w' → RowB w' w.heap.size (bolL (List.replicate n false)) → wpList Try.prog ops Q rest (a.put o.dst (.slice (some ⟨w.heap.size, 0, none⟩) n n)) w') : wpList Try.prog ops Q (o :: rest) a w := by
  obtain ⟨i0, hi0, hz0, hz1, hz2⟩ := info_parts (show (Try.prog.info? 4).map (fun i => (i.zero, i.size, i.bytes)) = some (some (.bool false), 1, 1) by kernel_rfl)
  refine wpList_plain hg fun _ hK' => ?_
  have hr := run_make (P := Try.prog) w 62 4 i0 (.bool false) Try.underlying62 hi0 hz0 kl kl n n (by omega) (by omega) (by rw [hz2]; omega) (by omega)
  simp only [Int.toNat_natCast, hz1, Nat.mul_one] at hr
  have hm : madeCells (Value.bool false).cells n = flatP (bolL (List.replicate n false) ++ [[]]) := by
    apply Array.toList_inj.1
    rw [show (Value.bool false).cells = #[Value.bool false] from rfl, toList_madeCells_one]
    unfold flatP
    rw [List.flatten_append, bolL_flat]
    simp
  rw [hm] at hr
  unfold Oper.wp
  simp only [execOp, hop, hl, Sem.run_bind, hr, Result.andThen, Sem.run_pure]
  exact hK' _ _ (hK _ ((Below.refl _ w).alloc (Nat.le_refl _) _) ⟨[], Blk.new rfl⟩)
/-! ### Depth -/

def DepI (w : World) (T : Array Value) (ns : List NdD) (L : Nat) (i d : Value) (wr : World) : Prop :=
  ∃ iv dv : Int, i = .int .i64 iv ∧ d = .int .i64 dv ∧ 0 ≤ dv ∧ dv + (pathN ns iv).length = L ∧ (-9223372036854775808 ≤ iv ∧ iv ≤ 9223372036854775807) ∧ PaS w T wr

theorem up_step {ns : List NdD} (h : TrOK ns) {k : Nat} (hk : k < ns.length) : ∃ u : Int, ns[k].up = u ∧ -1 ≤ u ∧ u < k ∧ (pathN ns (k : Int)).length = (pathN ns u).length + 1 := by
  by_cases h0 : k = 0
  · subst h0
    refine ⟨-1, h.root hk, by omega, by omega, ?_⟩
    rw [show ((0 : Nat) : Int) = 0 from rfl, pathN_zero hk, pathN_out (by omega)]
    rfl
  · obtain ⟨h1, h2, h3⟩ := h.upAt hk (by omega)
    refine ⟨_, h3, by omega, by omega, ?_⟩
    rw [pathN_step h hk (by omega), List.length_append]
    rfl

set_option maxHeartbeats 8000000 in
theorem cdepth_any (ns : List NdD) (hok : TrOK ns) (hlen : ns.length ≤ 100000) (i : Int) (hir : -9223372036854775808 ≤ i ∧ i ≤ 9223372036854775807) (v : Value) (w : World) (hN : NodesV w v ns) :
    Calls Try.prog 28 #[.agg #[v], .int .i64 i] w fun e w' => e = .returned (.int .i64 ((pathN ns i).length : Nat)) ∧ Below w.heap.size w w' := by
  obtain ⟨a, cap, rfl, hmx⟩ := hN.shape
  unfold maxLen at hmx
  have HIS := Lib.hid (fun (k : Int) u (hu : Below w.heap.size w u) => cisn_any _ ns k u (hN.call hu))
  have HN := Lib.hid hN
  have HOK := Lib.hid hok
  have HLE := Lib.hid (pathN_len ns i)
  have hi1 : (Try.prog.info? 25).map (·.size) = some 1 := by kernel_rfl
  obtain ⟨m, hm⟩ : ∃ m, Hid (ns.length = m) := ⟨_, Lib.hid rfl⟩
  rw [hm.out] at hmx HIS hlen HN HLE ⊢
  have S0 := Lib.hid (pas_new w #[.slice a m cap] 25)
  obtain ⟨L, hL⟩ : ∃ L, (pathN ns i).length = L := ⟨_, rfl⟩
  have HL := Lib.hid hL
  rw [hL] at HLE ⊢
  clear hN hok hL
  go_enter Try.func28, Try.ntmps28
  go_wp2_with fail
  go_loopw [1, 5] (fun i d wr => DepI w #[.slice a m cap] ns L i d wr) (fun i _ _ => (intOf i + 1).toNat)
  case atStart => exact ⟨i, 0, rfl, rfl, by omega, by rw [HL.out]; omega, hir, S0.out⟩
  case round =>
    obtain ⟨iv, dv, rfl, rfl, hd0, hdl, hir, hs⟩ := hrel
    have S1 := Lib.hid hs
    have HIR := Lib.hid hir
    have HDL := Lib.hid hdl
    have hdm : dv ≤ 100000 := by have := HLE.out; omega
    clear hs hir hdl
    by_cases hin : 0 ≤ iv ∧ iv < m
    case neg =>
      have HD : Hid (decide (0 ≤ iv ∧ iv < (m : Int)) = false) := decide_eq_false hin
      have hp : pathN ns iv = [] := pathN_out (by rw [hm.out]; exact hin)
      have HQ : Hid (dv = L) := by have := HDL.out; rw [hp] at this; show dv = L; simpa using this
      clear hin hp
      go_wp2_with (first
        | ((with_reducible refine at_load (.tmp 2) ?_); refine wpList_load_g 25 (.tmp 2) rfl w.heap.size rfl #[.slice a m cap] _ S1.out.t Try.underlying25 rfl hi1 rfl ?_)
        | (go_at_call 35; refine (HIS.out _ _ S1.out.b).mono ?_; rintro e w2 ⟨rfl, hb2⟩; rw [HD.out]; have S2 := Lib.hid (S1.out.call hb2); clear hb2))
      go_ret
      exact ⟨by first | rfl | (rw [HQ.out]; rfl), S2.out.b⟩
    obtain ⟨k, rfl⟩ : ∃ k : Nat, iv = k := ⟨iv.toNat, by omega⟩
    have HD : Hid (decide (0 ≤ (k : Int) ∧ (k : Int) < (m : Int)) = true) := decide_eq_true hin
    have hkn : k < ns.length := by rw [hm.out]; omega
    have hlt' : (k : Int) < m := by omega
    obtain ⟨b, off, rfl, hlm, hbb, hna, _⟩ := HN.out.elem hkn
    have HUP := Lib.hid hna.up
    obtain ⟨u, hu, hu0, hu1, hul⟩ := up_step HOK.out hkn
    rw [hu] at HUP
    have HUL := Lib.hid hul
    clear hin hlm hna hu hul
    go_wp2_with (first
      | ((with_reducible refine at_load (.tmp 2) ?_); refine wpList_load_g 25 (.tmp 2) rfl w.heap.size rfl #[.slice (some ⟨b, off, none⟩) m cap] _ S1.out.t Try.underlying25 rfl hi1 rfl ?_)
      | (go_at_call 35; refine (HIS.out _ _ S1.out.b).mono ?_; rintro e w2 ⟨rfl, hb2⟩; rw [HD.out]; have S2 := Lib.hid (S1.out.call hb2); have HU2 := Lib.hid ((S2.out.b.cell (p := ⟨b, off + k * 240 + 238, none⟩) hbb).trans HUP.out); clear hb2)
      | ((with_reducible refine at_load (.tmp 11) ?_); refine wpList_load_1 23 (.tmp 11) rfl w.heap.size 0 (.slice (some ⟨b, off, none⟩) m cap) (S2.out.t.cell 0) rfl _ Try.underlying23 rfl rfl ?_)
      | ((with_reducible refine at_load (.tmp 15) ?_); refine wpList_load_1 3 (.tmp 15) rfl b (off + k * 240 + 238) (.int .i64 u) HU2.out rfl _ Try.underlying3 rfl rfl ?_))
    go_roundw
    case rel => exact ⟨u, dv + 1, by go_num, by go_num, by omega, by have h1 := HDL.out; have h2 := HUL.out; omega, by omega, S2.out⟩
    case measure => simp [intOf]; omega
/-! ### Leaves -/

def markB (ns : List NdD) (k j : Nat) : Bool := (List.range k).any fun i => decide (upI ns i = (j : Int))

def markL (ns : List NdD) (m k : Nat) : List Bool := (List.range m).map (markB ns k)

theorem markL_len (ns : List NdD) (m k : Nat) : (markL ns m k).length = m := by simp [markL]

theorem markL_zero (ns : List NdD) (m : Nat) : List.replicate m false = markL ns m 0 := by
  apply List.ext_getElem?
  intro j
  simp only [markL, List.getElem?_replicate, List.getElem?_map, List.getElem?_range']
  by_cases h : j < m
  · simp [h, markB]
  · simp [h]

theorem markB_succ (ns : List NdD) (k j : Nat) : markB ns (k + 1) j = (markB ns k j || decide (upI ns k = (j : Int))) := by
  simp [markB, List.range_succ]

theorem markL_get (ns : List NdD) (m k j : Nat) (h : j < m) : (markL ns m k).getD j false = markB ns k j := by
  simp [markL, List.getD, h]

theorem markL_skip {ns : List NdD} {m k : Nat} (h : ¬ (0 ≤ upI ns k ∧ upI ns k < m)) : markL ns m (k + 1) = markL ns m k := by
  refine List.map_congr_left fun j hj => ?_
  rw [markB_succ]
  have : decide (upI ns k = (j : Int)) = false := decide_eq_false (fun e => h (by have := List.mem_range.1 hj; omega))
  rw [this, Bool.or_false]

theorem markL_set {ns : List NdD} {m k u : Nat} (h : upI ns k = (u : Int)) : (markL ns m k).set u true = markL ns m (k + 1) := by
  apply List.ext_getElem?
  intro j
  rw [List.getElem?_set, markL_len]
  by_cases hj : j < m
  · have e1 : (markL ns m (k + 1))[j]? = some (markB ns (k + 1) j) := by simp [markL, hj]
    have e2 : (markL ns m k)[j]? = some (markB ns k j) := by simp [markL, hj]
    rw [e1, e2, markB_succ, h]
    by_cases e : u = j
    · subst e; simp [hj]
    · have : decide ((u : Int) = (j : Int)) = false := decide_eq_false (by omega)
      rw [this, if_neg e, Bool.or_false]
  · have e1 : (markL ns m (k + 1))[j]? = none := List.getElem?_eq_none (by rw [markL_len]; omega)
    have e2 : (markL ns m k)[j]? = none := List.getElem?_eq_none (by rw [markL_len]; omega)
    rw [e1, e2]
    by_cases e : u = j
    · subst e; simp [hj]
    · simp [e]

theorem selK_congr {p q : Nat → Bool} : ∀ {k : Nat}, (∀ j, j < k → p j = q j) → selK p k = selK q k
  | 0, _ => rfl
  | k + 1, h => by
    have ih := selK_congr (k := k) (fun j hj => h j (by omega))
    have hk := h k (by omega)
    cases e : p k
    · rw [selK_no e, selK_no (hk ▸ e), ih]
    · rw [selK_yes e, selK_yes (hk ▸ e), ih]

theorem leaf_mark (ns : List NdD) : leafN ns = selK (fun j => !markB ns ns.length j) ns.length := by
  refine selK_congr fun j hj => ?_
  have hc : childN ns (j : Int) = selK (fun k => decide (upI ns k = (j : Int))) ns.length := by unfold childN; rw [if_pos (by omega)]
  rw [hc]
  cases hm : markB ns ns.length j
  · refine decide_eq_true (Nat.eq_zero_of_not_pos fun h => ?_)
    obtain ⟨x, hx⟩ := List.exists_mem_of_length_pos h
    obtain ⟨i, h1, _, h3⟩ := selK_mem.1 hx
    have : markB ns ns.length j = true := List.any_eq_true.2 ⟨i, List.mem_range.2 h1, h3⟩
    rw [hm] at this; cases this
  · refine decide_eq_false fun h => ?_
    obtain ⟨i, h1, h2⟩ := List.any_eq_true.1 hm
    have hx : (i : Int) ∈ selK (fun k => decide (upI ns k = (j : Int))) ns.length := selK_mem.2 ⟨i, List.mem_range.1 h1, rfl, h2⟩
    rw [List.eq_nil_of_length_eq_zero h] at hx; cases hx

/-- The tree's variable, and the marks. -/
structure LeS (w : World) (T : Array Value) (xs : List Bool) (u : World) : Prop where
  p : PaS w T u
  r : RowB u (w.heap.size + 1) (bolL xs)

theorem LeS.call {w u u' : World} {T : Array Value} {xs : List Bool} (h : LeS w T xs u) (hb : Below u.heap.size u u') : LeS w T xs u' := ⟨h.p.call hb, h.r.call hb⟩

theorem LeS.grown {w u u' : World} {T : Array Value} {xs : List Bool} {row : Option Nat} (h : LeS w T xs u) (hg : u.grownBy u' row) (hr : ∀ j, row = some j → w.heap.size + 1 < j) : LeS w T xs u' := ⟨h.p.grown hg (fun j hj => by have := hr j hj; omega), h.r.grown hg (fun e => by have := hr _ e.symm; omega)⟩

def LeI (w : World) (T : Array Value) (ns : List NdD) (m : Nat) (i : Value) (wr : World) : Prop :=
  ∃ k : Nat, k ≤ m ∧ i = .int .i64 k ∧ LeS w T (markL ns m k) wr

def LeJ (w : World) (T : Array Value) (xs : List Bool) (p : Nat → Bool) (m : Nat) (v i : Value) (wr : World) : Prop :=
  ∃ k : Nat, k ≤ m ∧ i = .int .i64 k ∧ OwnK .i64 3 wr (w.heap.size + 2) v (selK p k) ∧ LeS w T xs wr

theorem OwnK.off2 {w wr : World} {v : Value} {xs : List Int} (h : OwnK .i64 3 wr (w.heap.size + 2) v xs) : ∀ j, v.ownBlock = some j → w.heap.size + 1 < j := fun j hj => by have := (h.lt j hj).1; omega
end Go.Proofs.Ytdbkphkgjaecoaa
