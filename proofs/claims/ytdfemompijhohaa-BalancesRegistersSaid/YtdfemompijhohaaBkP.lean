/- Drop: maps.DeleteFunc with its function. -/
import Derived.Test.YtdfemompijhohaaBkO
set_option linter.unusedVariables false
set_option linter.unusedSimpArgs false
namespace Go.Proofs.Ytdfemompijhohaa
open Go.RowKit Go.Maps
set_option maxRecDepth 100000

theorem wpList_deleteC {ops : Array Oper} {rest : List Oper} {o : Oper} {a : Act} {w : World} {Q : Exit → Act → World → Prop} (hg : o.guard = none) (m x : Operand) (t e : TypeId) (hop : o.op = Op.call { callee := Callee.builtin Builtin.delete, args := #[m, x], argTypes := #[t, 26] })
    (ht : Try.prog.underlying t = some (.map 26 e)) (b r cnt : Nat) (L U : Ents) (c : CpD) (hm : a.eval m = .map (some b)) (hx : a.eval x = .agg c.cells.toArray) (hc : c.ok) (h : RangeIs w b r L U cnt) (hn : c ∉ U.map Prod.fst)
    (hK : ∀ w' cnt', RangeIs w' b r (L.filter fun p => decide (p.1 ≠ c)) U cnt' → cnt' ≤ cnt → w.grownBy w' (some b) → wpList Try.prog ops Q rest (a.put o.dst (.tuple #[])) w') :
    wpList Try.prog ops Q (o :: rest) a w := by
  refine wpList_plain hg fun K' hK' => ?_
  obtain ⟨w', cnt', hrun, r1, r2, r3⟩ := h.drop hc hn ht o.type
  simp only [cpX] at hrun
  unfold Oper.wp
  simp [execOp, hop, resolve, invoke, builtin, hm, hx, hrun, Result.andThen]
  exact hK' _ _ (hK w' cnt' r1 r2 r3)
theorem at_deleteC {P : Program} {ops : Array Oper} {Q : Exit → Act → World → Prop} {dst : Option Tmp} (m x : Operand) {tt : Array TypeId} {ty' : TypeId} {pos : String} {aft : Array Edge} {g : Option (Nat × Bool)} {rest : List Oper} {a : Act} {w : World}
    (h : wpList P ops Q (⟨dst, .call { callee := .builtin .delete, args := #[m, x], argTypes := tt }, ty', pos, aft, g⟩ :: rest) a w) : wpList P ops Q (⟨dst, .call { callee := .builtin .delete, args := #[m, x], argTypes := tt }, ty', pos, aft, g⟩ :: rest) a w := h

set_option maxHeartbeats 2000000 in
theorem old_any (c : CpD) (v : Value) (ep : Int) (hb : Nat) (w : World) (hc : c.ok) (h : w.cell? ⟨hb, 0, none⟩ = some (.int .u64 ep)) :
    Calls Try.prog 28 #[.agg c.cells.toArray, v, .pointer (some ⟨hb, 0, none⟩)] w fun e w' => e = .returned (.bool (decide (c.n < ep))) ∧ Below w.heap.size w w' := by
  have hlt := cell_lt h
  obtain ⟨X, HX⟩ : ∃ X, Hid (c.cells.toArray = X) := ⟨_, Lib.hid rfl⟩
  rw [HX.out]
  have HBA := Lib.hid ((Below.refl w.heap.size w).alloc (Nat.le_refl _) (.cells X 26))
  have BX : Blk (w.alloc (.cells X 26)) w.heap.size c.cells.toArray := by rw [HX.out]; exact Blk.new rfl
  have HP := Lib.hid (cp_parts BX).1
  have HE : Hid ((w.alloc (.cells X 26)).cell? ⟨hb, 0, none⟩ = some (.int .u64 ep)) := (HBA.out.cell (p := ⟨hb, 0, none⟩) hlt).trans h
  obtain ⟨n, hn⟩ : ∃ n, c.n = n := ⟨_, rfl⟩
  rw [hn] at HP ⊢
  clear hn BX h hlt hc
  go_enter Try.func28, Try.ntmps28
  go_wp2_with (first
    | ((with_reducible refine at_load (.tmp 6) ?_); refine wpList_load_1 22 (.tmp 6) rfl w.heap.size 0 (.int .u64 n) HP.out rfl _ Try.underlying22 rfl rfl ?_)
    | ((with_reducible refine at_load (.tmp 2) ?_); refine wpList_load_1 22 (.tmp 2) rfl hb 0 (.int .u64 ep) HE.out rfl _ Try.underlying22 rfl rfl ?_))
  go_ret
  exact ⟨rfl, HBA.out⟩

def keepE (ep : Int) (p : CpD × Value) : Bool := decide (ep ≤ p.1.n)

def DelRel (w : World) (mb r : Nat) (L : Ents) (ep : Int) (wr : World) : Prop :=
  ∃ L' D U cnt, RangeIs wr mb r L' U cnt ∧ L.Perm (D ++ U) ∧ L'.Perm (D.filter (keepE ep) ++ U) ∧ w.grownBy wr (some mb)

theorem filter_ne_self {D : Ents} {c : CpD} (h : c ∉ D.map Prod.fst) : D.filter (fun p => decide (p.1 ≠ c)) = D := by
  rw [List.filter_eq_self]
  intro p hp
  rw [decide_eq_true_iff]
  exact fun e => h (List.mem_map.2 ⟨p, hp, e⟩)

theorem del_step {L L' D U U' : Ents} {c : CpD} {v : Value} {ep : Int} (hL : EntsOK L) (h1 : L.Perm (D ++ U)) (h2 : L'.Perm (D.filter (keepE ep) ++ U)) (hU : U.Perm ((c, v) :: U')) :
    L.Perm ((D ++ [(c, v)]) ++ U') ∧ (ep ≤ c.n → L'.Perm ((D ++ [(c, v)]).filter (keepE ep) ++ U')) ∧ (c.n < ep → (L'.filter fun p => decide (p.1 ≠ c)).Perm ((D ++ [(c, v)]).filter (keepE ep) ++ U')) := by
  have h3 : L.Perm (D ++ (c, v) :: U') := h1.trans (List.Perm.append_left _ hU)
  have hnd := (hL.perm h3).nodup
  rw [List.map_append, List.map_cons, List.nodup_append] at hnd
  obtain ⟨n1, n2, n3⟩ := hnd
  rw [List.nodup_cons] at n2
  refine ⟨by simpa using h3, fun hk => ?_, fun hk => ?_⟩
  · have : keepE ep (c, v) = true := by simp [keepE, hk]
    rw [List.filter_append, List.filter_cons_of_pos this, List.filter_nil, List.append_assoc]
    exact h2.trans (List.Perm.append_left _ hU)
  · have : ¬ keepE ep (c, v) = true := by simp [keepE]; omega
    rw [List.filter_append, List.filter_cons_of_neg this, List.filter_nil, List.append_nil]
    have h4 := (h2.trans (List.Perm.append_left _ hU)).filter (fun p => decide (p.1 ≠ c))
    have e1 : (D.filter (keepE ep)).filter (fun p => decide (p.1 ≠ c)) = D.filter (keepE ep) := filter_ne_self fun hm => by
      obtain ⟨p, hp, e⟩ := List.mem_map.1 hm
      exact n3 p.1 (List.mem_map.2 ⟨p, (List.mem_filter.1 hp).1, rfl⟩) c (by simp) e
    have e2 : U'.filter (fun p => decide (p.1 ≠ c)) = U' := filter_ne_self n2.1
    rw [List.filter_append, List.filter_cons_of_neg (by simp), e1, e2] at h4
    exact h4

set_option maxHeartbeats 8000000 in
theorem delf_any (mb : Nat) (L : Ents) (ep : Int) (hb : Nat) (w : World) (hM : MapIs w mb L) (hE : w.cell? ⟨hb, 0, none⟩ = some (.int .u64 ep)) :
    Calls Try.prog 27 #[.map (some mb), .func (.func 28) #[] #[.pointer (some ⟨hb, 0, none⟩)]] w fun e w' => e = .returned (.tuple #[]) ∧ MapIs w' mb (L.filter (keepE ep)) ∧ w.grownBy w' (some mb) := by
  have HM := Lib.hid hM
  have HE := Lib.hid hE
  have HLT := Lib.hid (cell_lt hE)
  have hne : hb ≠ mb := fun e => by
    have := hM.noCell (z := ⟨hb, 0, none⟩) e
    rw [hE] at this; cases this
  have HNE := Lib.hid hne
  obtain ⟨ZC, hZC⟩ : ∃ Z, zeC.cells.toArray = Z := ⟨_, rfl⟩
  have hszC : ZC.size = 33 := by rw [← hZC]; rfl
  obtain ⟨hz33, hst⟩ := zero_array (P := Try.prog) (t := 26) (n := 33) ZC (by rw [← hZC]; kernel_rfl) hszC (by rw [← hZC]; kernel_rfl)
  have eg : ∀ args w, (callFunc 28 args).run Try.prog w = .ok (.enter 28 args) w := enters_of Try.func28 (by kernel_rfl) rfl
  clear hM hE hne hst hZC
  go_enter Try.func27, Try.ntmps27
  go_wp2_with (first
    | (at_range; refine wpList_rangeC rfl _ 58 27 rfl Try.underlying58 mb _ rfl HM.out ?_; intro w2 hrg2 hg2 hs2; have HR2 := Lib.hid hrg2; have HG2 := Lib.hid hg2; clear hrg2 hg2 hs2))
  first | go_frame | skip
  have HREL : Hid (DelRel w mb w.heap.size L ep w2) := ⟨L, [], L, _, HR2.out, by simp, by simp, HG2.out.but _⟩
  go_loopw [8] (fun _ wr => DelRel w mb w.heap.size L ep wr) (fun _ wr => wr.rangeLeft mb w.heap.size)
  case atStart => exact HREL.out
  case round =>
    obtain ⟨L', D, U, cnt, hrg, hp1, hp2, hgw⟩ := hrel
    have HRG := Lib.hid hrg
    have HP1 := Lib.hid hp1
    have HP2 := Lib.hid hp2
    have HGW := Lib.hid hgw
    clear hrg hp1 hp2 hgw HREL HR2 HG2
    go_wp2_with (first
      | (at_next; refine wpList_nextC rfl _ rfl mb w.heap.size cnt _ U rfl HRG.out ?_ ?_)
      | go_in)
    · rintro rfl
      go_wp2
      go_end0
      refine ⟨rfl, HRG.out.map.perm ?_, HGW.out⟩
      have h1 := HP1.out
      have h2 := HP2.out
      rw [List.append_nil] at h1 h2
      exact h2.trans (h1.filter _).symm
    · intro c v0 U' w3 cnt' hp hrg3 hlt3 hgr3 hsz3 hen3
      have HPU := Lib.hid hp
      have HR3 := Lib.hid hrg3
      have HLT3 := Lib.hid hlt3
      have HG3 := Lib.hid (HGW.out.andThen hgr3 (fun j hj => by cases hj; exact .inl (Nat.le_refl _)))
      have hcok : c.ok := by
        obtain ⟨_, _, _, _, hsub, hL, _⟩ := HRG.out
        exact hL.ok (c, v0) (hsub (c, v0) (hp.mem_iff.2 (by simp)))
      have hnU : c ∉ U'.map Prod.fst := by
        obtain ⟨_, _, _, _, _, _, hU⟩ := HRG.out
        have := (hU.perm hp).nodup
        rw [List.map_cons, List.nodup_cons] at this
        exact this.1
      have HC := Lib.hid hcok
      have HNU := Lib.hid hnU
      obtain ⟨C, hC⟩ : ∃ C, Hid (c.cells.toArray = C) := ⟨_, Lib.hid rfl⟩
      rw [hC.out] at hen3 ⊢
      have hsC : C.size = 33 := by rw [← hC.out, List.size_toArray, CpD.len hcok]
      have hiC : (Try.prog.info? 26).map (·.size) = some C.size := by rw [hsC]; kernel_rfl
      have HOC : Hid (∀ v ∈ C, v.oneCell' = true) := by show ∀ v ∈ C, _; rw [← hC.out]; exact fun v hv => CpD.one _ v (by simpa using hv)
      have hZC : ZC.size = C.size := by rw [hszC, hsC]
      have HST := Lib.hid (del_step (ep := ep) HM.out.2 HP1.out HP2.out hp)
      have HOLD := Lib.hid (fun u (hu : u.cell? ⟨hb, 0, none⟩ = some (.int .u64 ep)) => old_any c v0 ep hb u hcok hu)
      rw [hC.out] at HOLD
      obtain ⟨q, hq⟩ : ∃ q, Hid (decide (c.n < ep) = q) := ⟨_, Lib.hid rfl⟩
      rw [hq.out] at HOLD
      clear hp hrg3 hlt3 hgr3 hsz3 hcok hnU
      have HBK : Hid (∀ u, w.grownBy u (some mb) → u.cell? ⟨hb, 0, none⟩ = some (.int .u64 ep)) := fun u hu => (hu.cell_far ⟨hb, 0, none⟩ HLT.out (fun e => HNE.out (by cases e; rfl))).trans HE.out
      cases q
      · go_wp2_with (first
          | ((with_reducible refine at_store (.tmp 4) ?_); refine wpList_store_blk rfl 26 (.tmp 4) _ rfl w3.heap.size C rfl rfl ZC (Blk.new rfl) hZC hiC HOC.out ?_; intro w4 U4 B4; have HB34 := Lib.hid (U4.below ((Below.refl w3.heap.size w3).alloc (Nat.le_refl _) (.cells ZC 26)) (Nat.le_refl _)); have HBC := Lib.hid B4; have HR4 := Lib.hid (HR3.out.grown (below_grown HB34.out) (by simp) (by simp)); have HG4 := Lib.hid (HG3.out.andThen (below_grown HB34.out) (fun j hj => by cases hj)); clear U4 B4)
          | ((with_reducible refine at_load (.tmp 4) ?_); refine wpList_load_blk rfl 26 (.tmp 4) rfl w3.heap.size rfl C _ HBC.out Try.underlying26 rfl hiC ?_)
          | (go_at_fn 28; refine (HOLD.out _ (HBK.out _ HG4.out)).mono ?_; rintro e w5 ⟨rfl, hb5⟩; have HR5 := Lib.hid (HR4.out.grown (below_grown hb5) (by simp) (by simp)); have HG5 := Lib.hid (HG4.out.andThen (below_grown hb5) (fun j hj => by cases hj)); clear hb5)
          | go_in)
        go_roundw
        case rel => exact ⟨L', D ++ [(c, v0)], U', cnt', HR5.out, HST.out.1, HST.out.2.1 (by have := hq.out; simp at this; exact this), HG5.out⟩
        case measure => rw [HR5.out.left_eq, HRG.out.left_eq]; exact HLT3.out
      · go_wp2_with (first
          | ((with_reducible refine at_store (.tmp 4) ?_); refine wpList_store_blk rfl 26 (.tmp 4) _ rfl w3.heap.size C rfl rfl ZC (Blk.new rfl) hZC hiC HOC.out ?_; intro w4 U4 B4; have HB34 := Lib.hid (U4.below ((Below.refl w3.heap.size w3).alloc (Nat.le_refl _) (.cells ZC 26)) (Nat.le_refl _)); have HBC := Lib.hid B4; have HR4 := Lib.hid (HR3.out.grown (below_grown HB34.out) (by simp) (by simp)); have HG4 := Lib.hid (HG3.out.andThen (below_grown HB34.out) (fun j hj => by cases hj)); clear U4 B4)
          | ((with_reducible refine at_load (.tmp 4) ?_); refine wpList_load_blk rfl 26 (.tmp 4) rfl w3.heap.size rfl C _ HBC5.out Try.underlying26 rfl hiC ?_)
          | ((with_reducible refine at_load (.tmp 4) ?_); refine wpList_load_blk rfl 26 (.tmp 4) rfl w3.heap.size rfl C _ HBC.out Try.underlying26 rfl hiC ?_)
          | (go_at_fn 28; refine (HOLD.out _ (HBK.out _ HG4.out)).mono ?_; rintro e w5 ⟨rfl, hb5⟩; have HBC5 := Lib.hid (HBC.out.call hb5); have HR5 := Lib.hid (HR4.out.grown (below_grown hb5) (by simp) (by simp)); have HG5 := Lib.hid (HG4.out.andThen (below_grown hb5) (fun j hj => by cases hj)); clear hb5)
          | ((with_reducible refine at_deleteC _ _ ?_); refine wpList_deleteC rfl _ _ 58 27 rfl Try.underlying58 mb w.heap.size cnt' L' U' c rfl (by rw [hC.out]; rfl) HC.out HR5.out HNU.out ?_; intro w6 cnt6 hr6 hle6 hg6; have HR6 := Lib.hid hr6; have HLE6 := Lib.hid hle6; have HG6 := Lib.hid (HG5.out.andThen hg6 (fun j hj => .inr hj)); clear hr6 hle6 hg6; go_frame)
          | go_in)
        go_roundw
        case rel => exact ⟨_, D ++ [(c, v0)], U', cnt6, HR6.out, HST.out.1, HST.out.2.2 (by have := hq.out; simp at this; exact this), HG6.out⟩
        case measure => rw [HR6.out.left_eq, HRG.out.left_eq]; exact Nat.lt_of_le_of_lt HLE6.out HLT3.out

end Go.Proofs.Ytdfemompijhohaa
