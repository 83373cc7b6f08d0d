/- The law's table. -/
import Derived.Test.YtdfemompijhohaaBkQ
set_option linter.unusedVariables false
set_option linter.unusedSimpArgs false
namespace Go.Proofs.Ytdfemompijhohaa
open Go.RowKit Go.Maps
set_option maxRecDepth 100000

theorem build_tb1 {c : CpD} (hc : c.ok) (u : World) : (Instr.build 29 #[(0, .agg c.cells.toArray)]).run Try.prog u = .ok (.agg (flatP [c.cells, [nilS]])) u := by
  have hl := CpD.len hc
  refine build_struct (zero := flatP [zeC.cells, [nilS]]) (fun w => by kernel_rfl) Try.underlying29 (places := #[(0, 33), (33, 1)]) (fun w => by kernel_rfl) ?_ u
  show Instr.fill _ (flatP [zeC.cells, [nilS]]) [(0, .agg c.cells.toArray)] = _
  rw [fill_part 0 zeC.cells c.cells rfl rfl (by rw [hl]; rfl) rfl (by rw [hl]; rfl)]
  rfl

theorem ints_one {w : World} {x : Int} {t : TypeId} : Ints .u64 (w.alloc (.cells #[.int .u64 x] t)) (.slice (some ⟨w.heap.size, 0, none⟩) 1 1) [x] :=
  ⟨_, 1, 1, rfl, rfl, by unfold maxLen; omega, .inr ⟨w.heap.size, 0, rfl, (Blk.new (cs := #[.int .u64 x]) (t := t) rfl).lt, fun i hi => by
    have h := (Blk.new (n := w.heap.size) (w := w) (cs := #[.int .u64 x]) (t := t) rfl).cell i
    rw [Nat.zero_add, h]
    obtain rfl : i = 0 := by omega
    rfl⟩⟩

/-- One cell is stored, carried out in a region that draws its order. -/
theorem wp_store_cell {P : Program} {op : Oper} {a : Act} {w : World} {K : Act → World → Prop} {Q : Exit → Act → World → Prop} (ty : TypeId) (x y : Operand) (ho : op.op = .store ty x y)
    (b o : Nat) (v old : Value) (hx : a.eval x = .pointer (some ⟨b, o, none⟩)) (hy : a.eval y = v) (hc : w.cell? ⟨b, o, none⟩ = some old) (hf : w.frozen? ⟨b, o, none⟩ = false) (hi : (P.info? ty).map (·.size) = some 1) (hv : v.cells = #[v]) (h1 : v.oneCell' = true)
    (h : K (a.put op.dst undef) (w.setCell ⟨b, o, none⟩ v)) : op.wp P a w K Q := by
  have q1 : ∀ j, j < [v].length → (w.cell? ⟨b, o + 0 + j, none⟩).isSome = true := fun j hj => by
    have h0 : j = 0 := by simp at hj; exact hj
    rw [h0]; simp [hc]
  have q2 : ∀ j, j < [v].length → w.frozen? ⟨b, o + 0 + j, none⟩ = false := fun j hj => by
    have h0 : j = 0 := by simp at hj; exact hj
    rw [h0]; simpa using hf
  have hr := run_storeCells_cells (P := P) b o [v] 0 w q1 q2 (fun z hz => by rw [List.mem_singleton.1 hz]; exact h1)
  unfold Oper.wp execOp
  cases hq : P.info? ty with
  | none => simp [hq] at hi
  | some i =>
    have hs : i.size = 1 := by simpa [hq] using hi
    simp only [Nat.add_zero] at hr
    have hsv : (storeVar ty ⟨b, o, none⟩ v).run P w = .ok () (w.setCell ⟨b, o, none⟩ v) := by
      simp [storeVar, sizeOf, typeInfo, hq, hv, hs, hr, World.setCells]
    simp only [ho, hx, hy, Instr.storeAt, Instr.sureAddr, Sem.run_bind, Sem.run_pure, Result.andThen_ok, hsv]
    exact h

/-- A number of a row of the call's own is written. -/
theorem OwnN.set {w : World} {B g cap n : Nat} {l : List Int} (h : OwnN w B (.slice (some ⟨g, 0, none⟩) n cap) l) {i : Nat} (hi : i < l.length) (x : Int) :
    w.cell? ⟨g, i, none⟩ = some (.int .u64 (l.getD i 0)) ∧ w.frozen? ⟨g, i, none⟩ = false ∧ OwnN (w.setCell ⟨g, i, none⟩ (.int .u64 x)) B (.slice (some ⟨g, 0, none⟩) n cap) (l.set i x) := by
  obtain ⟨h0, h1⟩ := h
  rcases h1 with ⟨e, _⟩ | ⟨g', cap', cur, e, hb, hg, hn, hcm, hcs, ht⟩
  · cases e
  · cases e
    have hlt : i < cur.size := by omega
    have hc : cur[i]? = some (.int .u64 (l.getD i 0)) := by
      have e1 : (cur.toList.take (l.length * 1))[i]? = (l.map (Value.int .u64))[i]? := by rw [ht]
      rw [List.getElem?_take_of_lt (by omega), List.getElem?_map, List.getElem?_eq_getElem hi] at e1
      simp only [Array.getElem?_toList, Option.map_some] at e1
      rw [e1]; simp [List.getD, List.getElem?_eq_getElem hi]
    refine ⟨by simp only [World.cell?, hg]; simpa using hc, by simp [World.frozen?, hg], by simp, .inr ⟨g, cap, cur.setIfInBounds i (.int .u64 x), by simp, hb, ?_, by simpa using hn, hcm, by simpa using hcs, ?_⟩⟩
    · simp [World.setCell, Array.getElem?_modify, hg]
    · rw [List.length_set, Array.toList_setIfInBounds, List.take_set, ht, List.map_set]

def TLoop (w : World) (tb r : Nat) (c : CpD) (Z : Array Value) (i : Value) (wr : World) (N : Nat) : Prop :=
  ∃ (j : Nat) (v : Value) (l : List Int), j ≤ N ∧ i = .int .i64 j ∧ l.length = j ∧ (∀ x ∈ l, 0 ≤ x ∧ x ≤ 18446744073709551615) ∧ OwnN wr (tb + 1) v l ∧ Blk wr tb (flatP [c.cells, [v]]) ∧ Blk wr r Z ∧ Below w.heap.size w wr

/-- What table hands back. -/
def TableR (w : World) (e : Ending) (w' : World) : Prop :=
  (∃ (c : CpD) (l : List Int) (a : Option Addr) (m : Nat), c.ok ∧ l.length ≤ 4 ∧ e = .returned (.agg (flatP [c.cells, [.slice a l.length m]])) ∧ NumsV w' (.slice a l.length m) l) ∧ Below w.heap.size w w'

theorem table_end {w w5 w6 : World} {tb r : Nat} {c : CpD} {v : Value} {l : List Int} {a : Option Addr} {m : Nat} (hv : v = .slice a l.length m) (hc : c.ok) (hl : l.length ≤ 4) (hr : ∀ x ∈ l, 0 ≤ x ∧ x ≤ 18446744073709551615) (ho : OwnN w5 (tb + 1) v l) (hu : Upd r w5 w6) (hrt : r < tb) (hb : Below w.heap.size w w5) (hwr : w.heap.size ≤ r) :
    TableR w (.returned (.agg (flatP [c.cells, [v]]))) w6 := by
  subst hv
  have hg : w5.grownBy w6 (some r) := ⟨hu.os, hu.tape, hu.output, by rw [hu.size]; exact Nat.le_refl _, fun j _ hj => hu.block j (fun e => hj (by rw [e]))⟩
  have ho6 := ho.grown hg (fun n hn e => by cases e; have := (World.ownsRow.lt ho r hn).1; omega)
  exact ⟨⟨c, l, a, m, hc, hl, rfl, ho6.ints (by unfold maxLen; omega), hr⟩, hu.below hb hwr⟩

set_option maxHeartbeats 8000000 in
theorem table_any (k : Int) (n : Nat) (w : World) (hn : n ≤ 3) :
    Calls Try.prog 15 #[.int .i64 k, .int .i64 n] w (TableR w) := by
  have HCK := Lib.hid (fun u => check_some k u)
  unfold cpX at HCK
  obtain ⟨Z, hZ⟩ : ∃ Z, flatP [zeC.cells, [nilS]] = Z := ⟨_, rfl⟩
  have hsz : Z.size = 34 := by rw [← hZ]; rfl
  obtain ⟨hz34, hst⟩ := zero_array (P := Try.prog) (t := 29) (n := 34) Z (by rw [← hZ]; kernel_rfl) hsz (by rw [← hZ]; kernel_rfl)
  clear hst hZ
  have HBA := Lib.hid ((Below.refl w.heap.size w).alloc (Nat.le_refl _) (.cells Z 29))
  have HZ0 : Hid (Blk (w.alloc (.cells Z 29)) w.heap.size Z) := Blk.new rfl
  obtain ⟨q, hq⟩ : ∃ q : Bool, (bits BinOp.and IntKind.i64 (k / 8) 15 == 15) = q := ⟨_, rfl⟩
  cases q
  · go_enter Try.func15, Try.ntmps15
    go_wp2_with (first
      | (go_at_call 19; refine (HCK.out _).mono ?_; rintro e w1 ⟨⟨c, hc, rfl⟩, hb1⟩; have HC := Lib.hid hc; have HZ1 := Lib.hid (HZ0.out.call hb1); have HB1 := Lib.hid (HBA.out.trans (hb1.mono HBA.out.size)); clear hc hb1)
      | ((with_reducible refine at_build (some 9) ?_); refine wpList_build rfl 29 _ rfl #[(0, .agg c.cells.toArray)] (by simp [Act.eval, Act.put]) _ (build_tb1 HC.out _) ?_)
      | ((with_reducible refine at_store (.tmp 5) ?_); have hY := (tabOff HC.out nilS).2.2; refine wpList_store_blk rfl 29 (.tmp 5) _ rfl w1.heap.size (flatP [c.cells, [nilS]]) rfl rfl Z (Blk.new rfl) (by rw [hsz, hY]) (by rw [hY]; kernel_rfl) (fun v hv => tab_one v hv) ?_; intro w2 U2 B2; have HB12 := Lib.hid (U2.below ((Below.refl w1.heap.size w1).alloc (Nat.le_refl _) (.cells Z 29)) (Nat.le_refl _)); have HT2 := Lib.hid B2; have HB2 := Lib.hid (HB1.out.trans (HB12.out.mono HB1.out.size)); have HZ2 := Lib.hid (HZ1.out.call HB12.out); clear U2 B2 hY))
    have HREL : Hid (TLoop w w1.heap.size w.heap.size c Z (.int .i64 0) w2 (n)) := ⟨0, nilS, [], Nat.zero_le _, rfl, rfl, by simp, OwnN.nil _ _, HT2.out, HZ2.out, HB2.out⟩
    go_loopw [6] (fun i wr => TLoop w w1.heap.size w.heap.size c Z i wr (n)) (fun i _ => (n) - (intOf i).toNat)
    case atStart => exact HREL.out
    case round =>
      obtain ⟨j, v, l, hj, rfl, hlj, hrg, hown, hT, hZb, hbel⟩ := hrel
      have HJ := Lib.hid hlj
      have HRG := Lib.hid hrg
      have HN := Lib.hid hown
      have HT := Lib.hid hT
      have HZ := Lib.hid hZb
      have HBL := Lib.hid hbel
      have HSZ : Hid (w.heap.size < w1.heap.size) := HZ1.out.lt
      clear hlj hrg hown hT hZb hbel HREL HT2 HZ2 HB2
      obtain ⟨va, vk, hv, hvk⟩ := HN.out.shape
      rw [HJ.out] at hv hvk
      subst hv
      by_cases hlt : j < n
      · have hlt' : (j : Int) < n := by omega
        go_wp2_with (first
          | ((with_reducible refine at_load (.tmp 21) ?_); refine wpList_load_1 27 (.tmp 21) rfl w1.heap.size 33 (.slice va j vk) (HT.out.cellAt (k := 1) rfl (tabOff HC.out _).2.1) rfl _ Try.underlying27 rfl rfl ?_)
          | ((with_reducible refine at_app _ _ ?_); refine wpList_appN _ _ rfl rfl (w1.heap.size + 1) _ l rfl (HN.out.grown (World.grownBy_alloc _ _ none) (by simp)) _ [_] rfl ints_one (by simp; rw [HJ.out]; omega) (by have := HT.out.lt; simp; omega) ?_; intro v3 w3 ho3 hg3 _; have HN3 := Lib.hid ho3; have HG3 := Lib.hid ((World.grownBy_alloc wr _ (Value.slice va j vk).ownBlock).trans hg3); clear ho3 hg3; have HT3 := Lib.hid (HT.out.grown HG3.out (fun e => by have := (World.ownsRow.lt HN.out _ e.symm).1; omega)); have HZ3 := Lib.hid (HZ.out.grown HG3.out (fun e => by have := (World.ownsRow.lt HN.out _ e.symm).1; have := HSZ.out; omega)); have HB3 := Lib.hid (HBL.out.grown HG3.out HBL.out.size (fun i hi => by have := (World.ownsRow.lt HN.out i hi).1; have := HSZ.out; omega)); obtain ⟨va3, vk3, hv3, _⟩ := HN3.out.shape; subst hv3)
          | ((with_reducible refine at_store (.tmp 32) ?_); refine wpList_store_part1 rfl 27 (.tmp 32) _ rfl w1.heap.size [c.cells, [.slice va j vk]] 1 (.slice va j vk) _ HT3.out rfl (by rw [(tabOff HC.out _).2.1]; rfl) rfl info_ints1 rfl rfl ?_; intro w4 U4 B4; have HT4 := Lib.hid (show Blk w4 w1.heap.size (flatP [c.cells, [.slice va3 _ vk3]]) from B4); have HZ4 := Lib.hid (U4.blk HZ3.out (by have := HSZ.out; omega)); have HB4 := Lib.hid (U4.below HB3.out (by have := HSZ.out; omega)); have HN4 := Lib.hid (HN3.out.grown ⟨U4.os, U4.tape, U4.output, by rw [U4.size]; exact Nat.le_refl _, fun q _ hq => U4.block q (fun e => hq (by rw [e]))⟩ (row := some w1.heap.size) (fun n hn e => by cases e; have := (World.ownsRow.lt HN3.out _ hn).1; omega)); clear U4 B4))
        go_roundw
        case rel =>
          refine ⟨j + 1, _, _, by omega, by go_num, by simp; exact HJ.out, ?_, HN4.out, (by simp only [List.length_append, List.length_cons, List.length_nil, Nat.zero_add]; exact HT4.out), HZ4.out, HB4.out⟩
          intro x hx
          rcases List.mem_append.1 hx with hx | hx
          · exact HRG.out x hx
          · rw [List.mem_singleton.1 hx]; exact wrap_u64r _
        case measure => simp [intOf]; omega
      · have hY := (tabOff HC.out (.slice va j vk)).2.2
        have hlt' : ¬ (j : Int) < n := by omega
        by_cases hone : 1 < j
        · obtain ⟨vg, rfl, hvg⟩ : ∃ g, va = some ⟨g, 0, none⟩ ∧ w1.heap.size + 1 ≤ g := by
            rcases HN.out.2 with ⟨e, h0⟩ | ⟨g, cap, cur, e, hg, _⟩
            · rw [HJ.out] at h0; omega
            · cases e; exact ⟨g, rfl, hg⟩
          have HVG : Hid (w1.heap.size ≠ vg) := by show _ ≠ _; omega
          have hone' : (1 : Int) < j := by omega
          go_wp2_with (first
          | ((with_reducible refine at_load (.tmp 38) ?_); refine wpList_load_1 27 (.tmp 38) rfl w1.heap.size 33 (.slice (some ⟨vg, 0, none⟩) j vk) (HT.out.cellAt (k := 1) rfl (tabOff HC.out _).2.1) rfl _ Try.underlying27 rfl rfl ?_)
          | ((with_reducible refine at_load (.tmp 5) ?_); refine wpList_load_blk rfl 29 (.tmp 5) rfl w1.heap.size rfl (flatP [c.cells, [.slice (some ⟨vg, 0, none⟩) j vk]]) _ HT.out Try.underlying29 rfl (by rw [hY]; kernel_rfl) ?_)
          | ((with_reducible refine at_store (.tmp 4) ?_); refine wpList_store_blk rfl 29 (.tmp 4) _ rfl w.heap.size (flatP [c.cells, [.slice (some ⟨vg, 0, none⟩) j vk]]) rfl rfl Z HZ.out (by rw [hsz, hY]) (by rw [hY]; kernel_rfl) (fun v hv => tab_one v hv) ?_; intro w6 U6 B6; have HU6 := Lib.hid U6; have HZ6 := Lib.hid B6; clear U6 B6))
          · have HTd : Hid (Blk wr.drew w1.heap.size (flatP [c.cells, [.slice (some ⟨vg, 0, none⟩) j vk]])) := HT.out.call ⟨rfl, rfl, rfl, Nat.le_refl _, fun _ _ => rfl⟩
            have HNd : Hid (OwnN wr.drew (w1.heap.size + 1) (.slice (some ⟨vg, 0, none⟩) j vk) l) := HN.out
            refine wp_region_held_drew (S := fun u => Blk u w1.heap.size (flatP [c.cells, [.slice (some ⟨vg, 0, none⟩) j vk]])) (by kernel_rfl) (HTd.out) (fun _ => ?_)
            (try simp only [Act.put, List.setIfInBounds_toArray, List.set_cons_zero, List.set_cons_succ])
            refine wpAnyH_take (i := 0) (oi := ⟨some 43, _, _, _, _, _⟩) (v := .pointer (some ⟨w1.heap.size, 33, none⟩)) rfl (by kernel_rfl) (by kernel_rfl) (by kernel_rfl) (fun _ _ _ h => h) (Or.inl ⟨by rfl, fun wz hz => ?_⟩) HTd.out ?_
            · clear hz; go_simp; first | done | with_reducible rfl | rfl
            (try simp only [Act.put, List.setIfInBounds_toArray, List.set_cons_zero, List.set_cons_succ])
            refine held_load1 (oi := ⟨some 44, _, _, _, _, _⟩) 1 rfl (by kernel_rfl) (by kernel_rfl) (by kernel_rfl) (fun _ _ _ _ h => h) rfl 27 (.tmp 43) rfl w1.heap.size 33 rfl (.slice (some ⟨vg, 0, none⟩) j vk) _ (fun u' hu => hu.cellAt (k := 1) rfl (tabOff HC.out _).2.1) Try.underlying27 rfl HTd.out ?_
            (try simp only [Act.put, List.setIfInBounds_toArray, List.set_cons_zero, List.set_cons_succ])
            refine wpAnyH_take (i := 2) (oi := ⟨some 45, _, _, _, _, _⟩) (v := .pointer (some ⟨w1.heap.size, 33, none⟩)) rfl (by kernel_rfl) (by kernel_rfl) (by kernel_rfl) (fun _ _ _ h => h) (Or.inl ⟨by rfl, fun wz hz => ?_⟩) HTd.out ?_
            · clear hz; go_simp; first | done | with_reducible rfl | rfl
            (try simp only [Act.put, List.setIfInBounds_toArray, List.set_cons_zero, List.set_cons_succ])
            refine held_load1 (oi := ⟨some 46, _, _, _, _, _⟩) 3 rfl (by kernel_rfl) (by kernel_rfl) (by kernel_rfl) (fun _ _ _ _ h => h) rfl 27 (.tmp 45) rfl w1.heap.size 33 rfl (.slice (some ⟨vg, 0, none⟩) j vk) _ (fun u' hu => hu.cellAt (k := 1) rfl (tabOff HC.out _).2.1) Try.underlying27 rfl HTd.out ?_
            (try simp only [Act.put, List.setIfInBounds_toArray, List.set_cons_zero, List.set_cons_succ])
            refine wpAnyH_take (i := 4) (oi := ⟨some 47, _, _, _, _, _⟩) (v := .int .i64 k) rfl (by kernel_rfl) (by kernel_rfl) (by kernel_rfl) (fun _ _ _ h => h) (Or.inl ⟨by rfl, fun wz hz => ?_⟩) HTd.out ?_
            · clear hz; go_simp; first | done | with_reducible rfl | rfl
            (try simp only [Act.put, List.setIfInBounds_toArray, List.set_cons_zero, List.set_cons_succ])
            refine wpAnyH_take (i := 5) (oi := ⟨some 48, _, _, _, _, _⟩) (v := .int .i64 (k / 8192)) rfl (by kernel_rfl) (by kernel_rfl) (by kernel_rfl) (fun _ _ _ h => h) (Or.inl ⟨by rfl, fun wz hz => ?_⟩) HTd.out ?_
            · clear hz; go_simp; first | done | with_reducible rfl | rfl
            (try simp only [Act.put, List.setIfInBounds_toArray, List.set_cons_zero, List.set_cons_succ])
            refine wpAnyH_take (i := 6) (oi := ⟨some 49, _, _, _, _, _⟩) (v := .int .i64 (bits BinOp.and IntKind.i64 (k / 8192) 1)) rfl (by kernel_rfl) (by kernel_rfl) (by kernel_rfl) (fun _ _ _ h => h) (Or.inl ⟨by rfl, fun wz hz => ?_⟩) HTd.out ?_
            · clear hz; go_simp; first | done | with_reducible rfl | rfl
            (try simp only [Act.put, List.setIfInBounds_toArray, List.set_cons_zero, List.set_cons_succ])
            refine wpAnyH_take (i := 7) (oi := ⟨some 50, _, _, _, _, _⟩) (v := .int .u64 (IntKind.u64.wrap (bits BinOp.and IntKind.i64 (k / 8192) 1))) rfl (by kernel_rfl) (by kernel_rfl) (by kernel_rfl) (fun _ _ _ h => h) (Or.inl ⟨by rfl, fun wz hz => ?_⟩) HTd.out ?_
            · clear hz; go_simp; first | done | with_reducible rfl | rfl
            (try simp only [Act.put, List.setIfInBounds_toArray, List.set_cons_zero, List.set_cons_succ])
            have hj0 : (0 : Int) < j := by omega
            have hj1 : (1 : Int) < j := by omega
            refine wpAnyH_take (i := 8) (oi := ⟨some 51, _, _, _, _, _⟩) (v := .pointer (some ⟨vg, 0, none⟩)) rfl (by kernel_rfl) (by kernel_rfl) (by kernel_rfl) (fun _ _ _ h => h) (Or.inl ⟨by rfl, fun wz hz => ?_⟩) HTd.out ?_
            · clear hz; go_simp; first | done | (intro hq; exfalso; omega) | rfl
            (try simp only [Act.put, List.setIfInBounds_toArray, List.set_cons_zero, List.set_cons_succ])
            obtain ⟨s0c, s0f, s0n⟩ := HNd.out.set (i := 0) (by rw [HJ.out]; omega) 4611686018427387904
            have HS0 := Lib.hid (And.intro s0c s0f)
            have HN0 := Lib.hid s0n
            obtain ⟨s1c, s1f, s1n⟩ := HN0.out.set (i := 1) (by rw [List.length_set, HJ.out]; omega) (IntKind.u64.wrap (bits BinOp.and IntKind.i64 (k / 8192) 1))
            have HS1 := Lib.hid (And.intro s1c s1f)
            have HN1 := Lib.hid s1n
            clear s0c s0f s0n s1c s1f s1n
            have HT0 := Lib.hid (HTd.out.setCell_other (j := 0) (v := .int .u64 4611686018427387904) HVG.out)
            have HT1 := Lib.hid (HT0.out.setCell_other (j := 1) (v := .int .u64 (IntKind.u64.wrap (bits BinOp.and IntKind.i64 (k / 8192) 1))) HVG.out)
            refine wpAnyH_ready (rs := [9]) (by kernel_rfl) (by simp) ?_
            refine AllReadyH.cons rfl (fun K hK => ?_) AllReadyH.nil
            refine wp_store_cell _ _ _ rfl vg 0 (.int .u64 4611686018427387904) _ rfl rfl HS0.out.1 HS0.out.2 (by kernel_rfl) rfl rfl ?_
            refine hK.out _ _ HT0.out (fun _ => ?_)
            clear hK K
            (try simp only [Act.put, List.setIfInBounds_toArray, List.set_cons_zero, List.set_cons_succ])
            refine wpAnyH_take (i := 10) (oi := ⟨some 52, _, _, _, _, _⟩) (v := .pointer (some ⟨vg, 1, none⟩)) rfl (by kernel_rfl) (by kernel_rfl) (by kernel_rfl) (fun _ _ _ h => h) (Or.inl ⟨by rfl, fun wz hz => ?_⟩) HT0.out ?_
            · clear hz; go_simp; first | done | (intro hq; exfalso; omega) | rfl
            (try simp only [Act.put, List.setIfInBounds_toArray, List.set_cons_zero, List.set_cons_succ])
            refine wpAnyH_ready (rs := [11]) (by kernel_rfl) (by simp) ?_
            refine AllReadyH.cons rfl (fun K hK => ?_) AllReadyH.nil
            refine wp_store_cell _ _ _ rfl vg 1 (.int .u64 (IntKind.u64.wrap (bits BinOp.and IntKind.i64 (k / 8192) 1))) _ rfl rfl HS1.out.1 HS1.out.2 (by kernel_rfl) rfl rfl ?_
            refine hK.out _ _ HT1.out (fun _ => ?_)
            clear hK K
            (try simp only [Act.put, List.setIfInBounds_toArray, List.set_cons_zero, List.set_cons_succ])
            refine wpAnyH_done (by kernel_rfl) ?_ _
            have HB1' : Hid (Below w.heap.size w ((wr.drew.setCell ⟨vg, 0, none⟩ (.int .u64 4611686018427387904)).setCell ⟨vg, 1, none⟩ (.int .u64 (IntKind.u64.wrap (bits BinOp.and IntKind.i64 (k / 8192) 1))))) := ((show Below w.heap.size w wr.drew from ⟨HBL.out.os, HBL.out.tape, HBL.out.output, HBL.out.size, HBL.out.block⟩).setCell (show w.heap.size ≤ vg by have := HSZ.out; omega) _).setCell (show w.heap.size ≤ vg by have := HSZ.out; omega) _
            have HZ1' : Hid (Blk ((wr.drew.setCell ⟨vg, 0, none⟩ (.int .u64 4611686018427387904)).setCell ⟨vg, 1, none⟩ (.int .u64 (IntKind.u64.wrap (bits BinOp.and IntKind.i64 (k / 8192) 1)))) w.heap.size Z) := ((show Blk wr.drew w.heap.size Z from HZ.out).setCell_other (by have := HSZ.out; omega)).setCell_other (by have := HSZ.out; omega)
            go_wp2_with (first
          | ((with_reducible refine at_load (.tmp 38) ?_); refine wpList_load_1 27 (.tmp 38) rfl w1.heap.size 33 (.slice (some ⟨vg, 0, none⟩) j vk) (HT1.out.cellAt (k := 1) rfl (tabOff HC.out _).2.1) rfl _ Try.underlying27 rfl rfl ?_)
          | ((with_reducible refine at_load (.tmp 5) ?_); refine wpList_load_blk rfl 29 (.tmp 5) rfl w1.heap.size rfl (flatP [c.cells, [.slice (some ⟨vg, 0, none⟩) j vk]]) _ HT1.out Try.underlying29 rfl (by rw [hY]; kernel_rfl) ?_)
          | ((with_reducible refine at_store (.tmp 4) ?_); refine wpList_store_blk rfl 29 (.tmp 4) _ rfl w.heap.size (flatP [c.cells, [.slice (some ⟨vg, 0, none⟩) j vk]]) rfl rfl Z HZ1'.out (by rw [hsz, hY]) (by rw [hY]; kernel_rfl) (fun v hv => tab_one v hv) ?_; intro w6 U6 B6; have HU6 := Lib.hid U6; have HZ6 := Lib.hid B6; clear U6 B6))
            refine bodyPost_ret (res_cellB rfl rfl HZ6.out Try.underlying29 rfl (by rw [hY]; kernel_rfl)) rfl ?_
            refine table_end (a := some ⟨vg, 0, none⟩) (m := vk) (l := (l.set 0 4611686018427387904).set 1 (IntKind.u64.wrap (bits BinOp.and IntKind.i64 (k / 8192) 1))) (by simp [HJ.out]) HC.out (by simp [HJ.out]; omega) ?_ HN1.out HU6.out HSZ.out HB1'.out (Nat.le_refl _)
            intro x hx
            rcases List.mem_or_eq_of_mem_set hx with hx | rfl
            · rcases List.mem_or_eq_of_mem_set hx with hx | rfl
              · exact HRG.out x hx
              · omega
            · exact wrap_u64r _
          · refine bodyPost_ret (res_cellB rfl rfl HZ6.out Try.underlying29 rfl (by rw [hY]; kernel_rfl)) rfl ?_
            exact table_end (a := some ⟨vg, 0, none⟩) (m := vk) (by rw [HJ.out]) HC.out (by rw [HJ.out]; omega) HRG.out HN.out HU6.out HSZ.out HBL.out (Nat.le_refl _)
        · have hone' : ¬ (1 : Int) < j := by omega
          go_wp2_with (first
          | ((with_reducible refine at_load (.tmp 38) ?_); refine wpList_load_1 27 (.tmp 38) rfl w1.heap.size 33 (.slice va j vk) (HT.out.cellAt (k := 1) rfl (tabOff HC.out _).2.1) rfl _ Try.underlying27 rfl rfl ?_)
          | ((with_reducible refine at_load (.tmp 5) ?_); refine wpList_load_blk rfl 29 (.tmp 5) rfl w1.heap.size rfl (flatP [c.cells, [.slice va j vk]]) _ HT.out Try.underlying29 rfl (by rw [hY]; kernel_rfl) ?_)
          | ((with_reducible refine at_store (.tmp 4) ?_); refine wpList_store_blk rfl 29 (.tmp 4) _ rfl w.heap.size (flatP [c.cells, [.slice va j vk]]) rfl rfl Z HZ.out (by rw [hsz, hY]) (by rw [hY]; kernel_rfl) (fun v hv => tab_one v hv) ?_; intro w6 U6 B6; have HU6 := Lib.hid U6; have HZ6 := Lib.hid B6; clear U6 B6))
          all_goals refine bodyPost_ret (res_cellB rfl rfl HZ6.out Try.underlying29 rfl (by rw [hY]; kernel_rfl)) rfl ?_
          all_goals exact table_end (a := va) (m := vk) (by rw [HJ.out]) HC.out (by rw [HJ.out]; omega) HRG.out HN.out HU6.out HSZ.out HBL.out (Nat.le_refl _)
  · go_enter Try.func15, Try.ntmps15
    go_wp2_with (first
      | (go_at_call 19; refine (HCK.out _).mono ?_; rintro e w1 ⟨⟨c, hc, rfl⟩, hb1⟩; have HC := Lib.hid hc; have HZ1 := Lib.hid (HZ0.out.call hb1); have HB1 := Lib.hid (HBA.out.trans (hb1.mono HBA.out.size)); clear hc hb1)
      | ((with_reducible refine at_build (some 9) ?_); refine wpList_build rfl 29 _ rfl #[(0, .agg c.cells.toArray)] (by simp [Act.eval, Act.put]) _ (build_tb1 HC.out _) ?_)
      | ((with_reducible refine at_store (.tmp 5) ?_); have hY := (tabOff HC.out nilS).2.2; refine wpList_store_blk rfl 29 (.tmp 5) _ rfl w1.heap.size (flatP [c.cells, [nilS]]) rfl rfl Z (Blk.new rfl) (by rw [hsz, hY]) (by rw [hY]; kernel_rfl) (fun v hv => tab_one v hv) ?_; intro w2 U2 B2; have HB12 := Lib.hid (U2.below ((Below.refl w1.heap.size w1).alloc (Nat.le_refl _) (.cells Z 29)) (Nat.le_refl _)); have HT2 := Lib.hid B2; have HB2 := Lib.hid (HB1.out.trans (HB12.out.mono HB1.out.size)); have HZ2 := Lib.hid (HZ1.out.call HB12.out); clear U2 B2 hY))
    have HREL : Hid (TLoop w w1.heap.size w.heap.size c Z (.int .i64 0) w2 (n + 1)) := ⟨0, nilS, [], Nat.zero_le _, rfl, rfl, by simp, OwnN.nil _ _, HT2.out, HZ2.out, HB2.out⟩
    go_loopw [6] (fun i wr => TLoop w w1.heap.size w.heap.size c Z i wr (n + 1)) (fun i _ => (n + 1) - (intOf i).toNat)
    case atStart => exact HREL.out
    case round =>
      obtain ⟨j, v, l, hj, rfl, hlj, hrg, hown, hT, hZb, hbel⟩ := hrel
      have HJ := Lib.hid hlj
      have HRG := Lib.hid hrg
      have HN := Lib.hid hown
      have HT := Lib.hid hT
      have HZ := Lib.hid hZb
      have HBL := Lib.hid hbel
      have HSZ : Hid (w.heap.size < w1.heap.size) := HZ1.out.lt
      clear hlj hrg hown hT hZb hbel HREL HT2 HZ2 HB2
      obtain ⟨va, vk, hv, hvk⟩ := HN.out.shape
      rw [HJ.out] at hv hvk
      subst hv
      by_cases hlt : j < n + 1
      · have hlt' : (j : Int) < (n : Int) + 1 := by omega
        go_wp2_with (first
          | ((with_reducible refine at_load (.tmp 21) ?_); refine wpList_load_1 27 (.tmp 21) rfl w1.heap.size 33 (.slice va j vk) (HT.out.cellAt (k := 1) rfl (tabOff HC.out _).2.1) rfl _ Try.underlying27 rfl rfl ?_)
          | ((with_reducible refine at_app _ _ ?_); refine wpList_appN _ _ rfl rfl (w1.heap.size + 1) _ l rfl (HN.out.grown (World.grownBy_alloc _ _ none) (by simp)) _ [_] rfl ints_one (by simp; rw [HJ.out]; omega) (by have := HT.out.lt; simp; omega) ?_; intro v3 w3 ho3 hg3 _; have HN3 := Lib.hid ho3; have HG3 := Lib.hid ((World.grownBy_alloc wr _ (Value.slice va j vk).ownBlock).trans hg3); clear ho3 hg3; have HT3 := Lib.hid (HT.out.grown HG3.out (fun e => by have := (World.ownsRow.lt HN.out _ e.symm).1; omega)); have HZ3 := Lib.hid (HZ.out.grown HG3.out (fun e => by have := (World.ownsRow.lt HN.out _ e.symm).1; have := HSZ.out; omega)); have HB3 := Lib.hid (HBL.out.grown HG3.out HBL.out.size (fun i hi => by have := (World.ownsRow.lt HN.out i hi).1; have := HSZ.out; omega)); obtain ⟨va3, vk3, hv3, _⟩ := HN3.out.shape; subst hv3)
          | ((with_reducible refine at_store (.tmp 32) ?_); refine wpList_store_part1 rfl 27 (.tmp 32) _ rfl w1.heap.size [c.cells, [.slice va j vk]] 1 (.slice va j vk) _ HT3.out rfl (by rw [(tabOff HC.out _).2.1]; rfl) rfl info_ints1 rfl rfl ?_; intro w4 U4 B4; have HT4 := Lib.hid (show Blk w4 w1.heap.size (flatP [c.cells, [.slice va3 _ vk3]]) from B4); have HZ4 := Lib.hid (U4.blk HZ3.out (by have := HSZ.out; omega)); have HB4 := Lib.hid (U4.below HB3.out (by have := HSZ.out; omega)); have HN4 := Lib.hid (HN3.out.grown ⟨U4.os, U4.tape, U4.output, by rw [U4.size]; exact Nat.le_refl _, fun q _ hq => U4.block q (fun e => hq (by rw [e]))⟩ (row := some w1.heap.size) (fun n hn e => by cases e; have := (World.ownsRow.lt HN3.out _ hn).1; omega)); clear U4 B4))
        go_roundw
        case rel =>
          refine ⟨j + 1, _, _, by omega, by go_num, by simp; exact HJ.out, ?_, HN4.out, (by simp only [List.length_append, List.length_cons, List.length_nil, Nat.zero_add]; exact HT4.out), HZ4.out, HB4.out⟩
          intro x hx
          rcases List.mem_append.1 hx with hx | hx
          · exact HRG.out x hx
          · rw [List.mem_singleton.1 hx]; exact wrap_u64r _
        case measure => simp [intOf]; omega
      · have hY := (tabOff HC.out (.slice va j vk)).2.2
        have hlt' : ¬ (j : Int) < (n : Int) + 1 := by omega
        by_cases hone : 1 < j
        · obtain ⟨vg, rfl, hvg⟩ : ∃ g, va = some ⟨g, 0, none⟩ ∧ w1.heap.size + 1 ≤ g := by
            rcases HN.out.2 with ⟨e, h0⟩ | ⟨g, cap, cur, e, hg, _⟩
            · rw [HJ.out] at h0; omega
            · cases e; exact ⟨g, rfl, hg⟩
          have HVG : Hid (w1.heap.size ≠ vg) := by show _ ≠ _; omega
          have hone' : (1 : Int) < j := by omega
          go_wp2_with (first
          | ((with_reducible refine at_load (.tmp 38) ?_); refine wpList_load_1 27 (.tmp 38) rfl w1.heap.size 33 (.slice (some ⟨vg, 0, none⟩) j vk) (HT.out.cellAt (k := 1) rfl (tabOff HC.out _).2.1) rfl _ Try.underlying27 rfl rfl ?_)
          | ((with_reducible refine at_load (.tmp 5) ?_); refine wpList_load_blk rfl 29 (.tmp 5) rfl w1.heap.size rfl (flatP [c.cells, [.slice (some ⟨vg, 0, none⟩) j vk]]) _ HT.out Try.underlying29 rfl (by rw [hY]; kernel_rfl) ?_)
          | ((with_reducible refine at_store (.tmp 4) ?_); refine wpList_store_blk rfl 29 (.tmp 4) _ rfl w.heap.size (flatP [c.cells, [.slice (some ⟨vg, 0, none⟩) j vk]]) rfl rfl Z HZ.out (by rw [hsz, hY]) (by rw [hY]; kernel_rfl) (fun v hv => tab_one v hv) ?_; intro w6 U6 B6; have HU6 := Lib.hid U6; have HZ6 := Lib.hid B6; clear U6 B6))
          · have HTd : Hid (Blk wr.drew w1.heap.size (flatP [c.cells, [.slice (some ⟨vg, 0, none⟩) j vk]])) := HT.out.call ⟨rfl, rfl, rfl, Nat.le_refl _, fun _ _ => rfl⟩
            have HNd : Hid (OwnN wr.drew (w1.heap.size + 1) (.slice (some ⟨vg, 0, none⟩) j vk) l) := HN.out
            refine wp_region_held_drew (S := fun u => Blk u w1.heap.size (flatP [c.cells, [.slice (some ⟨vg, 0, none⟩) j vk]])) (by kernel_rfl) (HTd.out) (fun _ => ?_)
            (try simp only [Act.put, List.setIfInBounds_toArray, List.set_cons_zero, List.set_cons_succ])
            refine wpAnyH_take (i := 0) (oi := ⟨some 43, _, _, _, _, _⟩) (v := .pointer (some ⟨w1.heap.size, 33, none⟩)) rfl (by kernel_rfl) (by kernel_rfl) (by kernel_rfl) (fun _ _ _ h => h) (Or.inl ⟨by rfl, fun wz hz => ?_⟩) HTd.out ?_
            · clear hz; go_simp; first | done | with_reducible rfl | rfl
            (try simp only [Act.put, List.setIfInBounds_toArray, List.set_cons_zero, List.set_cons_succ])
            refine held_load1 (oi := ⟨some 44, _, _, _, _, _⟩) 1 rfl (by kernel_rfl) (by kernel_rfl) (by kernel_rfl) (fun _ _ _ _ h => h) rfl 27 (.tmp 43) rfl w1.heap.size 33 rfl (.slice (some ⟨vg, 0, none⟩) j vk) _ (fun u' hu => hu.cellAt (k := 1) rfl (tabOff HC.out _).2.1) Try.underlying27 rfl HTd.out ?_
            (try simp only [Act.put, List.setIfInBounds_toArray, List.set_cons_zero, List.set_cons_succ])
            refine wpAnyH_take (i := 2) (oi := ⟨some 45, _, _, _, _, _⟩) (v := .pointer (some ⟨w1.heap.size, 33, none⟩)) rfl (by kernel_rfl) (by kernel_rfl) (by kernel_rfl) (fun _ _ _ h => h) (Or.inl ⟨by rfl, fun wz hz => ?_⟩) HTd.out ?_
            · clear hz; go_simp; first | done | with_reducible rfl | rfl
            (try simp only [Act.put, List.setIfInBounds_toArray, List.set_cons_zero, List.set_cons_succ])
            refine held_load1 (oi := ⟨some 46, _, _, _, _, _⟩) 3 rfl (by kernel_rfl) (by kernel_rfl) (by kernel_rfl) (fun _ _ _ _ h => h) rfl 27 (.tmp 45) rfl w1.heap.size 33 rfl (.slice (some ⟨vg, 0, none⟩) j vk) _ (fun u' hu => hu.cellAt (k := 1) rfl (tabOff HC.out _).2.1) Try.underlying27 rfl HTd.out ?_
            (try simp only [Act.put, List.setIfInBounds_toArray, List.set_cons_zero, List.set_cons_succ])
            refine wpAnyH_take (i := 4) (oi := ⟨some 47, _, _, _, _, _⟩) (v := .int .i64 k) rfl (by kernel_rfl) (by kernel_rfl) (by kernel_rfl) (fun _ _ _ h => h) (Or.inl ⟨by rfl, fun wz hz => ?_⟩) HTd.out ?_
            · clear hz; go_simp; first | done | with_reducible rfl | rfl
            (try simp only [Act.put, List.setIfInBounds_toArray, List.set_cons_zero, List.set_cons_succ])
            refine wpAnyH_take (i := 5) (oi := ⟨some 48, _, _, _, _, _⟩) (v := .int .i64 (k / 8192)) rfl (by kernel_rfl) (by kernel_rfl) (by kernel_rfl) (fun _ _ _ h => h) (Or.inl ⟨by rfl, fun wz hz => ?_⟩) HTd.out ?_
            · clear hz; go_simp; first | done | with_reducible rfl | rfl
            (try simp only [Act.put, List.setIfInBounds_toArray, List.set_cons_zero, List.set_cons_succ])
            refine wpAnyH_take (i := 6) (oi := ⟨some 49, _, _, _, _, _⟩) (v := .int .i64 (bits BinOp.and IntKind.i64 (k / 8192) 1)) rfl (by kernel_rfl) (by kernel_rfl) (by kernel_rfl) (fun _ _ _ h => h) (Or.inl ⟨by rfl, fun wz hz => ?_⟩) HTd.out ?_
            · clear hz; go_simp; first | done | with_reducible rfl | rfl
            (try simp only [Act.put, List.setIfInBounds_toArray, List.set_cons_zero, List.set_cons_succ])
            refine wpAnyH_take (i := 7) (oi := ⟨some 50, _, _, _, _, _⟩) (v := .int .u64 (IntKind.u64.wrap (bits BinOp.and IntKind.i64 (k / 8192) 1))) rfl (by kernel_rfl) (by kernel_rfl) (by kernel_rfl) (fun _ _ _ h => h) (Or.inl ⟨by rfl, fun wz hz => ?_⟩) HTd.out ?_
            · clear hz; go_simp; first | done | with_reducible rfl | rfl
            (try simp only [Act.put, List.setIfInBounds_toArray, List.set_cons_zero, List.set_cons_succ])
            have hj0 : (0 : Int) < j := by omega
            have hj1 : (1 : Int) < j := by omega
            refine wpAnyH_take (i := 8) (oi := ⟨some 51, _, _, _, _, _⟩) (v := .pointer (some ⟨vg, 0, none⟩)) rfl (by kernel_rfl) (by kernel_rfl) (by kernel_rfl) (fun _ _ _ h => h) (Or.inl ⟨by rfl, fun wz hz => ?_⟩) HTd.out ?_
            · clear hz; go_simp; first | done | (intro hq; exfalso; omega) | rfl
            (try simp only [Act.put, List.setIfInBounds_toArray, List.set_cons_zero, List.set_cons_succ])
            obtain ⟨s0c, s0f, s0n⟩ := HNd.out.set (i := 0) (by rw [HJ.out]; omega) 4611686018427387904
            have HS0 := Lib.hid (And.intro s0c s0f)
            have HN0 := Lib.hid s0n
            obtain ⟨s1c, s1f, s1n⟩ := HN0.out.set (i := 1) (by rw [List.length_set, HJ.out]; omega) (IntKind.u64.wrap (bits BinOp.and IntKind.i64 (k / 8192) 1))
            have HS1 := Lib.hid (And.intro s1c s1f)
            have HN1 := Lib.hid s1n
            clear s0c s0f s0n s1c s1f s1n
            have HT0 := Lib.hid (HTd.out.setCell_other (j := 0) (v := .int .u64 4611686018427387904) HVG.out)
            have HT1 := Lib.hid (HT0.out.setCell_other (j := 1) (v := .int .u64 (IntKind.u64.wrap (bits BinOp.and IntKind.i64 (k / 8192) 1))) HVG.out)
            refine wpAnyH_ready (rs := [9]) (by kernel_rfl) (by simp) ?_
            refine AllReadyH.cons rfl (fun K hK => ?_) AllReadyH.nil
            refine wp_store_cell _ _ _ rfl vg 0 (.int .u64 4611686018427387904) _ rfl rfl HS0.out.1 HS0.out.2 (by kernel_rfl) rfl rfl ?_
            refine hK.out _ _ HT0.out (fun _ => ?_)
            clear hK K
            (try simp only [Act.put, List.setIfInBounds_toArray, List.set_cons_zero, List.set_cons_succ])
            refine wpAnyH_take (i := 10) (oi := ⟨some 52, _, _, _, _, _⟩) (v := .pointer (some ⟨vg, 1, none⟩)) rfl (by kernel_rfl) (by kernel_rfl) (by kernel_rfl) (fun _ _ _ h => h) (Or.inl ⟨by rfl, fun wz hz => ?_⟩) HT0.out ?_
            · clear hz; go_simp; first | done | (intro hq; exfalso; omega) | rfl
            (try simp only [Act.put, List.setIfInBounds_toArray, List.set_cons_zero, List.set_cons_succ])
            refine wpAnyH_ready (rs := [11]) (by kernel_rfl) (by simp) ?_
            refine AllReadyH.cons rfl (fun K hK => ?_) AllReadyH.nil
            refine wp_store_cell _ _ _ rfl vg 1 (.int .u64 (IntKind.u64.wrap (bits BinOp.and IntKind.i64 (k / 8192) 1))) _ rfl rfl HS1.out.1 HS1.out.2 (by kernel_rfl) rfl rfl ?_
            refine hK.out _ _ HT1.out (fun _ => ?_)
            clear hK K
            (try simp only [Act.put, List.setIfInBounds_toArray, List.set_cons_zero, List.set_cons_succ])
            refine wpAnyH_done (by kernel_rfl) ?_ _
            have HB1' : Hid (Below w.heap.size w ((wr.drew.setCell ⟨vg, 0, none⟩ (.int .u64 4611686018427387904)).setCell ⟨vg, 1, none⟩ (.int .u64 (IntKind.u64.wrap (bits BinOp.and IntKind.i64 (k / 8192) 1))))) := ((show Below w.heap.size w wr.drew from ⟨HBL.out.os, HBL.out.tape, HBL.out.output, HBL.out.size, HBL.out.block⟩).setCell (show w.heap.size ≤ vg by have := HSZ.out; omega) _).setCell (show w.heap.size ≤ vg by have := HSZ.out; omega) _
            have HZ1' : Hid (Blk ((wr.drew.setCell ⟨vg, 0, none⟩ (.int .u64 4611686018427387904)).setCell ⟨vg, 1, none⟩ (.int .u64 (IntKind.u64.wrap (bits BinOp.and IntKind.i64 (k / 8192) 1)))) w.heap.size Z) := ((show Blk wr.drew w.heap.size Z from HZ.out).setCell_other (by have := HSZ.out; omega)).setCell_other (by have := HSZ.out; omega)
            go_wp2_with (first
          | ((with_reducible refine at_load (.tmp 38) ?_); refine wpList_load_1 27 (.tmp 38) rfl w1.heap.size 33 (.slice (some ⟨vg, 0, none⟩) j vk) (HT1.out.cellAt (k := 1) rfl (tabOff HC.out _).2.1) rfl _ Try.underlying27 rfl rfl ?_)
          | ((with_reducible refine at_load (.tmp 5) ?_); refine wpList_load_blk rfl 29 (.tmp 5) rfl w1.heap.size rfl (flatP [c.cells, [.slice (some ⟨vg, 0, none⟩) j vk]]) _ HT1.out Try.underlying29 rfl (by rw [hY]; kernel_rfl) ?_)
          | ((with_reducible refine at_store (.tmp 4) ?_); refine wpList_store_blk rfl 29 (.tmp 4) _ rfl w.heap.size (flatP [c.cells, [.slice (some ⟨vg, 0, none⟩) j vk]]) rfl rfl Z HZ1'.out (by rw [hsz, hY]) (by rw [hY]; kernel_rfl) (fun v hv => tab_one v hv) ?_; intro w6 U6 B6; have HU6 := Lib.hid U6; have HZ6 := Lib.hid B6; clear U6 B6))
            refine bodyPost_ret (res_cellB rfl rfl HZ6.out Try.underlying29 rfl (by rw [hY]; kernel_rfl)) rfl ?_
            refine table_end (a := some ⟨vg, 0, none⟩) (m := vk) (l := (l.set 0 4611686018427387904).set 1 (IntKind.u64.wrap (bits BinOp.and IntKind.i64 (k / 8192) 1))) (by simp [HJ.out]) HC.out (by simp [HJ.out]; omega) ?_ HN1.out HU6.out HSZ.out HB1'.out (Nat.le_refl _)
            intro x hx
            rcases List.mem_or_eq_of_mem_set hx with hx | rfl
            · rcases List.mem_or_eq_of_mem_set hx with hx | rfl
              · exact HRG.out x hx
              · omega
            · exact wrap_u64r _
          · refine bodyPost_ret (res_cellB rfl rfl HZ6.out Try.underlying29 rfl (by rw [hY]; kernel_rfl)) rfl ?_
            exact table_end (a := some ⟨vg, 0, none⟩) (m := vk) (by rw [HJ.out]) HC.out (by rw [HJ.out]; omega) HRG.out HN.out HU6.out HSZ.out HBL.out (Nat.le_refl _)
        · have hone' : ¬ (1 : Int) < j := by omega
          go_wp2_with (first
          | ((with_reducible refine at_load (.tmp 38) ?_); refine wpList_load_1 27 (.tmp 38) rfl w1.heap.size 33 (.slice va j vk) (HT.out.cellAt (k := 1) rfl (tabOff HC.out _).2.1) rfl _ Try.underlying27 rfl rfl ?_)
          | ((with_reducible refine at_load (.tmp 5) ?_); refine wpList_load_blk rfl 29 (.tmp 5) rfl w1.heap.size rfl (flatP [c.cells, [.slice va j vk]]) _ HT.out Try.underlying29 rfl (by rw [hY]; kernel_rfl) ?_)
          | ((with_reducible refine at_store (.tmp 4) ?_); refine wpList_store_blk rfl 29 (.tmp 4) _ rfl w.heap.size (flatP [c.cells, [.slice va j vk]]) rfl rfl Z HZ.out (by rw [hsz, hY]) (by rw [hY]; kernel_rfl) (fun v hv => tab_one v hv) ?_; intro w6 U6 B6; have HU6 := Lib.hid U6; have HZ6 := Lib.hid B6; clear U6 B6))
          all_goals refine bodyPost_ret (res_cellB rfl rfl HZ6.out Try.underlying29 rfl (by rw [hY]; kernel_rfl)) rfl ?_
          all_goals exact table_end (a := va) (m := vk) (by rw [HJ.out]) HC.out (by rw [HJ.out]; omega) HRG.out HN.out HU6.out HSZ.out HBL.out (Nat.le_refl _)

end Go.Proofs.Ytdfemompijhohaa
