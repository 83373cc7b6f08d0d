/- BalancesCopies. -/
import Derived.Test.YtdfemompijhohaaBkI
set_option linter.unusedVariables false
set_option linter.unusedSimpArgs false
namespace Go.Proofs.Ytdfemompijhohaa
open Go.RowKit Go.Maps Go.Sort
set_option maxRecDepth 100000

theorem setCell_grown (w : World) (b j : Nat) (v : Value) : w.grownBy (w.setCell ⟨b, j, none⟩ v) (some b) :=
  ⟨rfl, rfl, rfl, by simp [World.setCell], fun k _ hk => Below.heap_setCell _ _ _ _ (fun e => hk (by rw [e]))⟩

/-- A book while a block that is none of its own turns. -/
theorem BookIs.turned {w w' : World} {b mb g : Nat} {n lim : Int} {E : List TeD} (h : BookIs w b mb n lim E) (hg : w.grownBy w' (some g)) (hb : b ≠ g) (hm : mb ≠ g) (he : ∀ e ∈ E, Off g e.v) : BookIs w' b mb n lim E :=
  ⟨h.blk.grown hg (by simpa using hb), h.map.grown hg (by simpa using hm), fun e hE => ⟨⟨(h.rows e hE).1.1.grownOff hg (fun k e' => by cases e'; exact he e hE), (h.rows e hE).1.2⟩, (h.rows e hE).2⟩⟩

/-- Tables of a book with one table of two balances. -/
def OneTab (w : World) (c : CpD) (p q : Int) (e : Ending) (w' : World) : Prop :=
  ∃ g cap h o k, e = .returned (.slice (some ⟨g, 0, none⟩) 1 cap) ∧ Below w.heap.size w w' ∧ w.heap.size ≤ g ∧ w.heap.size ≤ h ∧ g ≠ h ∧ w'.cell? ⟨g, 33, none⟩ = some (.slice (some ⟨h, o, none⟩) 2 k) ∧ w'.cell? ⟨g, 0, none⟩ = some (.int .u64 c.n) ∧ w'.frozen? ⟨g, 0, none⟩ = false ∧
    w'.cell? ⟨h, o + 1, none⟩ = some (.int .u64 q) ∧ w'.frozen? ⟨h, o + 1, none⟩ = false ∧ g < w'.heap.size ∧ h < w'.heap.size

theorem tabs_one (b mb : Nat) (n lim : Int) (c : CpD) (v : Value) (p q : Int) (w : World) (hB : BookIs w b mb n lim [⟨c, v, [p, q]⟩]) (hn : n ≤ 1024) :
    Calls Try.prog 11 #[.pointer (some ⟨b, 0, none⟩)] w (OneTab w c p q) := by
  refine (tabs_any b mb n lim _ w hB hn (by simp)).mono ?_
  rintro e w' ⟨u, T, rfl, hb, hv, hx, hp, _⟩
  have hT : T.map TbS.c = [c] := by simpa using hp
  obtain ⟨x, rfl, hxc⟩ : ∃ x, T = [x] ∧ x.c = c := by
    cases T with
    | nil => simp at hT
    | cons x r => simp at hT; exact ⟨x, by rw [hT.2], hT.1⟩
  rcases hv with ⟨h0, _⟩ | ⟨g, cap, rfl, hg, hlt, _, hH, hoff⟩
  · cases h0
  obtain ⟨h1, h2, h3⟩ := hx x (by simp)
  rw [hxc, tlst_self] at h1
  obtain ⟨⟨a, m, k, e, hm, _, hr⟩, _⟩ := h1
  have ea : x.a = a ∧ x.n = m ∧ x.k = k := by simpa [TbS.v] using e
  simp at hm
  subst hm
  rcases hr with h0 | ⟨h, o, rfl, hh, hc⟩
  · omega
  have ex : x.v = .slice (some ⟨h, o, none⟩) 2 k := by rw [TbS.v, ea.1, ea.2.1, ea.2.2]
  have c33 := (HoldsK.cell hH (i := 0) (c := 33) (by simp) (by omega)).1
  have c0 := HoldsK.cell hH (i := 0) (c := 0) (by simp) (by omega)
  have e33 : (encT x)[33]! = x.v := by
    have hl := CpD.len x.ok
    rw [getElem!_pos _ 33 (by rw [encT_len]; omega)]
    simp only [encT]
    rw [List.getElem_append_right (by omega)]
    simp [hl]
  have e0 : (encT x)[0]! = .int .u64 c.n := by rw [← hxc]; rfl
  obtain ⟨cur, t, hcur⟩ := h3 _ _ _ ex (by omega)
  refine ⟨g, cap, h, o, k, by simp, hb, hg, h2 _ _ _ ex (by omega), fun e => hoff x (by simp) _ _ _ ex (by omega) e.symm, ?_, ?_, ?_, hc 1 (by omega), by simp only [World.frozen?, hcur]; simp, hlt, hh⟩
  · rw [show (⟨g, 33, none⟩ : Addr) = ⟨g, 0 + 0 * 34 + 33, none⟩ by simp, c33]
    simp [e33, ex]
  · have := c0.1
    rw [show (⟨g, 0, none⟩ : Addr) = ⟨g, 0 + 0 * 34 + 0, none⟩ by simp, this]
    simp [e0]
  · have := c0.2
    simpa using this

theorem tab_one {c : CpD} {a : Option Addr} {m k : Nat} : ∀ v ∈ flatP [c.cells, [.slice a m k]], v.oneCell' = true := flatP_one fun p hp v hv => by
  simp only [List.mem_cons, List.not_mem_nil, or_false] at hp
  rcases hp with rfl | rfl
  · exact CpD.one _ v hv
  · rw [List.mem_singleton.1 hv]; rfl

set_option maxHeartbeats 8000000 in
theorem walk_BalancesCopies (a0 : Int) (w : World) (w0 : (Lit.int .i64 a0).wf = true) :
    Calls Try.prog 6 #[.int .i64 a0] w fun e w' => e = .returned (.bool true) ∧ Below w.heap.size w w' := by
  have HA := Lib.hid awake7_any
  have HN := Lib.hid (newb_ok 2 4 w (by omega) (by omega) (by omega) (by omega))
  have HCK := Lib.hid (fun u => check_some a0 u)
  unfold cpX at HCK
  obtain ⟨Z, hZ⟩ : ∃ Z, flatP [zeC.cells, [nilS]] = Z := ⟨_, rfl⟩
  have hsz : Z.size = 34 := by rw [← hZ]; rfl
  obtain ⟨hz34, hst⟩ := zero_array (P := Try.prog) (t := 29) (n := 34) Z (by rw [← hZ]; kernel_rfl) hsz (by rw [← hZ]; kernel_rfl)
  clear hst hZ w0
  go_enter Try.func6, Try.ntmps6
  go_wp2_with (first
    | (go_at_call 10; refine HN.out.mono ?_; rintro e w1 ⟨rfl, hk1, hb1⟩; have HK1 := Lib.hid hk1; have HB1 := Lib.hid hb1; clear hk1 hb1)
    | (go_at_call 19; refine (HCK.out _).mono ?_; rintro e w2 ⟨⟨c, hc, rfl⟩, hb2⟩; have HK2 := Lib.hid (HK1.out.call hb2); have HB2 := Lib.hid (HB1.out.trans (hb2.mono HB1.out.size)); have HC := Lib.hid hc; have HSZ2 : Hid (w.heap.size + 2 ≤ w2.heap.size) := (have h1 := HK1.out.blk.lt; have h2 := hb2.size; by show _ ≤ _; omega); clear hb2 hc)
    | ((with_reducible refine at_build (some 20) ?_); refine wpList_build rfl 29 _ rfl #[(0, .agg c.cells.toArray), (1, .slice (some ⟨w2.heap.size, 0, none⟩) 2 2)] (by simp [Act.eval, Act.put]) _ (build_tbv HC.out _ _ _ _) ?_)
    | ((with_reducible refine at_store (.tmp 5) ?_); have hY := (tabOff HC.out (.slice (some ⟨w2.heap.size, 0, none⟩) 2 2)).2.2; refine wpList_store_blk rfl 29 (.tmp 5) _ rfl (w2.heap.size + 1) (flatP [c.cells, [.slice (some ⟨w2.heap.size, 0, none⟩) 2 2]]) rfl rfl Z (Blk.new (by simp)) (by rw [hsz, hY]) (by rw [hY]; kernel_rfl) (fun v hv => tab_one v hv) ?_; intro w3 U3 B3; have HB23 := Lib.hid (U3.below (((Below.refl w2.heap.size w2).alloc (Nat.le_refl _) (.cells #[.int .u64 5, .int .u64 6] 22)).alloc (by simp) (.cells Z 29)) (by simp)); have HK3 := Lib.hid (HK2.out.call HB23.out); have HB3 := Lib.hid (HB2.out.trans (HB23.out.mono HB2.out.size)); have HG3 := Lib.hid (U3.blk ((Blk.new (n := w2.heap.size) (w := w2) (cs := #[.int .u64 5, .int .u64 6]) (t := 22) rfl).alloc (.cells Z 29)) (by omega)); have HT3 := Lib.hid B3; have HYS := Lib.hid hY; clear U3 B3 hY)
    | ((with_reducible refine at_load (.tmp 5) ?_); refine wpList_load_blk rfl 29 (.tmp 5) rfl (w2.heap.size + 1) rfl (flatP [c.cells, [.slice (some ⟨w2.heap.size, 0, none⟩) 2 2]]) _ HT3.out Try.underlying29 rfl (by rw [HYS.out]; kernel_rfl) ?_)
    | (go_at_call 17; refine (reg_first _ _ 2 4 c _ [5, 6] _ HK3.out HC.out (nums_two HG3.out (by omega) (by omega)) (by omega) (by omega) rfl (by decide) (by omega)).mono ?_; rintro e w4 ⟨rfl, hg4, v4, hn4, hk4⟩; have HK4 := Lib.hid hk4; have HN4 := Lib.hid hn4; have HT4 := Lib.hid (HT3.out.keptMap HK3.out.map hg4); have HG4 := Lib.hid (HG3.out.keptMap HK3.out.map hg4); have HB4 := Lib.hid (below_mapped HB3.out hg4 (Nat.le_refl _) HB3.out.size); have c40 : w4.cell? ⟨w2.heap.size, 0, none⟩ = some (.int .u64 5) := HG4.out.cell 0; have f40 : w4.frozen? ⟨w2.heap.size, 0, none⟩ = false := HG4.out.free 0; clear hg4 hn4 hk4)
    | ((with_reducible refine at_load (.tmp 25) ?_); refine wpList_load_1 27 (.tmp 25) rfl (w2.heap.size + 1) 33 (.slice (some ⟨w2.heap.size, 0, none⟩) 2 2) (HT4.out.cellAt (k := 1) rfl (tabOff HC.out _).2.1) rfl _ Try.underlying27 rfl rfl ?_)
    | (go_at_call 11; have HS4 : Hid (w2.heap.size + 1 < w4.heap.size) := HT4.out.lt; have HK5 : Hid (BookIs (w4.setCell ⟨w2.heap.size, 0, none⟩ (.int .u64 99)) (w.heap.size + 1) w.heap.size 2 4 [⟨c, v4, [5, 6]⟩]) := HK4.out.turned (setCell_grown _ _ _ _) (by have := HSZ2.out; omega) (by have := HSZ2.out; omega) (fun e he => by rw [List.mem_singleton.1 he]; exact HN4.out.off HG3.out.lt); have HT5 : Hid (Blk (w4.setCell ⟨w2.heap.size, 0, none⟩ (.int .u64 99)) (w2.heap.size + 1) (flatP [c.cells, [.slice (some ⟨w2.heap.size, 0, none⟩) 2 2]])) := HT4.out.setCell_other (by omega); have HB5 : Hid (Below w.heap.size w (w4.setCell ⟨w2.heap.size, 0, none⟩ (.int .u64 99))) := HB4.out.setCell (show w.heap.size ≤ w2.heap.size by have := HSZ2.out; omega) _; have HS5 : Hid ((w4.setCell ⟨w2.heap.size, 0, none⟩ (.int .u64 99)).heap.size = w4.heap.size) := by { show _ = _; simp [World.setCell] }; refine (tabs_one _ _ 2 4 c v4 5 6 _ HK5.out (by omega)).mono ?_; rintro e w6 ⟨gg, gcap, gh, go, gk, rfl, hb6, hg6, hh6, hne, c33, c60, f60, c61, f61, hgl, hhl⟩; have HK6 := Lib.hid (HK5.out.call hb6); have HT6 := Lib.hid (HT5.out.call hb6); have HB6 := Lib.hid (HB5.out.trans (hb6.mono HB5.out.size)); have HOF := Lib.hid (And.intro ((HK5.out.rows ⟨c, v4, [5, 6]⟩ (by simp)).1.1.off hg6) ((HK5.out.rows ⟨c, v4, [5, 6]⟩ (by simp)).1.1.off hh6)); have HGE : Hid (w2.heap.size + 1 < gg ∧ w2.heap.size + 1 < gh) := (have h1 := HS4.out; have h2 := HS5.out; by show _ ∧ _; omega); have hne' : gh ≠ gg := Ne.symm hne; clear hb6 hg6 hh6 hgl hhl)
    | ((with_reducible refine at_load (.tmp 51) ?_); have HT8 : Hid (Blk ((w6.setCell ⟨gh, go + 1, none⟩ (.int .u64 77)).setCell ⟨gg, 0, none⟩ (.int .u64 50)) (w2.heap.size + 1) (flatP [c.cells, [.slice (some ⟨w2.heap.size, 0, none⟩) 2 2]])) := (HT6.out.setCell_other (by have := HGE.out; omega)).setCell_other (by have := HGE.out; omega); have HK8 : Hid (BookIs ((w6.setCell ⟨gh, go + 1, none⟩ (.int .u64 77)).setCell ⟨gg, 0, none⟩ (.int .u64 50)) (w.heap.size + 1) w.heap.size 2 4 [⟨c, v4, [5, 6]⟩]) := (HK6.out.turned (setCell_grown _ gh _ _) (by have := HGE.out; have := HSZ2.out; omega) (by have := HGE.out; have := HSZ2.out; omega) (fun e he => by rw [List.mem_singleton.1 he]; exact HOF.out.2)).turned (setCell_grown _ gg _ _) (by have := HGE.out; have := HSZ2.out; omega) (by have := HGE.out; have := HSZ2.out; omega) (fun e he => by rw [List.mem_singleton.1 he]; exact HOF.out.1); have HB8 : Hid (Below w.heap.size w ((w6.setCell ⟨gh, go + 1, none⟩ (.int .u64 77)).setCell ⟨gg, 0, none⟩ (.int .u64 50))) := (HB6.out.setCell (show w.heap.size ≤ gh by have := HGE.out; have := HSZ2.out; omega) _).setCell (show w.heap.size ≤ gg by have := HGE.out; have := HSZ2.out; omega) _; refine wpList_load_part 26 (.tmp 51) rfl (w2.heap.size + 1) _ 0 0 c.cells HT8.out rfl rfl rfl _ Try.underlying26 rfl (by rw [CpD.len HC.out]; kernel_rfl) rfl ?_)
    | ((with_reducible refine at_load (.tmp 57) ?_); refine wpList_load_part 26 (.tmp 57) rfl (w2.heap.size + 1) _ 0 0 c.cells HT9.out rfl rfl rfl _ Try.underlying26 rfl (by rw [CpD.len HC.out]; kernel_rfl) rfl ?_)
    | ((with_reducible refine at_load (.tmp 64) ?_); refine wpList_load_part 26 (.tmp 64) rfl (w2.heap.size + 1) _ 0 0 c.cells HT10.out rfl rfl rfl _ Try.underlying26 rfl (by rw [CpD.len HC.out]; kernel_rfl) rfl ?_)
    | (go_at_call 20; refine (bal_self _ _ 2 4 [] c v4 [5, 6] 1 6 rfl _ HK9.out HC.out).mono ?_; rintro e w10 ⟨rfl, hb10⟩; have HK10 := Lib.hid (HK9.out.call hb10); have HT10 := Lib.hid (HT9.out.call hb10); have HB10 := Lib.hid (HB9.out.trans (hb10.mono HB9.out.size)); clear hb10)
    | (go_at_call 20; refine (bal_self _ _ 2 4 [] c v4 [5, 6] 0 5 rfl _ HK8.out HC.out).mono ?_; rintro e w9 ⟨rfl, hb9⟩; have HK9 := Lib.hid (HK8.out.call hb9); have HT9 := Lib.hid (HT8.out.call hb9); have HB9 := Lib.hid (HB8.out.trans (hb9.mono HB8.out.size)); clear hb9)
    | (go_at_call 21; refine (total_self _ _ 2 4 [] c v4 [5, 6] 11 rfl _ HK10.out HC.out).mono ?_; rintro e w11 ⟨rfl, hb11⟩; have HB11 := Lib.hid (HB10.out.trans (hb11.mono HB10.out.size)); clear hb11)
    | (go_at_call 7; refine (HA.out _).mono ?_; rintro e w12 ⟨rfl, hb12⟩; have HB12 := Lib.hid (HB11.out.trans (hb12.mono HB11.out.size)); clear hb12))
  go_ret
  exact ⟨rfl, HB12.out⟩

end Go.Proofs.Ytdfemompijhohaa
