/- The reference's FindTable, CompareCheckpoints, SameTables. -/
import Derived.Test.YtdfemompijhohaaBkI
set_option linter.unusedVariables false
set_option linter.unusedSimpArgs false
namespace Go.Proofs.Ytdfemompijhohaa
open Go.RowKit Go.Maps
set_option maxRecDepth 100000

/-- A slice of tables. -/
abbrev TabsV (w : World) (v : Value) (ds : List (CpD × List Int)) : Prop := ElV (TabEl 0 False) 34 w v ds
theorem TabsV.below {w w' : World} {v : Value} {ds : List (CpD × List Int)} (h : TabsV w v ds) (hb : Below w.heap.size w w') : TabsV w' v ds := ElV.below (tabOK _ _) h hb
theorem tabsV_nil (w : World) : TabsV w nilS [] := ⟨none, 0, rfl, Nat.zero_le _, .inl rfl⟩

/-- One table of a slice of tables. -/
theorem TabsV.elem {w : World} {a : Option Addr} {m cap : Nat} {ds : List (CpD × List Int)} (h : TabsV w (.slice a m cap) ds) {k : Nat} (hk : k < ds.length) :
    ∃ b off x n y, a = some ⟨b, off, none⟩ ∧ m = ds.length ∧ b < w.heap.size ∧ w.rangeAt b (off + k * 34) (flatP [ds[k].1.cells, [.slice x n y]]).toList ∧ ds[k].1.ok ∧ NumsV w (.slice x n y) ds[k].2 := by
  obtain ⟨b, off, X, ha, hm, hlt, hr, ⟨hc, x, n, y, rfl, hv, _⟩, _⟩ := h.at (tabOK 0 False) hk
  exact ⟨b, off, x, n, y, ha, hm, hlt, hr, hc, hv⟩
theorem elem_cp {w : World} {b o : Nat} {c : CpD} {v : Value} (h : w.rangeAt b o (flatP [c.cells, [v]]).toList) : w.rangeAt b o c.cells := fun j u hj => by
  refine h j u ?_
  have hl : j < c.cells.length := (List.getElem?_eq_some_iff.1 hj).1
  simp only [flatP, List.flatten_cons, List.flatten_nil, List.append_nil]
  rw [List.getElem?_append_left hl]; exact hj
theorem elem_ep {w : World} {b o : Nat} {c : CpD} {v : Value} (h : w.rangeAt b o (flatP [c.cells, [v]]).toList) : w.cell? ⟨b, o, none⟩ = some (.int .u64 c.n) := elem_cp h 0 _ rfl
theorem elem_v {w : World} {b o : Nat} {c : CpD} {v : Value} (hc : c.ok) (h : w.rangeAt b o (flatP [c.cells, [v]]).toList) : w.cell? ⟨b, o + 33, none⟩ = some v := by
  refine h 33 v ?_
  have hl := CpD.len hc
  simp only [flatP, List.flatten_cons, List.flatten_nil, List.append_nil]
  rw [List.getElem?_append_right (by omega)]
  simp [hl]

def FindR (ds : List (CpD × List Int)) (c : CpD) (i : Int) : Prop := (i = -1 ∧ ∀ d ∈ ds, d.1 ≠ c) ∨ ∃ (k : Nat) (hk : k < ds.length), i = k ∧ ds[k].1 = c

set_option maxHeartbeats 8000000 in
theorem find_any (v : Value) (ds : List (CpD × List Int)) (c : CpD) (w : World) (h : TabsV w v ds) (hc : c.ok) (hm : ds.length ≤ 1000000) :
    Calls Try.prog 29 #[v, cpX c] w fun e w' => (∃ i, e = .returned (.int .i64 i) ∧ FindR ds c i) ∧ Below w.heap.size w w' := by
  obtain ⟨a, cap, rfl, _⟩ := h.shape
  have HV := Lib.hid h
  have HC := Lib.hid hc
  have hi := infoCp hc
  have hl33 := CpD.len hc
  unfold cpX
  obtain ⟨X, hX⟩ : ∃ X, Hid (c.cells.toArray = X) := ⟨_, rfl⟩
  rw [hX.out] at hi ⊢
  have HBX : Hid (Blk (w.alloc (.cells X 26)) w.heap.size X) := Blk.new rfl
  have HBA := Lib.hid ((Below.refl w.heap.size w).alloc (Nat.le_refl _) (.cells X 26))
  clear h hc
  go_enter Try.func29, Try.ntmps29
  go_wp2_with fail
  go_loopw [5] (fun i wr => ∃ k : Nat, k ≤ ds.length ∧ i = .int .i64 k ∧ Below w.heap.size w wr ∧ Blk wr w.heap.size X ∧ ∀ j (hj : j < ds.length), j < k → ds[j].1 ≠ c) (fun i _ => ds.length - (intOf i).toNat)
  case atStart => exact ⟨0, Nat.zero_le _, rfl, HBA.out, HBX.out, fun j _ hj => absurd hj (by omega)⟩
  case round =>
    obtain ⟨k, hk, rfl, hbel, hblk, hall⟩ := hrel
    have HBL := Lib.hid hbel
    have HBK := Lib.hid hblk
    have HAL := Lib.hid hall
    clear hbel hblk hall
    by_cases hlt : k < ds.length
    · obtain ⟨b, off, x, n, y, rfl, _, hbl, hr, hck, _⟩ := (HV.out.below HBL.out).elem hlt
      have HR := Lib.hid (elem_cp hr)
      have HBLT := Lib.hid hbl
      obtain ⟨q, E2, hq⟩ := eq_cp2 hck HC.out
      have hq' : q = true ↔ ds[k].1 = c := by rw [hq]; exact ⟨CpD.inj, fun e => by rw [e]⟩
      have HQ := Lib.hid hq'
      rw [hX.out] at E2
      have hi2 : (Try.prog.info? 26).map (·.size) = some (ds[k].1.cells).length := by rw [CpD.len hck]; kernel_rfl
      obtain ⟨Y, hY⟩ : ∃ Y, Hid (ds[k].1.cells = Y) := ⟨_, Lib.hid rfl⟩
      rw [hY.out] at HR E2 hi2
      clear hq hq' hr hbl hck
      go_wp2_with fail
      refine wp_region_fam2 (by kernel_rfl) (by kernel_rfl) ?_
      intro T F hT hF hG
      have C1 : ∀ u, (∃ t, u = F t) → u.rangeAt b (off + k * 34) Y := by rintro _ ⟨t, rfl⟩; exact Below.rng (hF t) HBLT.out HR.out
      have C2 : ∀ u, (∃ t, u = F t) → Blk u w.heap.size X := by rintro _ ⟨t, rfl⟩; exact HBK.out.call (hF t)
      have C1' := Lib.hid C1
      have C2' := Lib.hid C2
      clear C1 C2
      repeat (first
        | ((with_reducible refine at_qload (.tmp 15) ?_); refine wpQuiet_load_midE 26 _ rfl b (off + k * 34) rfl Y C1'.out Try.underlying26 rfl hi2 (by kernel_rfl) ?_; simp only [Act.put, List.setIfInBounds_toArray, List.set_cons_succ, List.set_cons_zero])
        | ((with_reducible refine at_qload (.tmp 3) ?_); refine wpQuiet_load 26 _ rfl w.heap.size rfl X C2'.out Try.underlying26 rfl hi (by kernel_rfl) ?_; simp only [Act.put, List.setIfInBounds_toArray, List.set_cons_succ, List.set_cons_zero])
        | (go_big_quiet_step (fail)))
      refine wpQuiet_nil ?_
      rintro _ ⟨t, rfl⟩
      have HF := Lib.hid (HBL.out.trans ((hF t).mono HBL.out.size))
      have HFB := Lib.hid (HBK.out.call (hF t))
      clear C1' C2' hF hG
      cases q
      · go_wp2_with fail
        go_roundw
        case rel => exact ⟨k + 1, by omega, by go_num, HF.out, HFB.out, fun j hj hjk => by
          by_cases e : j = k
          · subst e; exact fun e2 => by have := HQ.out.2 e2; cases this
          · exact HAL.out j hj (by omega)⟩
        case measure => simp [intOf]; omega
      · go_wp2_with fail
        go_ret
        exact ⟨⟨_, rfl, .inr ⟨k, hlt, rfl, HQ.out.1 (by simp)⟩⟩, HF.out⟩
    · go_wp2_with fail
      go_ret
      refine ⟨⟨_, rfl, .inl ⟨rfl, fun d hd => ?_⟩⟩, HBL.out⟩
      obtain ⟨j, hj, rfl⟩ := List.mem_iff_getElem.1 hd
      exact HAL.out j hj (by omega)

end Go.Proofs.Ytdfemompijhohaa
