/- EquivocationEvidence. -/
import Derived.Test.YtlbhkgmlfapjgaaEqF
import Derived.Test.YtlbhkgmlfapjgaaEqB
import Derived.Test.YtlbhkgmlfapjgaaL9r
set_option linter.unusedVariables false

set_option linter.unusedSimpArgs false
namespace Go.Proofs.Ytlbhkgmlfapjgaa
open Go.RowKit

set_option maxRecDepth 100000

theorem cul_code_ints (x y : ClD) (l m : List Int) (w : World) (hx : x.ok) (hy : y.ok) (h1 : IntsV w x.v l) (h2 : IntsV w y.v m) (hl : l.length ≤ 100000) (hm : m.length ≤ 100000) :
    Calls Try.prog 14 #[.agg (flatP [x.cells, y.cells])] w fun e w' => ∃ a n c, e = .returned (.slice a n c) ∧ IntsV w' (.slice a n c) (culI l m) ∧ Below w.heap.size w w' := by
  refine (cul_code x y l m w hx hy h1 h2 hl hm).mono ?_
  rintro e w' ⟨v', rfl, ho, hb⟩
  obtain ⟨a, c, rfl⟩ := ho.shapeL
  have hlen : (culI l m).length ≤ l.length := by
    have h3 := culK_len l m l.length
    rw [culK_all] at h3
    exact h3
  exact ⟨a, _, c, rfl, ⟨ho.ints (by unfold maxLen; omega), fun z hz => h1.2 z (culI_mem.1 hz).1⟩, hb⟩

theorem cul_ref_ints (x y : ClD) (l m : List Int) (w : World) (hx : x.ok) (hy : y.ok) (h1 : IntsV w x.v l) (h2 : IntsV w y.v m) (hl : l.length ≤ 100000) :
    Calls Try.prog 15 #[.agg (flatP [x.cells, y.cells])] w fun e w' => ∃ a n c, e = .returned (.slice a n c) ∧ IntsV w' (.slice a n c) (culI l m) ∧ Below w.heap.size w w' := by
  refine (culprits_any x y l m w hx hy h1 h2 hl).mono ?_
  rintro e w' ⟨v', rfl, hi, _, _, hb⟩
  obtain ⟨a, n, c, rfl⟩ := ints_shape' hi.1
  exact ⟨a, n, c, rfl, hi, hb⟩

set_option maxHeartbeats 16000000 in
theorem walk_EquivocationEvidence (x y : ClD) (l m : List Int) (n : Int) (w : World) (hx : x.ok) (hy : y.ok) (h1 : IntsV w x.v l) (h2 : IntsV w y.v m) (w1 : (Lit.int .i64 n).wf = true) :
    Calls Try.prog 4 #[.agg (flatP [x.cells, y.cells]), .int .i64 n] w fun e w' => e = .returned (.bool true) ∧ Below w.heap.size w w' := by
  have hn := wf_i64 w1
  have HA := Lib.hid awake9_any
  have hsz := fmt_sl hx hy
  obtain ⟨XL, hXL⟩ : ∃ XL, [x.cells, y.cells].flatten = XL := ⟨_, rfl⟩
  have hX : flatP [x.cells, y.cells] = XL.toArray := by rw [← hXL]; rfl
  have HP : Hid (∀ u, Blk u w.heap.size XL.toArray → u.cell? ⟨w.heap.size, 34, none⟩ = some x.v ∧ u.cell? ⟨w.heap.size, 69, none⟩ = some y.v) := fun u hu => by
    rw [← hX] at hu
    obtain ⟨h1, h2⟩ := sl_at hu hx
    have e1 := (cl_at h1 hx).2.2.2
    have e2 := (cl_at h2 hy).2.2.2
    rw [Nat.zero_add] at e1
    exact ⟨e1, e2⟩
  have HL1 := Lib.hid h1.1
  have HL2 := Lib.hid h2.1
  have HEV := Lib.hid (fun hl hm u (hu : Below w.heap.size w u) => val_any x y l m n u hx hy (h1.below hu) (h2.below hu) hl hm hn)
  have HRV := Lib.hid (fun hl u (hu : Below w.heap.size w u) => vslash_any x y l m n u hx hy (h1.below hu) (h2.below hu) hl hn)
  have HEC := Lib.hid (fun hl hm u (hu : Below w.heap.size w u) => cul_code_ints x y l m u hx hy (h1.below hu) (h2.below hu) hl hm)
  have HRC := Lib.hid (fun hl u (hu : Below w.heap.size w u) => cul_ref_ints x y l m u hx hy (h1.below hu) (h2.below hu) hl)
  rw [hX] at hsz HEV HRV HEC HRC ⊢
  have hiX : (Try.prog.info? 31).map (·.size) = some XL.length := by rw [List.size_toArray] at hsz; rw [hsz]; kernel_rfl
  obtain ⟨E, hE⟩ : ∃ E, vsE x y l m n = E := ⟨_, rfl⟩
  rw [hE] at HEV HRV
  obtain ⟨C, hC⟩ : ∃ C, culI l m = C := ⟨_, rfl⟩
  rw [hC] at HEC HRC
  obtain ⟨v1, h⟩ : ∃ z, x.v = z := ⟨_, rfl⟩; rw [h] at HP HL1; clear h
  obtain ⟨v2, h⟩ : ∃ z, y.v = z := ⟨_, rfl⟩; rw [h] at HP HL2; clear h
  have HBA := Lib.hid ((Below.refl w.heap.size w).alloc (Nat.le_refl _) (.cells XL.toArray 31))
  have HK0 : Hid (Blk (w.alloc (.cells XL.toArray 31)) w.heap.size XL.toArray) := Blk.new rfl
  have P0 := Lib.hid (HP.out _ HK0.out)
  obtain ⟨a1, n1, c1, e1, hl1, _⟩ := HL1.out
  obtain ⟨a2, n2, c2, e2, hl2, _⟩ := HL2.out
  subst e1 e2
  clear hx hy h1 h2 w1 hX hXL hE hC hsz HL1 HL2
  by_cases hb1 : 100 < n1
  · have hb1' : (100 : Int) < n1 := by omega
    clear hl1 hl2
    go_enter Try.func4, Try.ntmps4
    go_wp2_with (first
      | ((with_reducible refine at_load (.tmp 6) ?_); refine wpList_load_1 25 (.tmp 6) rfl w.heap.size 34 (.slice a1 n1 c1) P0.out.1 rfl _ Try.underlying25 rfl rfl ?_)
      | (go_at_call 10; refine (HA.out _).mono ?_; rintro e w2 ⟨rfl, hb2⟩; have HB2 := Lib.hid (HBA.out.trans (hb2.mono HBA.out.size)); clear hb2))
    go_ret
    exact ⟨rfl, HB2.out⟩
  have hb1' : ¬ (100 : Int) < n1 := by omega
  by_cases hb2 : 100 < n2
  · have hb2' : (100 : Int) < n2 := by omega
    clear hl1 hl2
    go_enter Try.func4, Try.ntmps4
    go_wp2_with (first
      | ((with_reducible refine at_load (.tmp 6) ?_); refine wpList_load_1 25 (.tmp 6) rfl w.heap.size 34 (.slice a1 n1 c1) P0.out.1 rfl _ Try.underlying25 rfl rfl ?_)
      | ((with_reducible refine at_load (.tmp 12) ?_); refine wpList_load_1 25 (.tmp 12) rfl w.heap.size 69 (.slice a2 n2 c2) P0.out.2 rfl _ Try.underlying25 rfl rfl ?_)
      | (go_at_call 10; refine (HA.out _).mono ?_; rintro e w2 ⟨rfl, hb2⟩; have HB2 := Lib.hid (HBA.out.trans (hb2.mono HBA.out.size)); clear hb2))
    go_ret
    exact ⟨rfl, HB2.out⟩
  have hb2' : ¬ (100 : Int) < n2 := by omega
  have HEV := Lib.hid (HEV.out (by omega) (by omega))
  have HRV := Lib.hid (HRV.out (by omega))
  have HEC := Lib.hid (HEC.out (by omega) (by omega))
  have HRC := Lib.hid (HRC.out (by omega))
  clear hl1 hl2
  go_enter Try.func4, Try.ntmps4
  go_wp2_with (first
    | ((with_reducible refine at_load (.tmp 6) ?_); refine wpList_load_1 25 (.tmp 6) rfl w.heap.size 34 (.slice a1 n1 c1) P0.out.1 rfl _ Try.underlying25 rfl rfl ?_)
    | ((with_reducible refine at_load (.tmp 12) ?_); refine wpList_load_1 25 (.tmp 12) rfl w.heap.size 69 (.slice a2 n2 c2) P0.out.2 rfl _ Try.underlying25 rfl rfl ?_))
  have HB := Lib.hid (Below.drewN (n := 1) HBA.out)
  have HK : Hid (Blk (w.alloc (.cells XL.toArray 31)).drew w.heap.size XL.toArray) := HK0.out.drewN (n := 1)
  have s0 := HK.out.rng
  -- REGION
  clear P0 HP HK0 HBA s0
  refine wp_region_held_drew (S := fun u => Blk u w.heap.size XL.toArray) (by kernel_rfl) (HK.out) (fun _ => ?_)
  (try simp only [Act.put, List.setIfInBounds_toArray, List.set_cons_zero, List.set_cons_succ])
  refine held_load (oi := ⟨some 18, _, _, _, _, _⟩) 0 rfl (by kernel_rfl) (by kernel_rfl) (by kernel_rfl) (fun _ _ _ _ h => h) rfl 31 (.tmp 2) rfl w.heap.size 0 rfl XL _ (fun u' hu => hu.rng) Try.underlying31 rfl hiX HK.out ?_
  (try simp only [Act.put, List.setIfInBounds_toArray, List.set_cons_zero, List.set_cons_succ])
  refine wpAnyH_take (i := 1) (oi := ⟨some 19, _, _, _, _, _⟩) (v := .int .i64 n) rfl (by kernel_rfl) (by kernel_rfl) (by kernel_rfl) (fun _ _ _ h => h) (Or.inl ⟨by rfl, fun wz hz => ?_⟩) HK.out ?_
  · clear hz; go_simp; first | done | with_reducible rfl | rfl
  (try simp only [Act.put, List.setIfInBounds_toArray, List.set_cons_zero, List.set_cons_succ])
  refine held_load (oi := ⟨some 21, _, _, _, _, _⟩) 3 rfl (by kernel_rfl) (by kernel_rfl) (by kernel_rfl) (fun _ _ _ _ h => h) rfl 31 (.tmp 2) rfl w.heap.size 0 rfl XL _ (fun u' hu => hu.rng) Try.underlying31 rfl hiX HK.out ?_
  (try simp only [Act.put, List.setIfInBounds_toArray, List.set_cons_zero, List.set_cons_succ])
  refine wpAnyH_take (i := 4) (oi := ⟨some 22, _, _, _, _, _⟩) (v := .int .i64 n) rfl (by kernel_rfl) (by kernel_rfl) (by kernel_rfl) (fun _ _ _ h => h) (Or.inl ⟨by rfl, fun wz hz => ?_⟩) HK.out ?_
  · clear hz; go_simp; first | done | with_reducible rfl | rfl
  (try simp only [Act.put, List.setIfInBounds_toArray, List.set_cons_zero, List.set_cons_succ])
  refine wpAnyH_ready (rs := [2]) (by kernel_rfl) (by simp) ?_
  refine AllReadyH.cons rfl (fun K hK => ?_) AllReadyH.nil
  (try rw [if_pos (by rfl)])
  go_simp
  refine (HEV.out _ HB.out).mono ?_
  rintro e w1 ⟨rfl, hb1⟩
  have HK := Lib.hid (HK.out.call hb1)
  have HB := Lib.hid (HB.out.trans (hb1.mono HB.out.size))
  clear hb1
  refine hK.out _ _ HK.out (fun _ => ?_)
  clear hK K
  (try simp only [Act.put, List.setIfInBounds_toArray, List.set_cons_zero, List.set_cons_succ])
  refine wpAnyH_ready (rs := [5]) (by kernel_rfl) (by simp) ?_
  refine AllReadyH.cons rfl (fun K hK => ?_) AllReadyH.nil
  (try rw [if_pos (by rfl)])
  go_simp
  refine (HRV.out _ HB.out).mono ?_
  rintro e w1 ⟨rfl, hb1⟩
  have HK := Lib.hid (HK.out.call hb1)
  have HB := Lib.hid (HB.out.trans (hb1.mono HB.out.size))
  clear hb1
  refine hK.out _ _ HK.out (fun _ => ?_)
  clear hK K
  (try simp only [Act.put, List.setIfInBounds_toArray, List.set_cons_zero, List.set_cons_succ])
  refine wpAnyH_take (i := 6) (oi := ⟨some 24, _, _, _, _, _⟩) (v := .bool true) rfl (by kernel_rfl) (by kernel_rfl) (by kernel_rfl) (fun _ _ _ h => h) (Or.inl ⟨by rfl, fun wz hz => ?_⟩) HK.out ?_
  · clear hz; go_simp; first | done | with_reducible rfl | rfl
  (try simp only [Act.put, List.setIfInBounds_toArray, List.set_cons_zero, List.set_cons_succ])
  refine wpAnyH_take (i := 7) (oi := ⟨some 25, _, _, _, _, _⟩) (v := .bool true) rfl (by kernel_rfl) (by kernel_rfl) (by kernel_rfl) (fun _ _ _ h => h) (Or.inl ⟨by rfl, fun wz hz => ?_⟩) HK.out ?_
  · clear hz; go_simp; first | done | with_reducible rfl | rfl
  (try simp only [Act.put, List.setIfInBounds_toArray, List.set_cons_zero, List.set_cons_succ])
  refine held_load (oi := ⟨some 26, _, _, _, _, _⟩) 8 rfl (by kernel_rfl) (by kernel_rfl) (by kernel_rfl) (fun _ _ _ _ h => h) rfl 31 (.tmp 2) rfl w.heap.size 0 rfl XL _ (fun u' hu => hu.rng) Try.underlying31 rfl hiX HK.out ?_
  (try simp only [Act.put, List.setIfInBounds_toArray, List.set_cons_zero, List.set_cons_succ])
  refine held_load (oi := ⟨some 28, _, _, _, _, _⟩) 10 rfl (by kernel_rfl) (by kernel_rfl) (by kernel_rfl) (fun _ _ _ _ h => h) rfl 31 (.tmp 2) rfl w.heap.size 0 rfl XL _ (fun u' hu => hu.rng) Try.underlying31 rfl hiX HK.out ?_
  (try simp only [Act.put, List.setIfInBounds_toArray, List.set_cons_zero, List.set_cons_succ])
  refine wpAnyH_ready (rs := [9]) (by kernel_rfl) (by simp) ?_
  refine AllReadyH.cons rfl (fun K hK => ?_) AllReadyH.nil
  (try rw [if_pos (by rfl)])
  go_simp
  refine (HEC.out _ HB.out).mono ?_
  rintro e w1 ⟨ea, en, ec, rfl, hi1, hb1⟩
  have HI := Lib.hid hi1; clear hi1
  have HK := Lib.hid (HK.out.call hb1)
  have HB := Lib.hid (HB.out.trans (hb1.mono HB.out.size))
  clear hb1
  refine hK.out _ _ HK.out (fun _ => ?_)
  clear hK K
  (try simp only [Act.put, List.setIfInBounds_toArray, List.set_cons_zero, List.set_cons_succ])
  refine wpAnyH_ready (rs := [11]) (by kernel_rfl) (by simp) ?_
  refine AllReadyH.cons rfl (fun K hK => ?_) AllReadyH.nil
  (try rw [if_pos (by rfl)])
  go_simp
  refine (HRC.out _ HB.out).mono ?_
  rintro e w1 ⟨ra, rn, rc, rfl, hi1, hb1⟩
  have HJ := Lib.hid hi1; clear hi1
  have HI := Lib.hid (HI.out.below hb1)
  have HK := Lib.hid (HK.out.call hb1)
  have HB := Lib.hid (HB.out.trans (hb1.mono HB.out.size))
  clear hb1
  refine hK.out _ _ HK.out (fun _ => ?_)
  clear hK K
  (try simp only [Act.put, List.setIfInBounds_toArray, List.set_cons_zero, List.set_cons_succ])
  refine wpAnyH_ready (rs := [12]) (by kernel_rfl) (by simp) ?_
  refine AllReadyH.cons rfl (fun K hK => ?_) AllReadyH.nil
  (try rw [if_pos (by rfl)])
  go_simp
  refine (same_yes _ _ C _ HI.out HJ.out).mono ?_
  rintro e w1 ⟨rfl, hb1⟩
  have HK := Lib.hid (HK.out.call hb1)
  have HB := Lib.hid (HB.out.trans (hb1.mono HB.out.size))
  clear hb1
  refine hK.out _ _ HK.out (fun _ => ?_)
  clear hK K
  (try simp only [Act.put, List.setIfInBounds_toArray, List.set_cons_zero, List.set_cons_succ])
  refine wpAnyH_take (i := 13) (oi := ⟨some 31, _, _, _, _, _⟩) (v := .bool true) rfl (by kernel_rfl) (by kernel_rfl) (by kernel_rfl) (fun _ _ _ h => h) (Or.inl ⟨by rfl, fun wz hz => ?_⟩) HK.out ?_
  · clear hz; go_simp; first | done | with_reducible rfl | rfl
  (try simp only [Act.put, List.setIfInBounds_toArray, List.set_cons_zero, List.set_cons_succ])
  refine wpAnyH_take (i := 14) (oi := ⟨some 32, _, _, _, _, _⟩) (v := .bool true) rfl (by kernel_rfl) (by kernel_rfl) (by kernel_rfl) (fun _ _ _ h => h) (Or.inl ⟨by rfl, fun wz hz => ?_⟩) HK.out ?_
  · clear hz; go_simp; first | done | with_reducible rfl | rfl
  (try simp only [Act.put, List.setIfInBounds_toArray, List.set_cons_zero, List.set_cons_succ])
  refine wpAnyH_ready (rs := [15]) (by kernel_rfl) (by simp) ?_
  refine AllReadyH.cons rfl (fun K hK => ?_) AllReadyH.nil
  (try rw [if_pos (by rfl)])
  go_simp
  refine (HA.out _).mono ?_
  rintro e w1 ⟨rfl, hb1⟩
  have HK := Lib.hid (HK.out.call hb1)
  have HB := Lib.hid (HB.out.trans (hb1.mono HB.out.size))
  clear hb1
  refine hK.out _ _ HK.out (fun _ => ?_)
  clear hK K
  (try simp only [Act.put, List.setIfInBounds_toArray, List.set_cons_zero, List.set_cons_succ])
  refine wpAnyH_take (i := 16) (oi := ⟨some 34, _, _, _, _, _⟩) (v := .bool true) rfl (by kernel_rfl) (by kernel_rfl) (by kernel_rfl) (fun _ _ _ h => h) (Or.inl ⟨by rfl, fun wz hz => ?_⟩) HK.out ?_
  · clear hz; go_simp; first | done | with_reducible rfl | rfl
  (try simp only [Act.put, List.setIfInBounds_toArray, List.set_cons_zero, List.set_cons_succ])
  refine wpAnyH_take (i := 17) (oi := ⟨some 4, _, _, _, _, _⟩) (v := .bool true) rfl (by kernel_rfl) (by kernel_rfl) (by kernel_rfl) (fun _ _ _ h => h) (Or.inl ⟨by rfl, fun wz hz => ?_⟩) HK.out ?_
  · clear hz; go_simp; first | done | with_reducible rfl | rfl
  (try simp only [Act.put, List.setIfInBounds_toArray, List.set_cons_zero, List.set_cons_succ])
  refine wpAnyH_done (by kernel_rfl) ?_ _
  go_wp2_with fail
  go_ret
  exact ⟨rfl, HB.out⟩
end Go.Proofs.Ytlbhkgmlfapjgaa
