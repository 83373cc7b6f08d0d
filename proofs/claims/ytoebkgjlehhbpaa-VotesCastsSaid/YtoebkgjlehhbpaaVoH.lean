/- SameVotes; the law's supported. -/
import Derived.Test.YtoebkgjlehhbpaaVoF
import Derived.Test.YtoebkgjlehhbpaaL8c
set_option linter.unusedVariables false

set_option linter.unusedSimpArgs false
namespace Go.Proofs.Ytoebkgjlehhbpaa
open Go.RowKit

set_option maxRecDepth 100000

theorem eq_vsame {v : VoD} (h : v.ok) (w : World) : Sem.run Try.prog (Op.equalIn 10000 33 (.agg v.cells.toArray) (.agg v.cells.toArray)) w = .ok true w := by
  obtain ⟨r, h1, h2⟩ := eq_vo h h
  rw [h1 w, h2.2 rfl]

set_option maxHeartbeats 4000000 in
theorem svotes_yes (v1 v2 : Value) (vs : List VoD) (w : World) (h1 : VotesV w v1 vs) (h2 : VotesV w v2 vs) (hm : vs.length ≤ 1000000) :
    Calls Try.prog 17 #[v1, v2] w fun e w' => e = .returned (.bool true) ∧ Below w.heap.size w w' := by
  obtain ⟨a1, c1, rfl, _⟩ := h1.shape
  obtain ⟨a2, c2, rfl, _⟩ := h2.shape
  have H1 := Lib.hid h1
  have H2 := Lib.hid h2
  obtain ⟨m, hml⟩ : ∃ m, vs.length = m := ⟨_, rfl⟩
  rw [hml] at hm H1 H2 ⊢
  have HM := Lib.hid hml
  have hne : ((m : Int) != (m : Int)) = false := by simp
  clear h1 h2 hml
  go_enter Try.func17, Try.ntmps17
  go_wp2_with fail
  go_loopw [5] (fun i wr => ∃ k : Nat, k ≤ m ∧ i = .int .i64 k ∧ Below w.heap.size w wr) (fun i _ => m - (intOf i).toNat)
  case atStart => exact ⟨0, Nat.zero_le _, rfl, Below.refl _ _⟩
  case round =>
    obtain ⟨k, hk, rfl, hbl⟩ := hrel
    have HBL := Lib.hid hbl
    clear hbl
    by_cases hlt : k < m
    case neg =>
      obtain rfl : k = m := by omega
      go_wp2_with fail
      go_ret
      exact ⟨rfl, HBL.out⟩
    have hlt' : (k : Int) < m := by omega
    obtain ⟨b1, o1, rfl, _, hl1, hr1, hok⟩ := (H1.out.call HBL.out).elem (i := k) (by rw [HM.out]; exact hlt)
    obtain ⟨b2, o2, rfl, _, hl2, hr2, _⟩ := (H2.out.call HBL.out).elem (i := k) (by rw [HM.out]; exact hlt)
    have EQ := fun u => eq_vsame hok u
    have hiL := infoVo hok
    obtain ⟨L, hL⟩ : ∃ L, (vs.getD k zeV).cells = L := ⟨_, rfl⟩
    rw [hL] at hr1 hr2 EQ hiL
    have HR1 := Lib.hid hr1
    have HR2 := Lib.hid hr2
    clear hr1 hr2 hok hL
    go_wp2_with fail
    refine wp_region_fam2 (by kernel_rfl) (by kernel_rfl) ?_
    intro T F hT hF hG
    have C1 := Lib.hid (show ∀ u, (∃ t, u = F t) → u.rangeAt b1 (o1 + k * 34) L by rintro _ ⟨t, rfl⟩; exact Below.rng (hF t) hl1 HR1.out)
    have C2 := Lib.hid (show ∀ u, (∃ t, u = F t) → u.rangeAt b2 (o2 + k * 34) L by rintro _ ⟨t, rfl⟩; exact Below.rng (hF t) hl2 HR2.out)
    repeat (first
      | ((with_reducible refine at_qload (.tmp 19) ?_); refine wpQuiet_load_midE 33 _ rfl b1 (o1 + k * 34) (by simp [Act.eval]) L C1.out Try.underlying33 rfl hiL (by kernel_rfl) ?_; simp only [Act.put, List.setIfInBounds_toArray, List.set_cons_succ, List.set_cons_zero])
      | ((with_reducible refine at_qload (.tmp 23) ?_); refine wpQuiet_load_midE 33 _ rfl b2 (o2 + k * 34) (by simp [Act.eval]) L C2.out Try.underlying33 rfl hiL (by kernel_rfl) ?_; simp only [Act.put, List.setIfInBounds_toArray, List.set_cons_succ, List.set_cons_zero])
      | (go_big_quiet_step (fail)))
    refine wpQuiet_nil ?_
    rintro _ ⟨t, rfl⟩
    have HF := Lib.hid (HBL.out.trans ((hF t).mono HBL.out.size))
    clear C1 C2 hG
    go_wp2_with fail
    go_roundw
    case rel => exact ⟨k + 1, by omega, by go_num, HF.out⟩
    case measure => simp [intOf]; omega

def SupI (w : World) (vs : List VoD) (r : List Int) (X : Array Value) (m : Nat) (v i : Value) (wr : World) : Prop :=
  ∃ k : Nat, k ≤ m ∧ i = .int .i64 k ∧ OwnK .i64 3 wr (w.heap.size + 1) v (suppK vs r k) ∧ Blk wr w.heap.size X ∧ Below w.heap.size w wr

theorem supp_own (b g : Nat) (vs : List VoD) (r : List Int) (w : World) (hV : VtI w b g vs) (hr : IsBytes 32 r) :
    Calls Try.prog 11 #[.pointer (some ⟨b, 0, none⟩), .agg (bytesL r).toArray] w fun e w' => ∃ v', e = .returned v' ∧ IntsV w' v' (suppK vs r vs.length) ∧ Below w.heap.size w w' := by
  refine (supp_any b g vs r w hV hr).mono ?_
  rintro e w' ⟨v', rfl, h1, h2⟩
  have hlen := suppK_len vs r vs.length
  have := hV.len
  exact ⟨v', rfl, ⟨h1.ints (by unfold maxLen; omega), fun x hx => by have := suppK_rng vs r vs.length x hx; omega⟩, h2⟩

set_option maxHeartbeats 8000000 in
theorem supported_yes (b g : Nat) (vs : List VoD) (vv : Value) (r : List Int) (w : World) (hV : VtI w b g vs) (hW : VotesV w vv vs) (hr : IsBytes 32 r) :
    Calls Try.prog 18 #[.pointer (some ⟨b, 0, none⟩), vv, .agg (bytesL r).toArray] w fun e w' => e = .returned (.bool true) ∧ Below w.heap.size w w' := by
  obtain ⟨va, vc, rfl, _⟩ := hW.shape
  have HV := Lib.hid hV
  have HWl := Lib.hid hW
  have HR := Lib.hid hr
  have HII := Lib.hid info_int
  have hl := hV.len
  have HS := Lib.hid (fun u hu => supp_own b g vs r u hu hr)
  obtain ⟨X, hX⟩ : ∃ X, Hid ((bytesL r).toArray = X) := ⟨_, rfl⟩
  rw [hX.out] at HS ⊢
  have hsX : X.size = 32 := by rw [← hX.out, List.size_toArray, bytesL_len hr]
  have hiX : (Try.prog.info? 31).map (·.size) = some X.size := by rw [hsX]; kernel_rfl
  have HBA := Lib.hid ((Below.refl w.heap.size w).alloc (Nat.le_refl _) (.cells X 31))
  have HBX : Hid (Blk (w.alloc (.cells X 31)) w.heap.size X) := Blk.new rfl
  obtain ⟨m, hm⟩ : ∃ m, vs.length = m := ⟨_, rfl⟩
  rw [hm] at hl HS ⊢
  have HW : Hid (VotesV w (.slice va m vc) vs) := by show VotesV w (.slice va m vc) vs; rw [← hm]; exact HWl.out
  have HM := Lib.hid hm
  clear hV hW hr hm HWl
  go_enter Try.func18, Try.ntmps18
  go_wp2_with fail
  go_loopw [7, 8] (fun v i wr => SupI w vs r X m v i wr) (fun _ i _ => m - (intOf i).toNat)
  case atStart => exact ⟨0, Nat.zero_le _, rfl, OwnK.nil _ _ _ _, HBX.out, HBA.out⟩
  case round =>
    obtain ⟨k, hk, rfl, hown, hbx, hbl⟩ := hrel
    have HOW := Lib.hid hown
    have HBXr := Lib.hid hbx
    have HBL := Lib.hid hbl
    have HXL := Lib.hid (suppK_len vs r k)
    clear hown hbx hbl
    by_cases hlt : k < m
    case neg =>
      obtain rfl : k = m := by omega
      go_wp2_with (first
        | ((with_reducible refine at_load (.tmp 5) ?_); refine wpList_load_g 31 (.tmp 5) rfl w.heap.size rfl X _ HBXr.out Try.underlying31 rfl hiX rfl ?_)
        | (go_at_call 19; refine (sints_yes _ _ (suppK vs r k) _ HI2.out ⟨(HOW.out.call hb2').ints (by have := HXL.out; unfold maxLen; omega), fun x hx => by have := suppK_rng vs r k x hx; omega⟩).mono ?_; rintro e w3 ⟨rfl, hb3⟩; have HB3 := Lib.hid (HB2.out.trans (hb3.mono HB2.out.size)); clear hb3)
        | (go_at_call 11; refine (HS.out _ (HV.out.call HBL.out)).mono ?_; rintro e w2 ⟨v2, rfl, hi2, hb2⟩; have HI2 := Lib.hid hi2; have hb2' := hb2; have HB2 := Lib.hid (HBL.out.trans (hb2.mono HBL.out.size)); clear hi2 hb2))
      go_ret
      exact ⟨rfl, HB3.out⟩
    have hlt' : (k : Int) < m := by omega
    have hkv : k < vs.length := by rw [HM.out]; exact hlt
    obtain ⟨wb, wo, rfl, hlv, hwl0, hrw, hok⟩ := HW.out.elem (i := k) hkv
    have hwl : wb < wr.heap.size := Nat.lt_of_lt_of_le hwl0 HBL.out.size
    have HRr := Lib.hid (Below.rng HBL.out hwl0 hrw)
    have HRW := Lib.hid hrw
    have HVT := Lib.hid (fun u hu => vote_at b g vs k (vs.getD k zeV) u rfl hu (by omega))
    have HY := Lib.hid (suppK_yes (vs := vs) (r := r) (k := k))
    have HN := Lib.hid (suppK_no (vs := vs) (r := r) (k := k))
    obtain ⟨d, hd⟩ : ∃ d, vs.getD k zeV = d := ⟨_, rfl⟩
    rw [hd] at hok HRr HRW HY HN HVT
    have EQ := fun u => eq_vsame hok u
    have hiL := infoVo hok
    have HEQ := Lib.hid (fun u => eq_rootL hok.2.2 HR.out u)
    rw [hX.out] at HEQ
    obtain ⟨q, hq⟩ : ∃ q, decide (d.r = r) = q := ⟨_, rfl⟩
    rw [hq] at HEQ
    have hiY : (Try.prog.info? 31).map (·.size) = some (bytesL d.r).length := by rw [bytesL_len hok.2.2]; kernel_rfl
    have HC0 : Hid (wr.cell? ⟨wb, wo + k * 34, none⟩ = some (.bool d.has)) := HRr.out 0 _ rfl
    have HC2 : Hid (wr.rangeAt wb (wo + k * 34 + 2) (bytesL d.r)) := fun j x hj => by
      have := HRr.out (j + 2) x hj
      rw [show wo + k * 34 + 2 + j = wo + k * 34 + (j + 2) by omega]; exact this
    obtain ⟨L, hL⟩ : ∃ L, d.cells = L := ⟨_, rfl⟩
    obtain ⟨Y, hY⟩ : ∃ Y, bytesL d.r = Y := ⟨_, rfl⟩
    rw [hL] at HRr HRW EQ hiL HVT
    rw [hY] at HEQ hiY HC2
    obtain ⟨hs, hhs⟩ : ∃ h, d.has = h := ⟨_, rfl⟩
    rw [hhs] at HC0 HY HN
    have HQ := Lib.hid hq
    have heq := HEQ.out
    clear hd hok hkv hhs hY hq hL hrw hlv
    cases hs
    case false =>
      go_wp2_with fail
      refine wp_region_fam2 (by kernel_rfl) (by kernel_rfl) ?_
      intro T F hT hF hG
      have c0 : ∀ t, (F t).cell? ⟨wb, wo + k * 34, none⟩ = some (.bool false) := fun t => ((hF t).cell (p := ⟨wb, wo + k * 34, none⟩) hwl).trans HC0.out
      repeat (first
        | (go_big_quiet_step (fail)))
      refine wpQuiet_nil ?_
      rintro _ ⟨t, rfl⟩
      have hft := hF t
      obtain ⟨yw1, hyw1⟩ : ∃ u, F t = u := ⟨_, rfl⟩
      rw [hyw1] at hft ⊢
      have HB1 := Lib.hid (HBL.out.trans (hft.mono HBL.out.size)); have HOW1 := Lib.hid (HOW.out.call hft); have HBX1 := Lib.hid (HBXr.out.call hft)
      clear c0 hG hyw1 hft hF hT
      clear t F T
      go_wp2_with fail
      have HV7 := Lib.hid (HV.out.call HB1.out)
      have HW7 := Lib.hid (HW.out.call HB1.out)
      refine wp_region_fam2 (by kernel_rfl) (by kernel_rfl) ?_
      intro T F hT hF hG
      have CL := Lib.hid (show ∀ u, (∃ t, u = F t) → u.rangeAt wb (wo + k * 34) L by rintro _ ⟨t, rfl⟩; exact Below.rng (hF t) (Nat.lt_of_lt_of_le hwl0 HB1.out.size) (Below.rng HB1.out hwl0 HRW.out))
      have CV := Lib.hid (fun t => HVT.out (F t) (HV7.out.call (hF t)))
      repeat (first
        | ((with_reducible refine at_qload (.tmp 38) ?_); refine wpQuiet_load_midE 33 _ rfl wb (wo + k * 34) (by simp [Act.eval]) L CL.out Try.underlying33 rfl hiL (by kernel_rfl) ?_; simp only [Act.put, List.setIfInBounds_toArray, List.set_cons_succ, List.set_cons_zero])
        | (go_big_quiet_step ((go_at_call 10; exact fam_call hF hG (Nat.le_refl _) (CV.out _)))))
      refine wpQuiet_nil ?_
      rintro _ ⟨t, rfl⟩
      have hft := hF t
      obtain ⟨yw9, hyw9⟩ : ∃ u, F t = u := ⟨_, rfl⟩
      rw [hyw9] at hft ⊢
      have HB9 := Lib.hid (HB1.out.trans (hft.mono HB1.out.size)); have HOW9 := Lib.hid (HOW1.out.call hft); have HBX9 := Lib.hid (HBX1.out.call hft)
      clear CL CV hG hyw9 hft hF hT
      clear t F T
      go_wp2_with fail
      go_roundw
      case rel => exact ⟨k + 1, by omega, by go_num, by rw [HN.out (fun h => by cases h.1)]; exact HOW9.out, HBX9.out, HB9.out⟩
      case measure => simp [intOf]; omega
    case true =>
      cases q
      case false =>
        go_wp2_with fail
        refine wp_region_fam2 (by kernel_rfl) (by kernel_rfl) ?_
        intro T F hT hF hG
        have c0 : ∀ t, (F t).cell? ⟨wb, wo + k * 34, none⟩ = some (.bool true) := fun t => ((hF t).cell (p := ⟨wb, wo + k * 34, none⟩) hwl).trans HC0.out
        have CR := Lib.hid (show ∀ u, (∃ t, u = F t) → u.rangeAt wb (wo + k * 34 + 2) Y by rintro _ ⟨t, rfl⟩; exact Below.rng (hF t) hwl HC2.out)
        have CX := Lib.hid (show ∀ u, (∃ t, u = F t) → Blk u w.heap.size X by rintro _ ⟨t, rfl⟩; exact HBXr.out.call (hF t))
        repeat (first
          | ((with_reducible refine at_qload (.tmp 24) ?_); refine wpQuiet_load_midE 31 _ rfl wb (wo + k * 34 + 2) (by simp [Act.eval]) Y CR.out Try.underlying31 rfl hiY (by kernel_rfl) ?_; simp only [Act.put, List.setIfInBounds_toArray, List.set_cons_succ, List.set_cons_zero])
          | ((with_reducible refine at_qload (.tmp 5) ?_); refine wpQuiet_load 31 _ rfl w.heap.size rfl X CX.out Try.underlying31 rfl hiX (by kernel_rfl) ?_; simp only [Act.put, List.setIfInBounds_toArray, List.set_cons_succ, List.set_cons_zero])
          | (go_big_quiet_step (fail)))
        refine wpQuiet_nil ?_
        rintro _ ⟨t, rfl⟩
        have hft := hF t
        obtain ⟨yw1, hyw1⟩ : ∃ u, F t = u := ⟨_, rfl⟩
        rw [hyw1] at hft ⊢
        have HB1 := Lib.hid (HBL.out.trans (hft.mono HBL.out.size)); have HOW1 := Lib.hid (HOW.out.call hft); have HBX1 := Lib.hid (HBXr.out.call hft)
        clear c0 CR CX hG hyw1 hft hF hT
        clear t F T
        go_wp2_with fail
        have HV7 := Lib.hid (HV.out.call HB1.out)
        have HW7 := Lib.hid (HW.out.call HB1.out)
        refine wp_region_fam2 (by kernel_rfl) (by kernel_rfl) ?_
        intro T F hT hF hG
        have CL := Lib.hid (show ∀ u, (∃ t, u = F t) → u.rangeAt wb (wo + k * 34) L by rintro _ ⟨t, rfl⟩; exact Below.rng (hF t) (Nat.lt_of_lt_of_le hwl0 HB1.out.size) (Below.rng HB1.out hwl0 HRW.out))
        have CV := Lib.hid (fun t => HVT.out (F t) (HV7.out.call (hF t)))
        repeat (first
          | ((with_reducible refine at_qload (.tmp 38) ?_); refine wpQuiet_load_midE 33 _ rfl wb (wo + k * 34) (by simp [Act.eval]) L CL.out Try.underlying33 rfl hiL (by kernel_rfl) ?_; simp only [Act.put, List.setIfInBounds_toArray, List.set_cons_succ, List.set_cons_zero])
          | (go_big_quiet_step ((go_at_call 10; exact fam_call hF hG (Nat.le_refl _) (CV.out _)))))
        refine wpQuiet_nil ?_
        rintro _ ⟨t, rfl⟩
        have hft := hF t
        obtain ⟨yw9, hyw9⟩ : ∃ u, F t = u := ⟨_, rfl⟩
        rw [hyw9] at hft ⊢
        have HB9 := Lib.hid (HB1.out.trans (hft.mono HB1.out.size)); have HOW9 := Lib.hid (HOW1.out.call hft); have HBX9 := Lib.hid (HBX1.out.call hft)
        clear CL CV hG hyw9 hft hF hT
        clear t F T
        go_wp2_with fail
        go_roundw
        case rel => exact ⟨k + 1, by omega, by go_num, by rw [HN.out (fun h => of_decide_eq_false HQ.out h.2)]; exact HOW9.out, HBX9.out, HB9.out⟩
        case measure => simp [intOf]; omega
      case true =>
        go_wp2_with fail
        refine wp_region_fam2 (by kernel_rfl) (by kernel_rfl) ?_
        intro T F hT hF hG
        have c0 : ∀ t, (F t).cell? ⟨wb, wo + k * 34, none⟩ = some (.bool true) := fun t => ((hF t).cell (p := ⟨wb, wo + k * 34, none⟩) hwl).trans HC0.out
        have CR := Lib.hid (show ∀ u, (∃ t, u = F t) → u.rangeAt wb (wo + k * 34 + 2) Y by rintro _ ⟨t, rfl⟩; exact Below.rng (hF t) hwl HC2.out)
        have CX := Lib.hid (show ∀ u, (∃ t, u = F t) → Blk u w.heap.size X by rintro _ ⟨t, rfl⟩; exact HBXr.out.call (hF t))
        repeat (first
          | ((with_reducible refine at_qload (.tmp 24) ?_); refine wpQuiet_load_midE 31 _ rfl wb (wo + k * 34 + 2) (by simp [Act.eval]) Y CR.out Try.underlying31 rfl hiY (by kernel_rfl) ?_; simp only [Act.put, List.setIfInBounds_toArray, List.set_cons_succ, List.set_cons_zero])
          | ((with_reducible refine at_qload (.tmp 5) ?_); refine wpQuiet_load 31 _ rfl w.heap.size rfl X CX.out Try.underlying31 rfl hiX (by kernel_rfl) ?_; simp only [Act.put, List.setIfInBounds_toArray, List.set_cons_succ, List.set_cons_zero])
          | (go_big_quiet_step (fail)))
        refine wpQuiet_nil ?_
        rintro _ ⟨t, rfl⟩
        have hft := hF t
        obtain ⟨yw1, hyw1⟩ : ∃ u, F t = u := ⟨_, rfl⟩
        rw [hyw1] at hft ⊢
        have HB1 := Lib.hid (HBL.out.trans (hft.mono HBL.out.size)); have HOW1 := Lib.hid (HOW.out.call hft); have HBX1 := Lib.hid (HBXr.out.call hft)
        clear c0 CR CX hG hyw1 hft hF hT
        clear t F T
        go_wp2_with ((with_reducible refine at_app (.tmp 29) (.tmp 31) ?_); refine wpList_app1 HII.out (by omega) Try.underlying35 (.tmp 29) (.tmp 31) rfl rfl (w.heap.size + 1) _ _ rfl (HOW1.out.grown (World.grownBy_alloc _ (.cells #[.int .i64 (k : Int)] 3) none) (fun n _ => by simp)) yw1.heap.size 1 (k : Int) rfl ((Blk.new rfl).cell 0) (by have := HXL.out; omega) (by have := HBX1.out.lt; simp; omega) ?_; intro v3 w3 h3 g3 o3; have HOW3 := Lib.hid h3; have HBX3 := Lib.hid ((HBX1.out.alloc (.cells #[.int .i64 (k : Int)] 3)).grown g3 (fun e => by have := HOW1.out.lt _ e.symm; omega)); have HB3 := Lib.hid ((HB1.out.alloc HB1.out.size (.cells #[.int .i64 (k : Int)] 3)).grown g3 (by have := HB1.out.size; simp; omega) (fun n e => by have := HOW1.out.lt n e; omega)); clear h3 g3 o3)
        go_wp2_with fail
        have HV7 := Lib.hid (HV.out.call HB3.out)
        have HW7 := Lib.hid (HW.out.call HB3.out)
        refine wp_region_fam2 (by kernel_rfl) (by kernel_rfl) ?_
        intro T F hT hF hG
        have CL := Lib.hid (show ∀ u, (∃ t, u = F t) → u.rangeAt wb (wo + k * 34) L by rintro _ ⟨t, rfl⟩; exact Below.rng (hF t) (Nat.lt_of_lt_of_le hwl0 HB3.out.size) (Below.rng HB3.out hwl0 HRW.out))
        have CV := Lib.hid (fun t => HVT.out (F t) (HV7.out.call (hF t)))
        repeat (first
          | ((with_reducible refine at_qload (.tmp 38) ?_); refine wpQuiet_load_midE 33 _ rfl wb (wo + k * 34) (by simp [Act.eval]) L CL.out Try.underlying33 rfl hiL (by kernel_rfl) ?_; simp only [Act.put, List.setIfInBounds_toArray, List.set_cons_succ, List.set_cons_zero])
          | (go_big_quiet_step ((go_at_call 10; exact fam_call hF hG (Nat.le_refl _) (CV.out _)))))
        refine wpQuiet_nil ?_
        rintro _ ⟨t, rfl⟩
        have hft := hF t
        obtain ⟨yw9, hyw9⟩ : ∃ u, F t = u := ⟨_, rfl⟩
        rw [hyw9] at hft ⊢
        have HB9 := Lib.hid (HB3.out.trans (hft.mono HB3.out.size)); have HOW9 := Lib.hid (HOW3.out.call hft); have HBX9 := Lib.hid (HBX3.out.call hft)
        clear CL CV hG hyw9 hft hF hT
        clear t F T
        go_wp2_with fail
        go_roundw
        case rel => exact ⟨k + 1, by omega, by go_num, by rw [HY.out (by trivial) (of_decide_eq_true HQ.out)]; exact HOW9.out, HBX9.out, HB9.out⟩
        case measure => simp [intOf]; omega
end Go.Proofs.Ytoebkgjlehhbpaa
