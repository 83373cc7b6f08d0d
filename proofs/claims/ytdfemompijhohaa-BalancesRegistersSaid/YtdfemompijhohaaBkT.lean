/- The law's same. -/
import Derived.Test.YtdfemompijhohaaBkS
set_option linter.unusedVariables false
set_option linter.unusedSimpArgs false
namespace Go.Proofs.Ytdfemompijhohaa
open Go.RowKit Go.Maps
set_option maxRecDepth 100000

set_option maxHeartbeats 2000000 in
theorem same_any (b mb : Nat) (N : Nat) (lim : Int) (E : List TeD) (v : Value) (ds : List (CpD × List Int)) (w : World) (hB : BookIs w b mb N lim E) (hV : TabsC w v ds) (hm : Match E ds) (hN : N ≤ 3) (hE : E.length ≤ 4) :
    Calls Try.prog 18 #[.pointer (some ⟨b, 0, none⟩), v, .int .i64 N] w fun e w' => e = .returned (.bool true) ∧ Below w.heap.size w w' := by
  have hnd := ents_nodup hB
  have hdl : ds.length ≤ 4 := by rw [← hm.len]; exact hE
  have HB := Lib.hid hB
  have HV := Lib.hid hV
  have HM := Lib.hid hm
  have HND := Lib.hid hnd
  have HTB := Lib.hid (tabs_any b mb N lim E w hB (by omega) (by omega))
  obtain ⟨a, cap, rfl, _, _⟩ := hV.2
  have HST := Lib.hid (fun (u : World) (x : Value) (h1 : ElV (TabEl 0 False) 34 u x ds) (h2 : TabsV u (.slice a ds.length cap) ds) => stabs_yes x _ ds u h1 h2 (by omega))
  have HCK := Lib.hid (fun k u => check_some k u)
  unfold cpX at HCK
  have HFT := Lib.hid (fun (c : CpD) (hc : c.ok) (u : World) (h : TabsV u (.slice a ds.length cap) ds) => find_any _ ds c u h hc (by omega))
  unfold cpX at HFT
  obtain ⟨ZC, hZC⟩ : ∃ Z, zeC.cells.toArray = Z := ⟨_, rfl⟩
  have hszC : ZC.size = 33 := by rw [← hZC]; rfl
  obtain ⟨hz33, hst⟩ := zero_array (P := Try.prog) (t := 26) (n := 33) ZC (by rw [← hZC]; kernel_rfl) hszC (by rw [← hZC]; kernel_rfl)
  clear hB hV hm hnd hst hZC
  go_enter Try.func18, Try.ntmps18
  go_wp2_with (first
    | (go_at_call 11; refine HTB.out.mono ?_; intro e w1 ht; obtain ⟨v1, rfl, hb1, hel1⟩ := tabsR_elV ht HM.out HND.out (by omega); have HB1 := Lib.hid hb1; have HE1 := Lib.hid hel1; clear ht hb1 hel1)
    | (go_at_call 31; refine (HST.out _ _ HE1.out (HV.out.1.below HB1.out)).mono ?_; rintro e w2 ⟨rfl, hb2⟩; have HB2 := Lib.hid (HB1.out.trans (hb2.mono HB1.out.size)); clear hb2))
  go_loopw [7] (fun i wr => ∃ k : Nat, k ≤ 8 ∧ i = .int .i64 k ∧ Below w.heap.size w wr) (fun i _ => 8 - (intOf i).toNat)
  case atStart => exact ⟨0, Nat.zero_le _, rfl, HB2.out⟩
  case round =>
    obtain ⟨k, hk, rfl, hbel⟩ := hrel
    have HBL := Lib.hid hbel
    clear hbel HB2 HE1 HB1
    by_cases hlt : k < 8
    case neg =>
      obtain rfl : k = 8 := by omega
      go_wp2_with fail
      go_ret
      exact ⟨rfl, HBL.out⟩
    have hlt' : (k : Int) < 8 := by omega
    go_wp2_with (first
      | (go_at_call 19; refine (HCK.out _ _).mono ?_; rintro e w3 ⟨⟨c, hc, rfl⟩, hb3⟩; have HC := Lib.hid hc; have HB3 := Lib.hid (HBL.out.trans (hb3.mono HBL.out.size)); have hl33 := CpD.len hc; clear hc hb3)
      | ((with_reducible refine at_store (.tmp 8) ?_); refine wpList_store_blk rfl 26 (.tmp 8) _ rfl w3.heap.size c.cells.toArray rfl rfl ZC (Blk.new rfl) (by rw [hszC, List.size_toArray, hl33]) (by rw [List.size_toArray, hl33]; kernel_rfl) (fun v hv => CpD.one _ v (by simpa using hv)) ?_; intro w4 U4 B4; have HT4 := Lib.hid B4; have HB4 := Lib.hid (U4.below (HB3.out.alloc HB3.out.size (.cells ZC 26)) HB3.out.size); clear U4 B4)
      | ((with_reducible refine at_load (.tmp 8) ?_); refine wpList_load_blk rfl 26 (.tmp 8) rfl w3.heap.size rfl c.cells.toArray _ HT5.out Try.underlying26 rfl (by rw [List.size_toArray, hl33]; kernel_rfl) ?_)
      | ((with_reducible refine at_load (.tmp 8) ?_); refine wpList_load_blk rfl 26 (.tmp 8) rfl w3.heap.size rfl c.cells.toArray _ HT4.out Try.underlying26 rfl (by rw [List.size_toArray, hl33]; kernel_rfl) ?_)
      | (go_at_call 29; refine (HFT.out c HC.out _ (HV.out.1.below HB4.out)).mono ?_; rintro e w5 ⟨⟨fi, rfl, hfi⟩, hb5⟩; have HFI := Lib.hid hfi; have HB5 := Lib.hid (HB4.out.trans (hb5.mono HB4.out.size)); have HT5 := Lib.hid (HT4.out.call hb5); have HKN : Hid ((tget E c).isSome = decide (0 ≤ fi)) := known_find HM.out hfi; clear hfi hb5)
      | (go_at_call 12; have hkn := known_any b mb N lim E c w5 (HB.out.call HB5.out) HC.out; rw [HKN.out] at hkn; unfold cpX at hkn; refine hkn.mono ?_; rintro e w6 ⟨rfl, hb6⟩; have HB6 := Lib.hid (HB5.out.trans (hb6.mono HB5.out.size)); have HT6 := Lib.hid (HT5.out.call hb6); clear hb6 hkn))
    have HBQ := Lib.hid (HB.out.call HB6.out)
    have HLR : Hid (∀ x ∈ tlst E c, 0 ≤ x) := fun x hx => ((HB.out.at c).2 x hx).1
    have HLS := Lib.hid (tlst_sum HB.out c)
    have HTO := Lib.hid (fun u (hu : BookIs u b mb N lim E) => total_any b mb N lim E c u hu HC.out)
    have HBA := Lib.hid (fun (x : Int) u (hu : BookIs u b mb N lim E) => bal_any b mb N lim E c x u hu HC.out)
    unfold cpX at HTO HBA
    by_cases hpos : 0 ≤ fi
    · have hdec : decide (0 ≤ fi) = true := decide_eq_true hpos
      simp only [hdec]
      clear hdec
      obtain ⟨ki, hki, hfk, hkc⟩ : ∃ (ki : Nat) (hki : ki < ds.length), fi = ki ∧ ds[ki].1 = c := by
        rcases HFI.out with ⟨h, _⟩ | ⟨ki, hki, e1, e2⟩
        · omega
        · exact ⟨ki, hki, e1, e2⟩
      have HLQ : Hid (ds[ki].2 = tlst E c) := by show _ = _; rw [← hkc]; exact (HM.out.lst HND.out (List.getElem_mem hki)).symm
      have HLN : Hid ((tlst E c).length = N) := by
        show _ = _
        obtain ⟨e, he, hee⟩ := List.mem_map.1 (HM.out.perm.mem_iff.2 (List.getElem_mem hki))
        have h1 := (HB.out.rows e he).2.1
        have h2 : tlst E c = e.l := by rw [← hkc, ← hee]; exact tlst_mem HND.out he
        rw [h2]; omega
      subst hfk
      clear HKN HT4 HT5 HB4 HB5 HB3 HFI
      go_loopw [10, 11] (fun s v wr => ∃ x : Int, -1 ≤ x ∧ x ≤ N + 1 ∧ v = .int .i64 x ∧ s = .int .u64 (sumTo (tlst E c) x) ∧ Below w.heap.size w wr ∧ Blk wr w3.heap.size c.cells.toArray) (fun _ v _ => N + 2 - (intOf v + 1).toNat)
      case atStart => exact ⟨-1, by omega, by omega, rfl, rfl, HB6.out, HT6.out⟩
      case round =>
        obtain ⟨x, hx1, hx2, rfl, rfl, hbel, hblk⟩ := hrel
        have HBI := Lib.hid hbel
        have HTI := Lib.hid hblk
        clear hbel hblk
        have hbd := sumTo_bd HLR.out x
        have hbd2 := sumTo_bd HLR.out (x + 1)
        have HST2 := Lib.hid (sumTo_bal (E := E) (c := c) hx1)
        have hls := HLS.out
        have hyr : Hid (0 ≤ balV E c x) := by
          show 0 ≤ _
          unfold balV
          split
          · omega
          · by_cases hj : x.toNat < (tlst E c).length
            · have e : (tlst E c).getD x.toNat 0 = (tlst E c)[x.toNat] := by simp [List.getD, List.getElem?_eq_getElem hj]
              rw [e]; exact HLR.out _ (List.getElem_mem hj)
            · simp [List.getD, List.getElem?_eq_none (Nat.le_of_not_lt hj)]
        have HBX := Lib.hid (HBA.out x _ (HB.out.call HBI.out))
        have HY1 : Hid (x < 0 → balV E c x = 0) := fun h => balV_neg h
        have HY2 : Hid (∀ j : Nat, x = j → balV E c x = (tlst E c).getD j 0) := fun j h => by rw [h]; exact balV_nat j
        obtain ⟨y, hy⟩ : ∃ y, balV E c x = y := ⟨_, rfl⟩
        rw [hy] at HST2 hyr HBX HY1 HY2
        obtain ⟨s, hs⟩ : ∃ s, Hid (sumTo (tlst E c) x = s) := ⟨_, Lib.hid rfl⟩
        rw [hs.out] at hbd HST2 ⊢
        rw [HST2.out] at hbd2
        have hy0 := hyr.out
        obtain ⟨hs0, hs1⟩ := hbd
        obtain ⟨_, hsy⟩ := hbd2
        have hwr : IntKind.u64.wrap (s + y) = s + y := wrap_u64 (by omega) (by omega)
        have hyy : (y != y) = false := by simp
        clear hy
        by_cases hxe : x ≤ N
        case neg =>
          have hxn : x = N + 1 := by omega
          have HTS : Hid ((tlst E c).sum = s) := by
            show _ = _
            rw [← hs.out, hxn]
            unfold sumTo
            rw [List.take_of_length_le (by have := HLN.out; omega)]
          have HTT := Lib.hid (HTO.out _ (HB.out.call HBI.out))
          rw [HTS.out] at HTT
          have hss : (s != s) = false := by simp
          subst hxn
          clear HY1 HY2 HBX HST2 hwr hsy hs1 hs0 hy0 hyr hls
          go_wp2_with (first
            | ((with_reducible refine at_load (.tmp 8) ?_); refine wpList_load_blk rfl 26 (.tmp 8) rfl w3.heap.size rfl c.cells.toArray _ HTI.out Try.underlying26 rfl (by rw [List.size_toArray, hl33]; kernel_rfl) ?_)
            | (go_at_call 21; refine HTT.out.mono ?_; rintro e w7 ⟨rfl, hb7⟩; have HB7 := Lib.hid (HBI.out.trans (hb7.mono HBI.out.size)); clear hb7))
          go_roundw
          case rel => exact ⟨k + 1, by omega, by go_num, HB7.out⟩
          case measure => simp [intOf]; omega
        case pos =>
          clear hs1 hsy hls HLS
          by_cases hneg : x < 0
          · have hyz := Lib.hid (HY1.out hneg)
            obtain rfl : x = -1 := by omega
            rw [hyz.out] at HBX hwr
            clear HY1 HY2 hyy hyr hy0
            have hs00 : s + 0 = s := Int.add_zero s
            rw [hs00] at hwr
            go_wp2_with (first
              | ((with_reducible refine at_load (.tmp 8) ?_); refine wpList_load_blk rfl 26 (.tmp 8) rfl w3.heap.size rfl c.cells.toArray _ HTI.out Try.underlying26 rfl (by rw [List.size_toArray, hl33]; kernel_rfl) ?_)
              | (go_at_call 20; refine HBX.out.mono ?_; rintro e w7 ⟨rfl, hb7⟩; have HB7 := Lib.hid (HBI.out.trans (hb7.mono HBI.out.size)); have HT7 := Lib.hid (HTI.out.call hb7); clear hb7))
            go_roundw
            case rel => exact ⟨0, by omega, by omega, rfl, by rw [show sumTo (tlst E c) 0 = s + y from HST2.out, hyz.out, Int.add_zero], HB7.out, HT7.out⟩
            case measure => first | (simp [intOf]; done) | (simp [intOf]; omega)
          obtain ⟨j, rfl⟩ : ∃ j : Nat, x = j := ⟨x.toNat, by omega⟩
          by_cases hjN : j < N
          · have HYJ := Lib.hid (HY2.out j rfl)
            obtain ⟨g, off, sx, sn, sy, ea, _, hgl, hrr, hok, hnv⟩ := (HV.out.1.below HBI.out).elem hki
            subst ea
            rw [HLQ.out] at hnv
            have c33 := elem_v hok hrr
            obtain ⟨⟨sa, sn', sy', e, hsn, _, hrow⟩, _⟩ := hnv
            cases e
            rcases hrow with h0 | ⟨h, ho, rfl, hh, hcell⟩
            · have := HLN.out; omega
            have cj : wr.cell? ⟨h, ho + j, none⟩ = some (.int .u64 y) := by rw [HYJ.out]; exact hcell j (by have := HLN.out; omega)
            have HC33 := Lib.hid c33
            have hj' : (j : Int) < N := by omega
            have hnN : sn = N := by have := HLN.out; omega
            subst hnN
            clear hcell hrr hgl hok c33 HY1 HY2
            go_wp2_with (first
              | ((with_reducible refine at_load (.tmp 52) ?_); refine wpList_load_1 27 (.tmp 52) rfl g (off + ki * 34 + 33) (.slice (some ⟨h, ho, none⟩) _ sy) HC33.out rfl _ Try.underlying27 rfl rfl ?_)
              | ((with_reducible refine at_load (.tmp 8) ?_); refine wpList_load_blk rfl 26 (.tmp 8) rfl w3.heap.size rfl c.cells.toArray _ HTI.out Try.underlying26 rfl (by rw [List.size_toArray, hl33]; kernel_rfl) ?_)
              | (go_at_call 20; refine HBX.out.mono ?_; rintro e w7 ⟨rfl, hb7⟩; have HB7 := Lib.hid (HBI.out.trans (hb7.mono HBI.out.size)); have HT7 := Lib.hid (HTI.out.call hb7); clear hb7))
            go_roundw
            case rel => exact ⟨(j : Int) + 1, by omega, by omega, rfl, by rw [HST2.out], HB7.out, HT7.out⟩
            case measure => first | (simp [intOf]; done) | (simp [intOf]; omega)
          · have hyz : Hid (y = 0) := by
              show y = 0
              rw [HY2.out j rfl]
              simp [List.getD, List.getElem?_eq_none (show (tlst E c).length ≤ j by have := HLN.out; omega)]
            have hj' : ¬ (j : Int) < N := by omega
            rw [hyz.out] at HBX hwr
            clear HY1 HY2 hyy hyr hy0
            rw [Int.add_zero] at hwr
            go_wp2_with (first
              | ((with_reducible refine at_load (.tmp 8) ?_); refine wpList_load_blk rfl 26 (.tmp 8) rfl w3.heap.size rfl c.cells.toArray _ HTI.out Try.underlying26 rfl (by rw [List.size_toArray, hl33]; kernel_rfl) ?_)
              | (go_at_call 20; refine HBX.out.mono ?_; rintro e w7 ⟨rfl, hb7⟩; have HB7 := Lib.hid (HBI.out.trans (hb7.mono HBI.out.size)); have HT7 := Lib.hid (HTI.out.call hb7); clear hb7))
            go_roundw
            case rel => exact ⟨(j : Int) + 1, by omega, by omega, rfl, by rw [HST2.out, hyz.out, Int.add_zero], HB7.out, HT7.out⟩
            case measure => first | (simp [intOf]; done) | (simp [intOf]; omega)
    · have hdec : decide (0 ≤ fi) = false := decide_eq_false hpos
      simp only [hdec]
      clear hdec
      have HLQ : Hid (tlst E c = []) := by
        show _ = _
        have := HKN.out
        rw [decide_eq_false hpos] at this
        unfold tlst
        cases ht : tget E c with
        | none => rfl
        | some e => rw [ht] at this; cases this
      have HLN : Hid ((tlst E c).length ≤ N) := by show _ ≤ _; rw [HLQ.out]; exact Nat.zero_le _
      clear HKN HT4 HT5 HB4 HB5 HB3 HFI
      go_loopw [10, 11] (fun s v wr => ∃ x : Int, -1 ≤ x ∧ x ≤ N + 1 ∧ v = .int .i64 x ∧ s = .int .u64 (sumTo (tlst E c) x) ∧ Below w.heap.size w wr ∧ Blk wr w3.heap.size c.cells.toArray) (fun _ v _ => N + 2 - (intOf v + 1).toNat)
      case atStart => exact ⟨-1, by omega, by omega, rfl, rfl, HB6.out, HT6.out⟩
      case round =>
        obtain ⟨x, hx1, hx2, rfl, rfl, hbel, hblk⟩ := hrel
        have HBI := Lib.hid hbel
        have HTI := Lib.hid hblk
        clear hbel hblk
        have hbd := sumTo_bd HLR.out x
        have hbd2 := sumTo_bd HLR.out (x + 1)
        have HST2 := Lib.hid (sumTo_bal (E := E) (c := c) hx1)
        have hls := HLS.out
        have hyr : Hid (0 ≤ balV E c x) := by
          show 0 ≤ _
          unfold balV
          split
          · omega
          · by_cases hj : x.toNat < (tlst E c).length
            · have e : (tlst E c).getD x.toNat 0 = (tlst E c)[x.toNat] := by simp [List.getD, List.getElem?_eq_getElem hj]
              rw [e]; exact HLR.out _ (List.getElem_mem hj)
            · simp [List.getD, List.getElem?_eq_none (Nat.le_of_not_lt hj)]
        have HBX := Lib.hid (HBA.out x _ (HB.out.call HBI.out))
        have HY1 : Hid (x < 0 → balV E c x = 0) := fun h => balV_neg h
        have HY2 : Hid (∀ j : Nat, x = j → balV E c x = (tlst E c).getD j 0) := fun j h => by rw [h]; exact balV_nat j
        obtain ⟨y, hy⟩ : ∃ y, balV E c x = y := ⟨_, rfl⟩
        rw [hy] at HST2 hyr HBX HY1 HY2
        obtain ⟨s, hs⟩ : ∃ s, Hid (sumTo (tlst E c) x = s) := ⟨_, Lib.hid rfl⟩
        rw [hs.out] at hbd HST2 ⊢
        rw [HST2.out] at hbd2
        have hy0 := hyr.out
        obtain ⟨hs0, hs1⟩ := hbd
        obtain ⟨_, hsy⟩ := hbd2
        have hwr : IntKind.u64.wrap (s + y) = s + y := wrap_u64 (by omega) (by omega)
        have hyy : (y != y) = false := by simp
        clear hy
        by_cases hxe : x ≤ N
        case neg =>
          have hxn : x = N + 1 := by omega
          have HTS : Hid ((tlst E c).sum = s) := by
            show _ = _
            rw [← hs.out, hxn]
            unfold sumTo
            rw [List.take_of_length_le (by have := HLN.out; omega)]
          have HTT := Lib.hid (HTO.out _ (HB.out.call HBI.out))
          rw [HTS.out] at HTT
          have hss : (s != s) = false := by simp
          subst hxn
          clear HY1 HY2 HBX HST2 hwr hsy hs1 hs0 hy0 hyr hls
          go_wp2_with (first
            | ((with_reducible refine at_load (.tmp 8) ?_); refine wpList_load_blk rfl 26 (.tmp 8) rfl w3.heap.size rfl c.cells.toArray _ HTI.out Try.underlying26 rfl (by rw [List.size_toArray, hl33]; kernel_rfl) ?_)
            | (go_at_call 21; refine HTT.out.mono ?_; rintro e w7 ⟨rfl, hb7⟩; have HB7 := Lib.hid (HBI.out.trans (hb7.mono HBI.out.size)); clear hb7))
          go_roundw
          case rel => exact ⟨k + 1, by omega, by go_num, HB7.out⟩
          case measure => simp [intOf]; omega
        case pos =>
          clear hs1 hsy hls HLS
          by_cases hneg : x < 0
          · have hyz := Lib.hid (HY1.out hneg)
            obtain rfl : x = -1 := by omega
            rw [hyz.out] at HBX hwr
            clear HY1 HY2 hyy hyr hy0
            have hs00 : s + 0 = s := Int.add_zero s
            rw [hs00] at hwr
            go_wp2_with (first
              | ((with_reducible refine at_load (.tmp 8) ?_); refine wpList_load_blk rfl 26 (.tmp 8) rfl w3.heap.size rfl c.cells.toArray _ HTI.out Try.underlying26 rfl (by rw [List.size_toArray, hl33]; kernel_rfl) ?_)
              | (go_at_call 20; refine HBX.out.mono ?_; rintro e w7 ⟨rfl, hb7⟩; have HB7 := Lib.hid (HBI.out.trans (hb7.mono HBI.out.size)); have HT7 := Lib.hid (HTI.out.call hb7); clear hb7))
            go_roundw
            case rel => exact ⟨0, by omega, by omega, rfl, by rw [show sumTo (tlst E c) 0 = s + y from HST2.out, hyz.out, Int.add_zero], HB7.out, HT7.out⟩
            case measure => first | (simp [intOf]; done) | (simp [intOf]; omega)
          obtain ⟨j, rfl⟩ : ∃ j : Nat, x = j := ⟨x.toNat, by omega⟩
          have hyz : Hid (y = 0) := by
            show y = 0
            rw [HY2.out j rfl, HLQ.out]; rfl
          rw [hyz.out] at HBX hwr
          clear HY1 HY2 hyy hyr hy0
          rw [Int.add_zero] at hwr
          go_wp2_with (first
            | ((with_reducible refine at_load (.tmp 8) ?_); refine wpList_load_blk rfl 26 (.tmp 8) rfl w3.heap.size rfl c.cells.toArray _ HTI.out Try.underlying26 rfl (by rw [List.size_toArray, hl33]; kernel_rfl) ?_)
            | (go_at_call 20; refine HBX.out.mono ?_; rintro e w7 ⟨rfl, hb7⟩; have HB7 := Lib.hid (HBI.out.trans (hb7.mono HBI.out.size)); have HT7 := Lib.hid (HTI.out.call hb7); clear hb7))
          go_roundw
          case rel => exact ⟨(j : Int) + 1, by omega, by omega, rfl, by rw [HST2.out, hyz.out, Int.add_zero], HB7.out, HT7.out⟩
          case measure => first | (simp [intOf]; done) | (simp [intOf]; omega)

end Go.Proofs.Ytdfemompijhohaa
