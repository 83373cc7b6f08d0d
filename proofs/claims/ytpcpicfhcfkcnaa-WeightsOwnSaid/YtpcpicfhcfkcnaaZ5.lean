/- Several texts as one: L13o. -/
import Derived.Test.YtpcpicfhcfkcnaaZ3
namespace Go.Proofs.Ytpcpicfhcfkcnaa

/-! L13o -/
section
set_option linter.unusedVariables false
set_option linter.unusedSimpArgs false
open Go.RowKit

set_option maxRecDepth 100000

set_option maxHeartbeats 32000000 in
theorem walk_WeightsOwn (a0 : Option Addr) (len0 cap0 : Nat) (z0 : List Int) (a1 : Option Addr) (len1 cap1 : Nat) (z1 : List Int) (w : World) (w0 : IsRow .i64 w a0 len0 cap0 z0) (w1 : IsRow .i64 w a1 len1 cap1 z1) :
    Calls Try.prog 4 #[.slice a0 len0 cap0, .slice a1 len1 cap1] w fun e w' => e = .returned (.bool true) ∧ Below w.heap.size w w' := by
  have HBL := Lib.hid (fun u (hu : Below w.heap.size w u) => built13_any (.slice a0 len0 cap0) (.slice a1 len1 cap1) _ _ u ((rowInts w0).below hu) ((rowInts w1).below hu))
  have HAW := Lib.hid awake13_any
  have hi1 : (Try.prog.info? 25).map (·.size) = some 1 := by kernel_rfl
  have hi2 : (Try.prog.info? 28).map (·.size) = some 2 := by kernel_rfl
  obtain ⟨hz1, hst1⟩ := zero_array (P := Try.prog) (t := 25) (n := 1) #[.slice none 0 0] (by kernel_rfl) rfl (by kernel_rfl)
  obtain ⟨hz2, hst2⟩ := zero_array (P := Try.prog) (t := 28) (n := 2) #[.slice none 0 0, .slice none 0 0] (by kernel_rfl) rfl (by kernel_rfl)
  clear w0 w1 hst1 hst2
  go_enter Try.func4, Try.ntmps4
  go_upto_region 2 with (first
    | (go_at_call 7; refine (HBL.out _ (Below.refl _ _)).mono ?_; rintro e w1 ⟨tv, lv, ev, nv, n, ns, vs, es, bs, rfl, hn, hv, he, hm, hp, hb⟩; obtain ⟨ta, tc, rfl, _⟩ := hn.shape; obtain ⟨la, lc, rfl, _⟩ := ElV.shape hv; obtain ⟨ea, el, ec, rfl⟩ := ints_shape' he.1; obtain ⟨na, nc, rfl, _⟩ := NumsV.shapeW hm; have HP := Lib.hid hp; have L1 := Lib.hid (LwV.mk hn hv he hm hb); clear hn hv he hm hp hb)
    | ((with_reducible refine at_store (.tmp 5) ?_); refine wpList_store_blk rfl 25 (.tmp 5) _ rfl w1.heap.size #[.slice ta ns.length tc] rfl rfl #[.slice none 0 0] ((Blk.new rfl).alloc _) rfl hi1 (by simp [Value.oneCell']) ?_; intro w2 U2 B2; have HU2 := Lib.hid U2; have HT2 := Lib.hid B2; clear U2 B2)
    | ((with_reducible refine at_store (.tmp 6) ?_); refine wpList_store_blk rfl 28 (.tmp 6) _ rfl (w1.heap.size + 1) #[.slice la vs.length lc, .slice ea el ec] (by first | rfl | simp [Act.eval, Act.put]) rfl #[.slice none 0 0, .slice none 0 0] (HU2.out.blk (Blk.new (by simp)) (by omega)) rfl hi2 (by simp [Value.oneCell']) ?_; intro w3 U3 B3; have S : Hid (LwS w w1.heap.size (.slice ta ns.length tc) (.slice la vs.length lc) (.slice ea el ec) (.slice na bs.length nc) ns vs es bs w3) := lws_new L1.out HT2.out HU2.out U3 B3; clear U3 B3))
  obtain ⟨bt, hbt⟩ : ∃ x, w1.heap.size = x := ⟨_, rfl⟩
  rw [hbt] at S ⊢
  clear hbt L1 HT2 HU2
  (try simp only [Act.put])
  have HCD := Lib.hid (fun u (hu : LwV w (.slice ta ns.length tc) (.slice la vs.length lc) (.slice ea el ec) (.slice na bs.length nc) ns vs es bs u) => lw_cdirect HP.out u hu _ bs hu.m HP.out.small)
  have HDL := Lib.hid (lw_dlen ns vs es bs)
  have HWL := Lib.hid (fun dl => sbtL_len ns dl ns.length)
  have HCS := Lib.hid (fun u (hu : LwV w (.slice ta ns.length tc) (.slice la vs.length lc) (.slice ea el ec) (.slice na bs.length nc) ns vs es bs u) dv dl hd hl => lw_csub HP.out u hu dv dl hd hl)
  have HCT := Lib.hid (fun u (hu : LwV w (.slice ta ns.length tc) (.slice la vs.length lc) (.slice ea el ec) (.slice na bs.length nc) ns vs es bs u) => ctotal_any (.slice la vs.length lc) (.slice ea el ec) (.slice na bs.length nc) es bs u hu.e hu.m HP.out.small)
  have HCH := Lib.hid (fun (i : Nat) u (hu : LwV w (.slice ta ns.length tc) (.slice la vs.length lc) (.slice ea el ec) (.slice na bs.length nc) ns vs es bs u) => child_ints ns (i : Int) (.slice ta ns.length tc) u hu.n HP.out.nl)
  have HOA := Lib.hid (fun (i : Nat) (hi : i < ns.length) => own_all HP.out.ok (dirL_rng ns vs es bs ns.length) (lw_dlen ns vs es bs) hi)
  have HRO := Lib.hid (root_all HP.out.ok (dirL ns vs es bs ns.length))
  have HST := Lib.hid (sum_total HP.out.ok HP.out.sm es)
  have HBA := Lib.hid (fun (i : Nat) (hi : i < ns.length) (h2 : ns[i].st = 2) => dir_bad vs es bs hi h2)
  have HMP : Hid (0 < ns.length) := HP.out.ok.pos
  have HM9 : Hid (ns.length ≤ 9) := HP.out.l9
  obtain ⟨dl, hdl⟩ : ∃ x, dirL ns vs es bs ns.length = x := ⟨_, rfl⟩
  obtain ⟨tt, htt⟩ : ∃ x, totK es bs bs.length = x := ⟨_, rfl⟩
  rw [hdl] at HCD HDL HRO HST HOA HBA
  rw [htt] at HCT HST
  have HCS := Lib.hid (fun u hu dv hd => HCS.out u hu dv dl hd HDL.out)
  have HWL := Lib.hid (HWL.out dl)
  obtain ⟨wl, hwl⟩ : ∃ x, sbtL ns dl ns.length = x := ⟨_, rfl⟩
  rw [hwl] at HCS HWL HRO HOA
  clear hdl htt hwl
  obtain ⟨m, hm⟩ : ∃ m, Hid (ns.length = m) := ⟨_, Lib.hid rfl⟩
  rw [hm.out] at S HDL HWL HCD HCS HCT HCH HRO HST HMP HM9 ⊢
  have hm9 : m ≤ 9 := HM9.out
  have hm1 : 0 < m := HMP.out
  have hnn : ((m : Int) == (m : Int)) = true := by simp
  go_upto_region 6 with (first
    | ((with_reducible refine at_load (.tmp 5) ?_); refine wpList_load_g 25 (.tmp 5) rfl bt rfl #[.slice ta m tc] _ S.out.t Try.underlying25 rfl hi1 rfl ?_)
    | ((with_reducible refine at_load (.tmp 6) ?_); refine wpList_load_g 28 (.tmp 6) rfl (bt + 1) (by first | rfl | simp [Act.eval, Act.put]) #[.slice la vs.length lc, .slice ea el ec] _ S.out.x Try.underlying28 rfl hi2 rfl ?_)
    | (go_at_call 8; refine (HCD.out _ S.out.l).mono ?_; rintro e w4 ⟨dv, rfl, hd, hb⟩; obtain ⟨da, dc, rfl, _⟩ := NumsV.shapeW hd; have HD := Lib.hid hd; rw [HDL.out] at HD ⊢; have S := Lib.hid (S.out.call hb); clear hd hb)
    | (go_at_call 11; refine (HCS.out _ S.out.l _ HD.out).mono ?_; rintro e w5 ⟨wv, rfl, hd, hb⟩; obtain ⟨wa, wc, rfl, _⟩ := NumsV.shapeW hd; rw [HWL.out] at hd ⊢; have SX := Lib.hid (LwD.mk (S.out.call hb) ⟨HD.out.1.below hb, HD.out.2⟩ hd); have HC0 := Lib.hid (SX.out.s.t.cell 0); clear hd hb)
    | ((with_reducible refine at_load (.tmp 31) ?_); refine wpList_load_1 23 (.tmp 31) rfl bt 0 (.slice ta m tc) HC0.out rfl _ Try.underlying23 rfl rfl ?_)
    | ((with_reducible refine at_load (.tmp 38) ?_); refine wpList_load_1 23 (.tmp 38) rfl bt 0 (.slice ta m tc) HC0.out rfl _ Try.underlying23 rfl rfl ?_))
  clear S HD HCD HCS HC0
  (try simp only [Act.put])
  go_wp2_with fail
  go_loopw [10, 11, 12, 13, 14] (fun sm iv _ _ _ wr => ∃ i : Nat, i ≤ m ∧ iv = .int .i64 i ∧ sm = .int .u64 (sumW dl i) ∧ LwD w bt (.slice ta m tc) (.slice la vs.length lc) (.slice ea el ec) (.slice na bs.length nc) ns vs es bs (.slice da m dc) (.slice wa m wc) dl wl wr) (fun _ iv _ _ _ _ => m - (intOf iv).toNat)
  case atStart => exact ⟨0, Nat.zero_le _, rfl, rfl, SX.out⟩
  case round =>
    obtain ⟨i, hi, rfl, rfl, hs⟩ := hrel
    have S1 := Lib.hid hs
    have HC0 := Lib.hid (hs.s.t.cell 0)
    clear hs SX
    by_cases hlt : i < m
    case neg =>
      obtain rfl : i = m := by omega
      obtain ⟨x0, hx0⟩ : ∃ x, sumW dl i = x := ⟨_, rfl⟩
      rw [hx0] at HRO HST ⊢
      have hle : x0 ≤ tt := HST.out
      obtain ⟨wb, wo, rfl, hwb, hcw⟩ := NumsV.elemW S1.out.e (k := 0) (by rw [HWL.out]; exact hm1)
      rw [HRO.out, Nat.add_zero] at hcw
      have HCW := Lib.hid hcw
      clear hx0 hcw
      go_wp2_with (first
        | ((with_reducible refine at_load (.tmp 44) ?_); refine wpList_load_1 23 (.tmp 44) rfl bt 0 (.slice ta i tc) HC0.out rfl _ Try.underlying23 rfl rfl ?_)
        | ((with_reducible refine at_load (.tmp 101) ?_); refine wpList_load_1 35 (.tmp 101) rfl wb (wo) (.int .u64 x0) HCW.out rfl _ Try.underlying35 rfl rfl ?_)
        | ((with_reducible refine at_load (.tmp 6) ?_); refine wpList_load_g 28 (.tmp 6) rfl (bt + 1) (by first | rfl | simp [Act.eval, Act.put]) #[.slice la vs.length lc, .slice ea el ec] _ S1.out.s.x Try.underlying28 rfl hi2 rfl ?_)
        | (go_at_call 13; refine (HCT.out _ S1.out.s.l).mono ?_; rintro e w6 ⟨rfl, hb⟩; have S2 := Lib.hid (S1.out.call hb); clear hb)
        | (go_at_call 15; refine (HAW.out _).mono ?_; rintro e w7 ⟨rfl, hb⟩; have S3 := Lib.hid (S2.out.call hb); clear hb))
      go_ret
      exact ⟨rfl, S3.out.s.l.b⟩
    have hlt' : (i : Int) < m := by omega
    have hin : i < ns.length := by rw [hm.out]; exact hlt
    obtain ⟨nb, no, rfl, hlm, hnb, hna, hnk⟩ := S1.out.s.l.n.elem hin
    have HSTA := Lib.hid hna.st
    clear hna hlm hnk
    obtain ⟨db, doo, rfl, hdb, hcd⟩ := NumsV.elemW S1.out.d (k := i) (by rw [HDL.out]; exact hlt)
    obtain ⟨wb, wo, rfl, hwb, hcw⟩ := NumsV.elemW S1.out.e (k := i) (by rw [HWL.out]; exact hlt)
    have HNX := Lib.hid (sumW_succ dl i)
    have HOW := Lib.hid (HOA.out i hin)
    have HB2 := Lib.hid (HBA.out i hin)
    obtain ⟨st, hst⟩ : ∃ z, (ns[i]).st = z := ⟨_, rfl⟩
    rw [hst] at HSTA HB2
    clear hst
    have HCI := Lib.hid (fun u hu => HCH.out i u hu)
    have HCL : Hid ((childN ns (i : Int)).length ≤ m) := by have := childN_len ns (i : Int); rw [hm.out] at this; exact this
    have HCR : Hid (∀ k, k < (childN ns (i : Int)).length → 0 ≤ (childN ns (i : Int)).getD k 0 ∧ (childN ns (i : Int)).getD k 0 < m) := fun k hk => by
      have e : (childN ns (i : Int)).getD k 0 = (childN ns (i : Int))[k] := by simp [List.getD_eq_getElem?_getD, hk]
      rw [e]
      have h := child_rng ns (i : Int) _ (List.getElem_mem hk)
      rw [hm.out] at h
      exact h
    obtain ⟨C, hC⟩ : ∃ C, childN ns (i : Int) = C := ⟨_, rfl⟩
    rw [hC] at HOW HCI HCL HCR
    obtain ⟨cn, hcn⟩ : ∃ cn, Hid (C.length = cn) := ⟨_, Lib.hid rfl⟩
    rw [hcn.out] at HOW HCL HCR HCI
    have hcn9 : cn ≤ m := HCL.out
    obtain ⟨di, hdi⟩ : ∃ x, dl.getD i 0 = x := ⟨_, rfl⟩
    obtain ⟨wi, hwi⟩ : ∃ x, wl.getD i 0 = x := ⟨_, rfl⟩
    obtain ⟨si, hsi⟩ : ∃ x, sumW dl i = x := ⟨_, rfl⟩
    rw [hdi] at hcd HNX HOW HB2
    rw [hwi] at hcw HOW
    rw [hsi] at HNX ⊢
    have HCD := Lib.hid hcd
    have HCW := Lib.hid hcw
    clear hcd hcw hC hdi hwi hsi
    go_wp2_with (first
      | ((with_reducible refine at_load (.tmp 53) ?_); refine wpList_load_1 35 (.tmp 53) rfl db (doo + i) (.int .u64 di) HCD.out rfl _ Try.underlying35 rfl rfl ?_)
      | ((with_reducible refine at_load (.tmp 58) ?_); refine wpList_load_1 35 (.tmp 58) rfl db (doo + i) (.int .u64 di) HCD.out rfl _ Try.underlying35 rfl rfl ?_)
      | ((with_reducible refine at_load (.tmp 44) ?_); refine wpList_load_1 23 (.tmp 44) rfl bt 0 (.slice (some ⟨nb, no, none⟩) m tc) HC0.out rfl _ Try.underlying23 rfl rfl ?_)
      | ((with_reducible refine at_load (.tmp 5) ?_); refine wpList_load_g 25 (.tmp 5) rfl bt rfl #[.slice (some ⟨nb, no, none⟩) m tc] _ S1.out.s.t Try.underlying25 rfl hi1 rfl ?_)
      | (go_at_call 16; refine (HCI.out _ S1.out.s.l).mono ?_; rintro e w6 ⟨ca, cc, rfl, hc6, hb⟩; have HIN := Lib.hid hc6; have S2 := Lib.hid (S1.out.call hb); have HCW2 := Lib.hid ((hb.cell (p := ⟨wb, wo + i, none⟩) hwb).trans HCW.out); have HCD2 := Lib.hid ((hb.cell (p := ⟨db, doo + i, none⟩) hdb).trans HCD.out); have HSA2 := Lib.hid ((hb.cell (p := ⟨nb, no + i * 240 + 239, none⟩) hnb).trans HSTA.out); clear hb hc6))
    go_loopw [12, 14] (fun ow kv wy => ∃ k : Nat, k ≤ cn ∧ kv = .int .i64 k ∧ ow = .int .u64 (ownE di wl C k) ∧ wy = w6) (fun _ kv _ => cn - (intOf kv).toNat)
    case atStart => exact ⟨0, Nat.zero_le _, rfl, rfl, rfl⟩
    case round =>
      obtain ⟨k, hk, rfl, rfl, rfl⟩ := hrel
      have HCX := Lib.hid (S2.out.s.t.cell 0)
      by_cases hkt : k < cn
      case neg =>
        obtain rfl : k = cn := by omega
        rw [HOW.out]
        have HC2 := Lib.hid (S2.out.s.t.cell 0)
        by_cases h2 : st = 2
        · subst h2
          have HD0 : Hid (di = 0) := HB2.out rfl
          rw [HD0.out] at HCD2 HNX
          go_wp2_with (first
            | ((with_reducible refine at_load (.tmp 80) ?_); refine wpList_load_1 35 (.tmp 80) rfl wb (wo + i) (.int .u64 wi) HCW2.out rfl _ Try.underlying35 rfl rfl ?_)
            | ((with_reducible refine at_load (.tmp 85) ?_); refine wpList_load_1 23 (.tmp 85) rfl bt 0 (.slice (some ⟨nb, no, none⟩) m tc) HC2.out rfl _ Try.underlying23 rfl rfl ?_)
            | ((with_reducible refine at_load (.tmp 89) ?_); refine wpList_load_1 3 (.tmp 89) rfl nb (no + i * 240 + 239) (.int .i64 2) HSA2.out rfl _ Try.underlying3 rfl rfl ?_)
            | ((with_reducible refine at_load (.tmp 95) ?_); refine wpList_load_1 35 (.tmp 95) rfl db (doo + i) (.int .u64 0) HCD2.out rfl _ Try.underlying35 rfl rfl ?_))
          go_roundw
          case rel => exact ⟨i + 1, by omega, by go_num, by rw [HNX.out, HD0.out], S2.out⟩
          case measure => simp [intOf]; omega
        · have h2' : (st == 2) = false := by simp [h2]
          go_wp2_with (first
            | ((with_reducible refine at_load (.tmp 80) ?_); refine wpList_load_1 35 (.tmp 80) rfl wb (wo + i) (.int .u64 wi) HCW2.out rfl _ Try.underlying35 rfl rfl ?_)
            | ((with_reducible refine at_load (.tmp 85) ?_); refine wpList_load_1 23 (.tmp 85) rfl bt 0 (.slice (some ⟨nb, no, none⟩) m tc) HC2.out rfl _ Try.underlying23 rfl rfl ?_)
            | ((with_reducible refine at_load (.tmp 89) ?_); refine wpList_load_1 3 (.tmp 89) rfl nb (no + i * 240 + 239) (.int .i64 st) HSA2.out rfl _ Try.underlying3 rfl rfl ?_)
            | ((with_reducible refine at_load (.tmp 95) ?_); refine wpList_load_1 35 (.tmp 95) rfl db (doo + i) (.int .u64 di) HCD2.out rfl _ Try.underlying35 rfl rfl ?_))
          go_roundw
          case rel => exact ⟨i + 1, by omega, by go_num, by rw [HNX.out], S2.out⟩
          case measure => simp [intOf]; omega
      have hkt' : (k : Int) < cn := by omega
      obtain ⟨cb, co, rfl, hcb, hcc⟩ := HIN.out.at (show k < C.length by rw [hcn.out]; exact hkt)
      have hcr := HCR.out k hkt
      have HES := Lib.hid (ownE_succ di wl C k)
      obtain ⟨y, hy⟩ : ∃ y : Nat, C.getD k 0 = y := ⟨(C.getD k 0).toNat, by omega⟩
      rw [hy] at hcc hcr HES
      simp only [Int.toNat_natCast] at HES
      have hym : y < m := by omega
      have hym' : (y : Int) < m := by omega
      obtain ⟨xb, xo, ex, hxb, hcx⟩ := NumsV.elemW S2.out.e (k := y) (by rw [HWL.out]; exact hym)
      cases ex
      obtain ⟨wy, hwy⟩ : ∃ z, wl.getD y 0 = z := ⟨_, rfl⟩
      rw [hwy] at hcx HES
      obtain ⟨ow, how⟩ : ∃ z, ownE di wl C k = z := ⟨_, rfl⟩
      rw [how] at HES ⊢
      have HCC := Lib.hid hcc
      have HCX2 := Lib.hid hcx
      clear hcc hcx hwy how hy hcr
      go_wp2_with (first
        | ((with_reducible refine at_load (.tmp 73) ?_); refine wpList_load_1 3 (.tmp 73) rfl cb (co + k) (.int .i64 (y : Int)) HCC.out rfl _ Try.underlying3 rfl rfl ?_)
        | ((with_reducible refine at_load (.tmp 75) ?_); refine wpList_load_1 35 (.tmp 75) rfl wb (wo + y) (.int .u64 wy) HCX2.out rfl _ Try.underlying35 rfl rfl ?_))
      go_roundw
      case rel => exact ⟨k + 1, by omega, by go_num, by rw [HES.out], trivial⟩
      case measure => simp [intOf]; omega
end

end Go.Proofs.Ytpcpicfhcfkcnaa
