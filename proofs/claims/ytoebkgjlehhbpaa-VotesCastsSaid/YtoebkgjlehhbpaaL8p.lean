/- VotesCasts. -/
import Derived.Test.YtoebkgjlehhbpaaVoH
set_option linter.unusedVariables false

set_option linter.unusedSimpArgs false
namespace Go.Proofs.Ytoebkgjlehhbpaa
open Go.RowKit

set_option maxRecDepth 100000

theorem VotesV.grownOff {w w' : World} {v : Value} {vs : List VoD} {g : Nat} (h : VotesV w v vs) (hg : w.grownBy w' (some g)) (ho : Off g v) : VotesV w' v vs := by
  obtain ⟨a, cap, rfl, hl, hr⟩ := h
  refine ⟨a, cap, rfl, hl, ?_⟩
  rcases hr with h0 | ⟨b, off, rfl, hlt, Xs, h1, h2⟩
  · exact .inl h0
  · by_cases h0 : vs.length = 0
    · exact .inl h0
    have hne : some b ≠ some g := fun e => ho _ _ _ rfl (by omega) (by cases e; rfl)
    exact .inr ⟨b, off, rfl, Nat.lt_of_lt_of_le hlt hg.size, Xs, fun j u hj => by rw [hg.cell_far ⟨b, off + j, none⟩ hlt hne]; exact h1 j u hj, h2.imp fun X d hX => hX⟩

/-- The table and the list hold the same votes. -/
def CasI (w : World) (n : Nat) (v : Value) (wr : World) : Prop :=
  ∃ vs : List VoD, vs.length = n ∧ VtI wr (w.heap.size + 1) w.heap.size vs ∧ VotesV wr v vs ∧ New (w.heap.size + 2) v ∧ Below w.heap.size w wr

set_option maxHeartbeats 8000000 in
theorem walk_VotesCasts (a0 : Option Addr) (len0 cap0 : Nat) (z0 : List Int) (a1 : Int) (w : World) (w0 : IsRow .i64 w a0 len0 cap0 z0) (w1 : (Lit.int .i64 a1).wf = true) :
    Calls Try.prog 4 #[.slice a0 len0 cap0, .int .i64 a1] w fun e w' => e = .returned (.bool true) ∧ Below w.heap.size w w' := by
  have HROW := Lib.hid w0.ints.1
  have hmx : len0 ≤ maxLen := by obtain ⟨a, n, c, e, _, hm, _⟩ := HROW.out; cases e; exact hm
  unfold maxLen at hmx
  clear w0 w1
  obtain ⟨N, hN7, hN⟩ := i64_and7_nat a1
  have HA := Lib.hid awake8_any
  have HNT := Lib.hid (vnew_ok N w (by omega))
  have HI := Lib.hid info_vote
  have HRS := Lib.hid root_some
  obtain ⟨ZR, hZR⟩ : ∃ Z, (bytesL zeroR).toArray = Z := ⟨_, rfl⟩
  have hszR : ZR.size = 32 := by rw [← hZR]; rfl
  obtain ⟨hz32, hst⟩ := zero_array (P := Try.prog) (t := 31) (n := 32) ZR (by rw [← hZR]; kernel_rfl) hszR (by rw [← hZR]; kernel_rfl)
  clear hst hZR
  go_enter Try.func4, Try.ntmps4
  go_wp2_with (first
    | (go_at_call 7; refine HNT.out.mono ?_; rintro e w1 ⟨rfl, hk1, hb1⟩; have HK1 := Lib.hid hk1; have HB1 := Lib.hid hb1; clear hk1 hb1)
    | ((with_reducible refine at_makeEl (.tmp 31) ?_); refine wpList_make_els rfl (.tmp 31) 27 33 rfl zeV.cells 48 Try.underlying27 HI.out .i64 N rfl (by omega) (by omega) ?_; intro w2 hg2 hs2 hr2; have HG2 := Lib.hid hg2; have HR2 := Lib.hid hr2; have HS2 := Lib.hid hs2; clear hg2 hr2 hs2))
  have HI0 : Hid (CasI w N (.slice (some ⟨w1.heap.size, 0, none⟩) N N) w2) := by
    have hlt := HK1.out.blk.lt
    refine ⟨List.replicate N zeV, by simp, HK1.out.grown HG2.out (by simp) (by simp), ?_, ?_, HB1.out.grown HG2.out (by omega) (by simp)⟩
    · have h := row_votes (w := w2) (g := w1.heap.size) (cap := N) (vs := List.replicate N zeV) (by rw [List.map_replicate]; exact HR2.out) (fun v hv => by rw [List.eq_of_mem_replicate hv]; exact zeV_ok) (by rw [List.length_replicate]; unfold maxLen; omega)
      rw [List.length_replicate] at h; exact h
    · intro z l c e h0; cases e; show _ ≤ w1.heap.size; omega
  clear HK1 HB1 HG2 HR2 HS2
  go_loopw [7, 8] (fun v i wr => ∃ k : Nat, k ≤ 12 ∧ i = .int .i64 k ∧ CasI w N v wr) (fun _ i _ => 12 - (intOf i).toNat)
  case atStart => exact ⟨0, Nat.zero_le _, rfl, HI0.out⟩
  case round =>
    obtain ⟨k, hk, rfl, vs, hvn, hV, hW, hNw, hBl⟩ := hrel
    have HV := Lib.hid hV
    have HW := Lib.hid hW
    have HNW := Lib.hid hNw
    have HBL := Lib.hid hBl
    have HVN := Lib.hid hvn
    have hblt := hV.blk.lt
    clear HI0 hV hW hNw hBl hvn
    by_cases h12 : k < 12
    case neg =>
      obtain rfl : k = 12 := by omega
      by_cases hlen : (12 : Int) < (len0 : Int)
      · go_wp2_with (go_at_call 8; refine (HA.out _).mono ?_; rintro e w9 ⟨rfl, hb9⟩; have HB9 := Lib.hid (HBL.out.trans (hb9.mono HBL.out.size)); clear hb9)
        go_ret
        exact ⟨rfl, HB9.out⟩
      · go_wp2_with (go_at_call 8; refine (HA.out _).mono ?_; rintro e w9 ⟨rfl, hb9⟩; have HB9 := Lib.hid (HBL.out.trans (hb9.mono HBL.out.size)); clear hb9)
        go_ret
        exact ⟨rfl, HB9.out⟩
    by_cases hlen : k < len0
    case neg =>
      have hlen' : ¬ (k : Int) < (len0 : Int) := by omega
      go_wp2_with (go_at_call 8; refine (HA.out _).mono ?_; rintro e w9 ⟨rfl, hb9⟩; have HB9 := Lib.hid (HBL.out.trans (hb9.mono HBL.out.size)); clear hb9)
      go_ret
      exact ⟨rfl, HB9.out⟩
    have hlen' : (k : Int) < (len0 : Int) := by omega
    have h12' : (k : Int) < 12 := by omega
    obtain ⟨rb, ro, x, rfl, hcx⟩ : ∃ rb ro x, a0 = some ⟨rb, ro, none⟩ ∧ wr.cell? ⟨rb, ro + k, none⟩ = some (.int .i64 x) := by
      obtain ⟨a, n, c, e, _, _, hr⟩ := HROW.out.below HBL.out
      cases e
      rcases hr with h0 | ⟨b, off, rfl, _, hc⟩
      · omega
      · exact ⟨b, off, _, rfl, hc k hlen⟩
    have HCX := Lib.hid hcx
    clear hcx
    obtain ⟨K, hK⟩ : ∃ K, bits .and .i64 x 16777215 = K := ⟨_, rfl⟩
    obtain ⟨ep, hep⟩ : ∃ ep, IntKind.u64.wrap (bits .and .i64 K 3) = ep := ⟨_, rfl⟩
    have HEP : Hid (0 ≤ ep ∧ ep ≤ 18446744073709551615) := by show _ ∧ _; rw [← hep]; exact wrap_u64r _
    have HLA := Lib.hid (fun k u => list_any N k u hN7)
    go_wp2_with (first
      | ((with_reducible refine at_load (.tmp 45) ?_); refine wpList_load_1 3 (.tmp 45) rfl rb (ro + k) (.int .i64 x) HCX.out rfl _ Try.underlying3 rfl rfl ?_)
      | (go_at_call 12; refine (HRS.out _ _).mono ?_; rintro e w3 ⟨⟨r, hr, rfl⟩, hb3⟩; obtain ⟨X, hX⟩ : ∃ X, Hid ((bytesL r).toArray = X) := ⟨_, Lib.hid rfl⟩; rw [hX.out]; have HR := Lib.hid hr; have HV3 := Lib.hid (HV.out.call hb3); have HW3 := Lib.hid (HW.out.call hb3); have HB3 := Lib.hid (HBL.out.trans (hb3.mono HBL.out.size)); have hlt3 := HV3.out.blk.lt; clear hr hb3)
      | (go_at_call 13; refine (HLA.out _ _).mono ?_; rintro e w4 ⟨lv, l, rfl, hi4, hn4, hl8, hb4⟩; have HL4 := Lib.hid hi4; have HN4 := Lib.hid hn4; have HV4 := Lib.hid (HV3.out.call hb4); have HW4 := Lib.hid (HW3.out.call hb4); have HB4 := Lib.hid (HB3.out.trans (hb4.mono HB3.out.size)); have hlt4 := HV4.out.blk.lt; clear hi4 hn4 hb4)
      | ((with_reducible refine at_store (.tmp 11) ?_); refine wpList_store_blk rfl 31 (.tmp 11) _ rfl w4.heap.size X rfl rfl ZR (Blk.new rfl) (by rw [hszR, ← hX.out, List.size_toArray, bytesL_len HR.out]) (by rw [← hX.out, List.size_toArray, bytesL_len HR.out]; kernel_rfl) (by rw [← hX.out]; exact fun v hv => bytesL_one _ v (by simpa using hv)) ?_; intro w5 U5 B5; have hb45 := U5.below ((Below.refl w4.heap.size w4).alloc (Nat.le_refl _) (.cells ZR 31)) (Nat.le_refl _); have HX5 := Lib.hid B5; have HV5 := Lib.hid (HV4.out.call hb45); have HW5 := Lib.hid (HW4.out.call hb45); have HL5 : Hid (IntsV w5 lv l) := Lib.hid ⟨HL4.out.1.below hb45, HL4.out.2⟩; have HB5 := Lib.hid (HB4.out.trans (hb45.mono HB4.out.size)); clear hb45 U5 B5)
      | ((with_reducible refine at_load (.tmp 11) ?_); refine wpList_load_blk rfl 31 (.tmp 11) rfl w4.heap.size rfl X _ HX5.out Try.underlying31 rfl (by rw [← hX.out, List.size_toArray, bytesL_len HR.out]; kernel_rfl) ?_))
    by_cases hok : vlE l N = 0
    · have hvE : vlE l vs.length = 0 := by rw [HVN.out]; exact hok
      have htl : (castR vs ep r l).1.length = N := by rw [castR_yes hvE, castK_len _ _ _ _ _ (Nat.le_refl _)]; exact HVN.out
      obtain ⟨⟨T, c⟩, hTC⟩ : ∃ P, castR vs ep r l = P := ⟨_, rfl⟩
      rw [hTC] at htl
      have HTL : Hid (T.length = N) := htl
      have hcc : (c != c) = false := by simp
      clear htl
      go_wp2_with (first
      | (go_at_call 14; have hca := (cast_any (w.heap.size + 1) w.heap.size vs ep r lv l w5 HV5.out HEP.out HR.out HL5.out (HN4.out.off (by omega))); rw [hX.out] at hca; refine hca.mono ?_; rintro e w6 ⟨rfl, hv6, hg6⟩; rw [hTC] at hv6; rw [hTC, hvE]; have HV6 := Lib.hid hv6; have HW6 := Lib.hid (HW5.out.grownOff hg6 (HNW.out.off (by omega))); have HL6 : Hid (IntsV w6 lv l) := Lib.hid ⟨HL5.out.1.grownOff hg6 (fun g e => by cases e; exact HN4.out.off (by omega)), HL5.out.2⟩; have HX6 := Lib.hid (HX5.out.grown hg6 (by simp; omega)); have HB6 := Lib.hid (below_row HB5.out hg6 (Nat.le_refl _) HB5.out.size); clear hca hv6 hg6)
      | (go_at_call 15; refine (rvlist_any lv l N w6 HL6.out (by omega) (by omega)).mono ?_; rintro e w7 ⟨rfl, hb7⟩; rw [hok]; have HV7 := Lib.hid (HV6.out.call hb7); have HW7 := Lib.hid (HW6.out.call hb7); have HL7 : Hid (IntsV w7 lv l) := Lib.hid ⟨HL6.out.1.below hb7, HL6.out.2⟩; have HX7 := Lib.hid (HX6.out.call hb7); have HB7 := Lib.hid (HB6.out.trans (hb7.mono HB6.out.size)); clear hb7)
      | ((with_reducible refine at_load (.tmp 11) ?_); refine wpList_load_blk rfl 31 (.tmp 11) rfl w4.heap.size rfl X _ HX7.out Try.underlying31 rfl (by rw [← hX.out, List.size_toArray, bytesL_len HR.out]; kernel_rfl) ?_)
      | (go_at_call 16; have hrc := rcast_any _ vs ep r lv l w7 HW7.out (by rw [HVN.out]; omega) HEP.out HR.out HL7.out hvE; rw [hTC, hX.out] at hrc; refine hrc.mono ?_; rintro e w8 ⟨v8, rfl, ⟨hv8, hn8⟩, hb8⟩; have HW8 := Lib.hid hv8; have HN8 := Lib.hid hn8; have HV8 := Lib.hid (HV7.out.call hb8); have HB8 := Lib.hid (HB7.out.trans (hb8.mono HB7.out.size)); have hlt8 := HV7.out.blk.lt; clear hrc hv8 hn8 hb8)
      | (go_at_call 9; refine (votes_any (w.heap.size + 1) w.heap.size T w8 HV8.out).mono ?_; rintro e w9 ⟨v9, rfl, ho9, hb9⟩; have HO9 := Lib.hid (ho9.elV voOK); have HV9 := Lib.hid (HV8.out.call hb9); have HW9 := Lib.hid (HW8.out.call hb9); have HB9 := Lib.hid (HB8.out.trans (hb9.mono HB8.out.size)); clear ho9 hb9)
      | (go_at_call 17; refine (svotes_yes _ _ T w9 HO9.out HW9.out (by rw [HTL.out]; omega)).mono ?_; rintro e w10 ⟨rfl, hb10⟩; have HV10 := Lib.hid (HV9.out.call hb10); have HW10 := Lib.hid (HW9.out.call hb10); have HB10 := Lib.hid (HB9.out.trans (hb10.mono HB9.out.size)); clear hb10))
      go_loopw [17] (fun i wy => ∃ j : Nat, j ≤ 4 ∧ i = .int .i64 j ∧ VtI wy (w.heap.size + 1) w.heap.size T ∧ VotesV wy v8 T ∧ Below w.heap.size w wy) (fun i _ => 4 - (intOf i).toNat)
      case atStart => exact ⟨0, Nat.zero_le _, rfl, HV10.out, HW10.out, HB10.out⟩
      case round =>
        obtain ⟨j, hj, rfl, hvj, hwj, hbj⟩ := hrel
        have HVJ := Lib.hid hvj
        have HWJ := Lib.hid hwj
        have HBJ := Lib.hid hbj
        clear hvj hwj hbj
        by_cases hj4 : j < 4
        case neg =>
          obtain rfl : j = 4 := by omega
          go_wp2_with fail
          go_roundw
          case rel => exact ⟨k + 1, by omega, by go_num, T, HTL.out, HVJ.out, HWJ.out, HN8.out.mono (by omega), HBJ.out⟩
          case measure => simp [intOf]; omega
        have hj4' : (j : Int) < 4 := by omega
        go_wp2_with (first
          | (go_at_call 12; refine (HRS.out _ _).mono ?_; rintro e w11 ⟨⟨r2, hr2, rfl⟩, hb11⟩; obtain ⟨X2, hX2⟩ : ∃ X2, Hid ((bytesL r2).toArray = X2) := ⟨_, Lib.hid rfl⟩; rw [hX2.out]; have HR2 := Lib.hid hr2; have HV11 := Lib.hid (HVJ.out.call hb11); have HW11 := Lib.hid (HWJ.out.call hb11); have HB11 := Lib.hid (HBJ.out.trans (hb11.mono HBJ.out.size)); clear hr2 hb11)
          | (go_at_call 18; have hsu := supported_yes (w.heap.size + 1) w.heap.size T v8 r2 w11 HV11.out HW11.out HR2.out; rw [hX2.out] at hsu; refine hsu.mono ?_; rintro e w12 ⟨rfl, hb12⟩; have HV12 := Lib.hid (HV11.out.call hb12); have HW12 := Lib.hid (HW11.out.call hb12); have HB12 := Lib.hid (HB11.out.trans (hb12.mono HB11.out.size)); clear hsu hb12))
        go_roundw
        case rel => exact ⟨j + 1, by omega, by go_num, HV12.out, HW12.out, HB12.out⟩
        case measure => simp [intOf]; omega
    · obtain ⟨er, her⟩ : ∃ er, vlE l N = er := ⟨_, rfl⟩
      have hvE : vlE l vs.length = er := by rw [HVN.out]; exact her
      have hTC : castR vs ep r l = (vs, 0) := castR_no (by rw [hvE, ← her]; exact hok)
      have he0 : (er == 0) = false := by simp; rw [← her]; exact hok
      have hee : (er != er) = false := by simp
      have hok := her
      clear her
      obtain ⟨V7, hV7⟩ : ∃ v, u7 = v := ⟨_, rfl⟩
      rw [hV7] at HW5 HNW ⊢
      clear hV7
      go_wp2_with (first
      | (go_at_call 14; have hca := (cast_any (w.heap.size + 1) w.heap.size vs ep r lv l w5 HV5.out HEP.out HR.out HL5.out (HN4.out.off (by omega))); rw [hX.out] at hca; refine hca.mono ?_; rintro e w6 ⟨rfl, hv6, hg6⟩; rw [hTC] at hv6; rw [hTC, hvE]; have HV6 := Lib.hid hv6; have HW6 := Lib.hid (HW5.out.grownOff hg6 (HNW.out.off (by omega))); have HL6 : Hid (IntsV w6 lv l) := Lib.hid ⟨HL5.out.1.grownOff hg6 (fun g e => by cases e; exact HN4.out.off (by omega)), HL5.out.2⟩; have HX6 := Lib.hid (HX5.out.grown hg6 (by simp; omega)); have HB6 := Lib.hid (below_row HB5.out hg6 (Nat.le_refl _) HB5.out.size); clear hca hv6 hg6)
      | (go_at_call 15; refine (rvlist_any lv l N w6 HL6.out (by omega) (by omega)).mono ?_; rintro e w7 ⟨rfl, hb7⟩; rw [hok]; have HV7 := Lib.hid (HV6.out.call hb7); have HW7 := Lib.hid (HW6.out.call hb7); have HL7 : Hid (IntsV w7 lv l) := Lib.hid ⟨HL6.out.1.below hb7, HL6.out.2⟩; have HX7 := Lib.hid (HX6.out.call hb7); have HB7 := Lib.hid (HB6.out.trans (hb7.mono HB6.out.size)); clear hb7)
      | (go_at_call 9; refine (votes_any (w.heap.size + 1) w.heap.size vs w7 HV7.out).mono ?_; rintro e w9 ⟨v9, rfl, ho9, hb9⟩; have HO9 := Lib.hid (ho9.elV voOK); have HV9 := Lib.hid (HV7.out.call hb9); have HW9 := Lib.hid (HW7.out.call hb9); have HB9 := Lib.hid (HB7.out.trans (hb9.mono HB7.out.size)); clear ho9 hb9)
      | (go_at_call 17; refine (svotes_yes _ _ vs w9 HO9.out HW9.out (by rw [HVN.out]; omega)).mono ?_; rintro e w10 ⟨rfl, hb10⟩; have HV10 := Lib.hid (HV9.out.call hb10); have HW10 := Lib.hid (HW9.out.call hb10); have HB10 := Lib.hid (HB9.out.trans (hb10.mono HB9.out.size)); clear hb10))
      go_loopw [17] (fun i wy => ∃ j : Nat, j ≤ 4 ∧ i = .int .i64 j ∧ VtI wy (w.heap.size + 1) w.heap.size vs ∧ VotesV wy V7 vs ∧ Below w.heap.size w wy) (fun i _ => 4 - (intOf i).toNat)
      case atStart => exact ⟨0, Nat.zero_le _, rfl, HV10.out, HW10.out, HB10.out⟩
      case round =>
        obtain ⟨j, hj, rfl, hvj, hwj, hbj⟩ := hrel
        have HVJ := Lib.hid hvj
        have HWJ := Lib.hid hwj
        have HBJ := Lib.hid hbj
        clear hvj hwj hbj
        by_cases hj4 : j < 4
        case neg =>
          obtain rfl : j = 4 := by omega
          go_wp2_with fail
          go_roundw
          case rel => exact ⟨k + 1, by omega, by go_num, vs, HVN.out, HVJ.out, HWJ.out, HNW.out, HBJ.out⟩
          case measure => simp [intOf]; omega
        have hj4' : (j : Int) < 4 := by omega
        go_wp2_with (first
          | (go_at_call 12; refine (HRS.out _ _).mono ?_; rintro e w11 ⟨⟨r2, hr2, rfl⟩, hb11⟩; obtain ⟨X2, hX2⟩ : ∃ X2, Hid ((bytesL r2).toArray = X2) := ⟨_, Lib.hid rfl⟩; rw [hX2.out]; have HR2 := Lib.hid hr2; have HV11 := Lib.hid (HVJ.out.call hb11); have HW11 := Lib.hid (HWJ.out.call hb11); have HB11 := Lib.hid (HBJ.out.trans (hb11.mono HBJ.out.size)); clear hr2 hb11)
          | (go_at_call 18; have hsu := supported_yes (w.heap.size + 1) w.heap.size vs V7 r2 w11 HV11.out HW11.out HR2.out; rw [hX2.out] at hsu; refine hsu.mono ?_; rintro e w12 ⟨rfl, hb12⟩; have HV12 := Lib.hid (HV11.out.call hb12); have HW12 := Lib.hid (HW11.out.call hb12); have HB12 := Lib.hid (HB11.out.trans (hb12.mono HB11.out.size)); clear hsu hb12))
        go_roundw
        case rel => exact ⟨j + 1, by omega, by go_num, HV12.out, HW12.out, HB12.out⟩
        case measure => simp [intOf]; omega
end Go.Proofs.Ytoebkgjlehhbpaa
