/- BalancesRegisters. -/
import Derived.Test.YtdfemompijhohaaBkU
set_option linter.unusedVariables false
set_option linter.unusedSimpArgs false
namespace Go.Proofs.Ytdfemompijhohaa
open Go.RowKit Go.Maps
set_option maxRecDepth 100000

set_option maxHeartbeats 8000000 in
theorem walk_BalancesRegisters (a0 : Option Addr) (len0 cap0 : Nat) (z0 : List Int) (a1 a2 : Int) (w : World) (w0 : IsRow .i64 w a0 len0 cap0 z0) (w1 : (Lit.int .i64 a1).wf = true) (w2 : (Lit.int .i64 a2).wf = true) :
    Calls Try.prog 5 #[.slice a0 len0 cap0, .int .i64 a1, .int .i64 a2] w fun e w' => e = .returned (.bool true) ∧ Below w.heap.size w w' := by
  have HROW := Lib.hid w0.ints.1
  have hmx : len0 ≤ maxLen := by obtain ⟨a, n, c, e, _, hm, _⟩ := HROW.out; cases e; exact hm
  unfold maxLen at hmx
  clear w0 w1 w2
  obtain ⟨N, hN3, hN⟩ := i64_and3_nat a1
  obtain ⟨M, hM3, hM⟩ := i64_and3_nat a2
  have HA := Lib.hid awake7_any
  have HNB := Lib.hid (newb_ok N (1 + M) w (by omega) (by omega) (by omega) (by omega))
  obtain ⟨Z, hZ⟩ : ∃ Z, flatP [zeC.cells, [nilS]] = Z := ⟨_, rfl⟩
  have hsz : Z.size = 34 := by rw [← hZ]; rfl
  obtain ⟨hz34, hst⟩ := zero_array (P := Try.prog) (t := 29) (n := 34) Z (by rw [← hZ]; kernel_rfl) hsz (by rw [← hZ]; kernel_rfl)
  clear hst hZ
  go_enter Try.func5, Try.ntmps5
  go_wp2_with (first
    | (go_at_call 10; refine HNB.out.mono ?_; rintro e w1 ⟨rfl, hk1, hb1⟩; have HI0 : Hid (RegI w (w.heap.size + 1) w.heap.size N (1 + M) nilS w1) := ⟨[], [], tabsC_nil _, hk1, Match.nil, by simp; omega, hb1⟩; clear hk1 hb1))
  go_loopw [9, 10] (fun v i wr => ∃ k : Nat, k ≤ 12 ∧ i = .int .i64 k ∧ RegI w (w.heap.size + 1) w.heap.size N (1 + M) v wr) (fun _ i _ => 12 - (intOf i).toNat)
  case atStart => exact ⟨0, Nat.zero_le _, rfl, HI0.out⟩
  case round =>
    obtain ⟨k, hk, rfl, E, ds, hT, hB, hMa, hL, hBl⟩ := hrel
    have HT := Lib.hid hT
    have HB := Lib.hid hB
    have HMA := Lib.hid hMa
    have HL := Lib.hid hL
    have HBL := Lib.hid hBl
    have HNM := Lib.hid (And.intro hN3 hM3)
    clear HI0 hT hB hMa hL hBl
    by_cases h12 : k < 12
    case neg =>
      obtain rfl : k = 12 := by omega
      by_cases hlen : (12 : Int) < (len0 : Int)
      · go_wp2_with (go_at_call 7; refine (HA.out _).mono ?_; rintro e w9 ⟨rfl, hb9⟩; have HB9 := Lib.hid (HBL.out.trans (hb9.mono HBL.out.size)); clear hb9)
        go_ret
        exact ⟨rfl, HB9.out⟩
      · go_wp2_with (go_at_call 7; refine (HA.out _).mono ?_; rintro e w9 ⟨rfl, hb9⟩; have HB9 := Lib.hid (HBL.out.trans (hb9.mono HBL.out.size)); clear hb9)
        go_ret
        exact ⟨rfl, HB9.out⟩
    by_cases hlen : k < len0
    case neg =>
      have hlen' : ¬ (k : Int) < (len0 : Int) := by omega
      go_wp2_with (go_at_call 7; refine (HA.out _).mono ?_; rintro e w9 ⟨rfl, hb9⟩; have HB9 := Lib.hid (HBL.out.trans (hb9.mono HBL.out.size)); clear hb9)
      go_ret
      exact ⟨rfl, HB9.out⟩
    have hlen' : (k : Int) < (len0 : Int) := by omega
    have h12' : (k : Int) < 12 := by omega
    obtain ⟨rb, ro, x, rfl, hcx⟩ : ∃ rb ro x, a0 = some ⟨rb, ro, none⟩ ∧ wr.cell? ⟨rb, ro + k, none⟩ = some (.int .i64 x) := by
      obtain ⟨a, n, c, e, _, _, hr⟩ := HROW.out.below HBL.out
      cases e
      rcases hr with h0 | ⟨b, off, rfl, _, hc⟩
      · omega
      · exact ⟨b, off, _, rfl, hc k hlen⟩
    have HCX := Lib.hid hcx
    obtain ⟨va, vc, rfl, _, _⟩ := HT.out.2
    obtain ⟨m, hm⟩ : ∃ m, ds.length = m := ⟨_, rfl⟩
    have hEm : E.length = m := HMA.out.len.trans hm
    have hm4 : m ≤ 4 := by have := HL.out; omega
    have hmL : (m : Int) ≤ 1 + M := by have := HL.out; omega
    rw [hm] at HT ⊢
    clear hcx
    obtain ⟨K, hK⟩ : ∃ K, bits .and .i64 x 16777215 = K := ⟨_, rfl⟩
    obtain ⟨q, hq⟩ : ∃ q : Bool, (bits .and .i64 (K / 1048576) 3 == 3) = q := ⟨_, rfl⟩
    cases q
    case true =>
      obtain ⟨ep, hep⟩ : ∃ ep, IntKind.u64.wrap (bits .and .i64 K 3) = ep := ⟨_, rfl⟩
      obtain ⟨m', hm'⟩ : ∃ m', (dropE ep E).length = m' := ⟨_, rfl⟩
      have HMD := Lib.hid (HMA.out.drop ep)
      have HDL : Hid ((dropT ep ds).length = m') := HMD.out.len.symm.trans hm'
      have hle : m' ≤ m := by rw [← hm', ← hEm]; exact List.length_filter_le _ _
      have hss : ((m : Int) - m' != (m : Int) - m') = false := by simp
      have HDT := Lib.hid (dropt_any (.slice va m vc) ds ep wr HT.out.1 (by omega))
      have HDB := Lib.hid (fun u hu => drop_any (w.heap.size + 1) w.heap.size N (1 + M) E ep u hu (by omega))
      have HME := Lib.hid (And.intro hEm hm')
      clear hEm hm hm'
      go_wp2_with (first
        | ((with_reducible refine at_load (.tmp 45) ?_); refine wpList_load_1 3 (.tmp 45) rfl rb (ro + k) (.int .i64 x) HCX.out rfl _ Try.underlying3 rfl rfl ?_)
        | (go_at_call 13; refine HDT.out.mono ?_; rintro e w3 ⟨⟨v3, rfl, hv3⟩, hb3⟩; obtain ⟨va3, vc3, rfl, _, _⟩ := hv3.2; rw [HDL.out] at hv3 ⊢; have HV3 := Lib.hid hv3; have HB3 := Lib.hid (HB.out.call hb3); have HBL3 := Lib.hid (HBL.out.trans (hb3.mono HBL.out.size)); clear hv3 hb3)
        | (go_at_call 14; refine (HDB.out _ HB3.out).mono ?_; rintro e w4 ⟨rfl, hk4, hg4⟩; rw [HME.out.1, HME.out.2]; have HV4 := Lib.hid (HV3.out.keptMap HB3.out.map hg4); have HB4 := Lib.hid hk4; have HBL4 := Lib.hid (below_mapped HBL3.out hg4 (Nat.le_refl _) HBL3.out.size); clear hk4 hg4)
        | (go_at_call 18; refine (same_any _ _ N (1 + M) _ _ _ _ HB4.out HV4.out HMD.out HNM.out.1 (by rw [HME.out.2]; omega)).mono ?_; rintro e w5 ⟨rfl, hb5⟩; have HV5 := Lib.hid (HV4.out.below hb5); have HB5 := Lib.hid (HB4.out.call hb5); have HBL5 := Lib.hid (HBL4.out.trans (hb5.mono HBL4.out.size)); clear hb5))
      go_roundw
      case rel => exact ⟨k + 1, by omega, by go_num, dropE ep E, dropT ep ds, HV5.out, HB5.out, HMD.out, by rw [HME.out.2]; omega, HBL5.out⟩
      case measure => simp [intOf]; omega
    case false =>
      have HTB := Lib.hid (table_any K N wr HNM.out.1)
      have HDM : Hid (ds.length ≤ 1000) := by show _ ≤ _; omega
      clear hEm hm
      go_wp2_with (first
        | ((with_reducible refine at_load (.tmp 45) ?_); refine wpList_load_1 3 (.tmp 45) rfl rb (ro + k) (.int .i64 x) HCX.out rfl _ Try.underlying3 rfl rfl ?_)
        | (go_at_call 15; refine HTB.out.mono ?_; rintro e w3 ⟨⟨c, l, ta, tm, hc, hl4, rfl, hn3⟩, hb3⟩; have HC := Lib.hid hc; have HN3 := Lib.hid hn3; have HL4 := Lib.hid hl4; have HT3 := Lib.hid (HT.out.below hb3); have HB3 := Lib.hid (HB.out.call hb3); have HBL3 := Lib.hid (HBL.out.trans (hb3.mono HBL.out.size)); have HYS0 := Lib.hid (tabOff hc (.slice ta l.length tm)).2.2; have HON0 : Hid (∀ v ∈ flatP [c.cells, [.slice ta l.length tm]], v.oneCell' = true) := tab_one; obtain ⟨Y, hY⟩ : ∃ Y, Hid (flatP [c.cells, [.slice ta l.length tm]] = Y) := ⟨_, Lib.hid rfl⟩; rw [hY.out] at HYS0 HON0 ⊢; obtain ⟨er, her⟩ : ∃ er, Hid (rrE N (1 + M) ds c l = er) := ⟨_, Lib.hid rfl⟩; have hne : (er != er) = false := (by simp); clear hc hl4 hn3 hb3)
        | ((with_reducible refine at_store (.tmp 13) ?_); refine wpList_store_blk rfl 29 (.tmp 13) _ rfl w3.heap.size Y rfl rfl Z (Blk.new rfl) (by rw [hsz, HYS0.out]) (by rw [HYS0.out]; kernel_rfl) (fun v hv => HON0.out v hv) ?_; intro w4 U4 B4; have hb34 := U4.below ((Below.refl w3.heap.size w3).alloc (Nat.le_refl _) (.cells Z 29)) (Nat.le_refl _); have HY4 := Lib.hid B4; have HV4 := Lib.hid (HT3.out.below hb34); have HB4 := Lib.hid (HB3.out.call hb34); have HN4 := Lib.hid (HN3.out.below hb34); have HBL4 := Lib.hid (HBL3.out.trans (hb34.mono HBL3.out.size)); clear hb34 U4 B4)
        | ((with_reducible refine at_load (.tmp 13) ?_); refine wpList_load_blk rfl 29 (.tmp 13) rfl w3.heap.size rfl Y _ HY5.out Try.underlying29 rfl (by rw [HYS0.out]; kernel_rfl) ?_)
        | ((with_reducible refine at_load (.tmp 13) ?_); refine wpList_load_blk rfl 29 (.tmp 13) rfl w3.heap.size rfl Y _ HY4.out Try.underlying29 rfl (by rw [HYS0.out]; kernel_rfl) ?_)
        | (go_at_call 16; have hrr := rreg_any (.slice va m vc) ds c (.slice ta l.length tm) l N (1 + M) w4 HV4.out HC.out HN4.out HDM.out (by have := HL4.out; omega); rw [hY.out] at hrr; refine hrr.mono ?_; rintro e w5 ⟨v5, ds5, rfl, hv5, hb5, hr5⟩; rw [her.out] at hr5 ⊢; have HR5 := Lib.hid hr5; have HV5 := Lib.hid hv5; have HY5 := Lib.hid (HY4.out.call hb5); have HB5 := Lib.hid (HB4.out.call hb5); have HN5 := Lib.hid (HN4.out.below hb5); have HBL5 := Lib.hid (HBL4.out.trans (hb5.mono HBL4.out.size)); clear hrr hr5 hv5 hb5)
        | (go_at_call 17; have hrg := reg_any (w.heap.size + 1) w.heap.size N (1 + M) E c (.slice ta l.length tm) l w5 HB5.out HC.out HN5.out (by have := HNM.out.1; omega) (by have := HNM.out.2; omega); rw [hY.out] at hrg; refine hrg.mono ?_; rintro e w6 ⟨rfl, hg6, h16, h26⟩; rw [reg_rr HMA.out, her.out] at h16 h26 ⊢; obtain ⟨E6, hB6, hM6, hL6⟩ := both_reg HMA.out HB5.out HC.out her.out HL.out HR5.out h16 h26; have HB6 := Lib.hid hB6; have HM6 := Lib.hid hM6; have HL6 := Lib.hid hL6; have HV6 := Lib.hid (HV5.out.keptMap HB5.out.map hg6); have HBL6 := Lib.hid (below_mapped HBL5.out hg6 (Nat.le_refl _) HBL5.out.size); clear hrg hg6 h16 h26 hB6 hM6 hL6)
        | (go_at_call 18; refine (same_any _ _ N (1 + M) _ _ _ _ HB6.out HV6.out HM6.out HNM.out.1 (by have h1 := HL6.out; have h2 := HNM.out.2; omega)).mono ?_; rintro e w7 ⟨rfl, hb7⟩; have HV7 := Lib.hid (HV6.out.below hb7); have HB7 := Lib.hid (HB6.out.call hb7); have HBL7 := Lib.hid (HBL6.out.trans (hb7.mono HBL6.out.size)); clear hb7))
      go_roundw
      case rel => exact ⟨k + 1, by omega, by go_num, E6, ds5, HV7.out, HB7.out, HM6.out, HL6.out, HBL7.out⟩
      case measure => simp [intOf]; omega

end Go.Proofs.Ytdfemompijhohaa
