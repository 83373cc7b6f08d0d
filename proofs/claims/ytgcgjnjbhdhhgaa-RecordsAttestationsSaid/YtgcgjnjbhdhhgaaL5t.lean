/- The walk of RecordsAttestations. -/
import Derived.Test.YtgcgjnjbhdhhgaaRcC
import Derived.Test.YtgcgjnjbhdhhgaaRcQ
import Derived.Test.YtgcgjnjbhdhhgaaRcW
set_option linter.unusedVariables false
namespace Go.Proofs.Ytgcgjnjbhdhhgaa
open Go.RowKit

set_option maxHeartbeats 1000000 in
theorem small_any (v1 v2 : Value) (l1 l2 : List Int) (w : World) (h1 : IntsV w v1 l1) (h2 : IntsV w v2 l2) :
    Calls Try.prog 16 #[v1, v2] w fun e w' => e = .returned (.bool (decide (l1.length ≤ 300 ∧ l2.length ≤ 300))) ∧ w = w' := by
  obtain ⟨⟨a1, n1, k1, rfl, hl1, hm1, _⟩, _⟩ := h1
  obtain ⟨⟨a2, n2, k2, rfl, hl2, hm2, _⟩, _⟩ := h2
  rw [hl1, hl2]
  unfold maxLen at hm1 hm2
  clear hl1 hl2
  by_cases ha : n1 ≤ 300
  · by_cases hb : n2 ≤ 300
    · rw [decide_eq_true ⟨ha, hb⟩]
      go_enter Try.func16, Try.ntmps16
      go_wp2_with fail
      go_ret
      exact ⟨by show Ending.returned (.bool (decide ((n2 : Int) ≤ 300))) = _; rw [decide_eq_true (by omega)], rfl⟩
    · rw [decide_eq_false (fun h => hb h.2)]
      have hb' : 300 < n2 := by omega
      go_enter Try.func16, Try.ntmps16
      go_wp2_with fail
      go_ret
      exact ⟨by show Ending.returned (.bool (decide ((n2 : Int) ≤ 300))) = _; rw [decide_eq_false (by omega)], rfl⟩
  · rw [decide_eq_false (fun h => ha h.1)]
    have ha' : 300 < n1 := by omega
    go_enter Try.func16, Try.ntmps16
    go_wp2_with fail
    go_ret
    exact ⟨rfl, rfl⟩

theorem intsV_nil (w : World) : IntsV w (.slice none 0 0) [] := ⟨⟨none, 0, 0, rfl, rfl, Nat.zero_le _, .inl rfl⟩, by simp⟩

set_option maxRecDepth 100000 in
set_option maxHeartbeats 8000000 in
theorem att_walk (s : Int) (r : List Int) (c : CpD) (lv : Value) (l : List Int) (w : World) (hs : 0 ≤ s ∧ s ≤ 18446744073709551615) (hr : IsBytes 32 r) (hc : c.ok) (hI : IntsV w lv l) :
    Calls Try.prog 5 #[.agg (flatP [[.int .u64 s], bytesL r, c.cells, [lv]])] w fun e w' => e = .returned (.bool true) ∧ Below w.heap.size w w' := by
  obtain ⟨lva, lvl, lvc, rfl⟩ := ints_shape hI.1
  have h32 := bytesL_len hr
  have h33 := CpD.len hc
  obtain ⟨ps, hps⟩ : ∃ ps, ps = [[Value.int .u64 s], bytesL r, c.cells, [Value.slice lva lvl lvc]] := ⟨_, rfl⟩
  have o3 : Hid (offP ps 3 = 66) := by show _ = _; rw [hps]; simp [offP, h32, h33]
  have q3 : Hid (ps[3]? = some [Value.slice lva lvl lvc]) := by show _ = _; rw [hps]; rfl
  have hX0 : (flatP ps).size = 67 := by rw [flatP_size, hps]; simp [h32, h33]
  have DE := fun u h => eatt_any s r c (.slice lva lvl lvc) l u hs hr hc h
  have DR := fun u h => reatt_any s r c (.slice lva lvl lvc) l u hs hr hc h
  have DS := fun v u h1 h2 => satt_any s r c (.slice lva lvl lvc) v l u hs hr hc h1 h2
  rw [← hps] at DE DR DS ⊢
  have HPS := Lib.hid hps; clear hps
  obtain ⟨X, HX⟩ : ∃ X, Hid (flatP ps = X) := ⟨_, rfl⟩
  rw [HX.out] at hX0 DE DR DS ⊢
  have B0 : Hid (Blk (w.alloc (.cells X 45)) w.heap.size (flatP ps)) := Blk.to (Blk.new rfl) HX.out.symm
  have B0X : Hid (Blk (w.alloc (.cells X 45)) w.heap.size X) := Blk.new rfl
  have hba := (Below.refl w.heap.size w).alloc (Nat.le_refl _) (.cells X 45)
  have HIU := Lib.hid (fun u (hu : Below w.heap.size w u) => hI.below hu)
  have DSm := Lib.hid (small_any (.slice lva lvl lvc) (.slice none 0 0) l [] _ (hI.below hba) (intsV_nil _))
  have HDE := Lib.hid DE; clear DE
  have HDR := Lib.hid DR; clear DR
  have HDS := Lib.hid DS; clear DS
  have DA := Lib.hid awake5
  have HBA := Lib.hid hba; clear hba
  have hiX : (Try.prog.info? 45).map (·.size) = some X.size := by rw [hX0]; kernel_rfl
  have HIX := Lib.hid hiX; clear hiX
  have HC := Lib.hid (⟨hs, hr, hc⟩ : (0 ≤ s ∧ s ≤ 18446744073709551615) ∧ IsBytes 32 r ∧ c.ok)
  clear hI hs hr hc
  by_cases h300 : l.length ≤ 300
  case neg =>
    have hd : decide (l.length ≤ 300 ∧ ([] : List Int).length ≤ 300) = false := decide_eq_false (fun h => h300 h.1)
    rw [hd] at DSm
    clear hd
    go_enter Try.func5, Try.ntmps5
    go_wp2_with (first
      | ((with_reducible refine at_load (.tmp 10) ?_); refine wpList_load_1 22 (.tmp 10) rfl w.heap.size 66 (.slice lva lvl lvc) (B0.out.cellAt q3.out o3.out) rfl _ Try.underlying22 rfl rfl ?_)
      | (go_at_call 16; refine DSm.out.mono ?_; rintro e u0 ⟨rfl, rfl⟩)
      | (go_at_call 10; refine (DA.out _).mono ?_; rintro e u1 ⟨rfl, hb1⟩))
    go_ret
    exact ⟨rfl, HBA.out.trans (hb1.mono HBA.out.size)⟩
  have hd : decide (l.length ≤ 300 ∧ ([] : List Int).length ≤ 300) = true := decide_eq_true ⟨h300, by simp⟩
  rw [hd] at DSm
  clear hd
  have hlb : l.length ≤ 1000000000 := by omega
  have D1 := Lib.hid (HDE.out _ (HIU.out _ HBA.out) hlb); clear HDE
  have D2 : Hid (∀ u, Below w.heap.size w u → _) := fun u hu => HDR.out u (HIU.out u hu) hlb
  clear HDR
  obtain ⟨ys, HYS⟩ : ∃ ys, Hid (uenc s.toNat ++ (r ++ (c.enc ++ lenc l)) = ys) := ⟨_, rfl⟩
  rw [HYS.out] at D1 D2
  have HE0 : Hid (vlE l 1024 = 0 → vlE l 1024 = 0) := id
  obtain ⟨E, HE⟩ : ∃ E, Hid (vlE l 1024 = E) := ⟨_, rfl⟩
  rw [HE.out] at D1 D2
  obtain ⟨zs, HZS⟩ : ∃ zs, Hid ((if E = 0 then ys else []) = zs) := ⟨_, rfl⟩
  unfold EncR at D1 D2
  rw [HZS.out] at D1 D2
  obtain ⟨St, HST⟩ : ∃ St, Hid (strOfNums zs = St) := ⟨_, rfl⟩
  have H300 := Lib.hid h300; clear h300
  have hEE : (E != E) = false := by simp
  by_cases hE0 : E = 0
  case neg =>
    have hne : (E != 0) = true := by simpa using hE0
    clear hE0
    go_enter Try.func5, Try.ntmps5
    go_wp2_with (first
      | ((with_reducible refine at_load (.tmp 10) ?_); refine wpList_load_1 22 (.tmp 10) rfl w.heap.size 66 (.slice lva lvl lvc) (B0.out.cellAt q3.out o3.out) rfl _ Try.underlying22 rfl rfl ?_)
      | (go_at_call 16; refine DSm.out.mono ?_; rintro e u0 ⟨rfl, rfl⟩)
      | ((with_reducible refine at_load (.tmp 1) ?_); refine wpList_load_g 45 (.tmp 1) rfl w.heap.size rfl X _ K3.out Try.underlying45 rfl HIX.out rfl ?_)
      | ((with_reducible refine at_load (.tmp 1) ?_); refine wpList_load_g 45 (.tmp 1) rfl w.heap.size rfl X _ K1.out Try.underlying45 rfl HIX.out rfl ?_)
      | ((with_reducible refine at_load (.tmp 1) ?_); refine wpList_load_g 45 (.tmp 1) rfl w.heap.size rfl X _ B0X.out Try.underlying45 rfl HIX.out rfl ?_)
      | (go_at_call 17; refine D1.out.mono ?_; rintro e w1 ⟨v1, rfl, hy1, hb1⟩; have HY1 := Lib.hid hy1; have K1 := Lib.hid (B0X.out.call hb1); have HB1 := Lib.hid (HBA.out.trans (hb1.mono HBA.out.size)); clear hy1 hb1)
      | (go_at_call 18; refine (D2.out _ HB1.out).mono ?_; rintro e w2 ⟨v2, rfl, hy2, hb2⟩; have hc1 := conv_any (HY1.out.below hb2); have hc2 := conv_any hy2; rw [HST.out] at hc1 hc2; have HY2 := Lib.hid (HY1.out.below hb2); have K2 := Lib.hid (K1.out.call hb2); have HB2 := Lib.hid (HB1.out.trans (hb2.mono HB1.out.size)); clear hy2 hb2)
      | (go_at_call 10; refine (DA.out _).mono ?_; rintro e u1 ⟨rfl, hb4⟩))
    go_ret
    exact ⟨rfl, HB2.out.trans (hb4.mono HB2.out.size)⟩
  subst hE0
  rw [if_pos rfl] at HZS
  have HV := Lib.hid HE.out; clear HE HE0
  have hbk := at_back HC.out.1 HC.out.2.1 HC.out.2.2 HV.out (by have := H300.out; omega) []
  have hlen := att_len HC.out.1 HC.out.2.1 HC.out.2.2 HV.out (by have := H300.out; omega)
  rw [List.append_nil, HYS.out, HZS.out] at hbk
  rw [HYS.out, HZS.out] at hlen
  obtain ⟨n, HN⟩ : ∃ n, Hid (zs.length = n) := ⟨_, rfl⟩
  have D3 : Hid (∀ v u, Byt u v zs → Calls Try.prog 19 #[v] u fun en u' => ∃ y, en = .returned (.tuple #[.agg (flatP [[.int .u64 s], bytesL r, c.cells, [y]]), .int .i64 n, .int .i64 0]) ∧ IntsV u' y l ∧ Below u.heap.size u u') := fun v u h => by
    refine (datt_ok v zs u h (by omega) (by rw [hbk.1]) (by rw [hbk.2.1]; exact HV.out)).mono ?_
    rintro en u' ⟨y, he, hi, hb⟩
    refine ⟨y, ?_, ⟨by rw [hbk.2.1] at hi; exact hi, (HIU.out _ (Below.refl _ _)).2⟩, hb⟩
    rw [he, hbk.1, hbk.2.2, HN.out]
    simp only [List.length_nil, AtD.parts]
    simp
  have HLEN : Hid (∀ a l c, ∀ u, Byt u (.slice a l c) zs → l = n) := fun a l c u h => by
    obtain ⟨_, _, _, e, hl, _⟩ := h.ints
    cases e
    rw [← HN.out, hl]
  have hn1 : n ≤ 10340 := by rw [← HN.out]; exact hlen
  clear hbk hlen
  have hZ0 : (flatP zAt.parts).size = 67 := rfl
  obtain ⟨Z, hZ⟩ : ∃ Z, Z = flatP zAt.parts := ⟨_, rfl⟩
  rw [← hZ] at hZ0
  obtain ⟨hzz, hst⟩ := zero_array (P := Try.prog) (t := 45) (n := 67) Z (by rw [hZ]; kernel_rfl) hZ0 (by rw [hZ]; kernel_rfl)
  clear hZ
  have HSZ : Hid (∀ y : Value, y.oneCell' = true → (flatP [[Value.int .u64 s], bytesL r, c.cells, [y]]).size = 67 ∧ ∀ v ∈ flatP [[Value.int .u64 s], bytesL r, c.cells, [y]], v.oneCell' = true) := fun y hy => by
    refine ⟨by rw [flatP_size]; simp [bytesL_len HC.out.2.1, CpD.len HC.out.2.2], flatP_one fun p hp v hv => ?_⟩
    simp only [List.mem_cons, List.not_mem_nil, or_false] at hp
    rcases hp with rfl | rfl | rfl | rfl
    · rw [List.mem_singleton.1 hv]; rfl
    · exact bytesL_one _ v hv
    · exact CpD.one _ v hv
    · rw [List.mem_singleton.1 hv]; exact hy
  go_enter Try.func5, Try.ntmps5
  go_wp2_with (first
    | ((with_reducible refine at_load (.tmp 10) ?_); refine wpList_load_1 22 (.tmp 10) rfl w.heap.size 66 (.slice lva lvl lvc) (B0.out.cellAt q3.out o3.out) rfl _ Try.underlying22 rfl rfl ?_)
    | (go_at_call 16; refine DSm.out.mono ?_; rintro e u0 ⟨rfl, rfl⟩)
    | ((with_reducible refine at_load (.tmp 1) ?_); refine wpList_load_g 45 (.tmp 1) rfl w.heap.size rfl X _ K3.out Try.underlying45 rfl HIX.out rfl ?_)
    | ((with_reducible refine at_load (.tmp 1) ?_); refine wpList_load_g 45 (.tmp 1) rfl w.heap.size rfl X _ K1.out Try.underlying45 rfl HIX.out rfl ?_)
    | ((with_reducible refine at_load (.tmp 1) ?_); refine wpList_load_g 45 (.tmp 1) rfl w.heap.size rfl X _ B0X.out Try.underlying45 rfl HIX.out rfl ?_)
    | (go_at_call 17; refine D1.out.mono ?_; rintro e w1 ⟨v1, rfl, hy1, hb1⟩; obtain ⟨va1, vl1, vc1, rfl⟩ := hy1.shape; obtain rfl : vl1 = n := HLEN.out _ _ _ _ hy1; have HY1 := Lib.hid hy1; have K1 := Lib.hid (B0X.out.call hb1); have HB1 := Lib.hid (HBA.out.trans (hb1.mono HBA.out.size)); clear hy1 hb1)
    | (go_at_call 18; refine (D2.out _ HB1.out).mono ?_; rintro e w2 ⟨v2, rfl, hy2, hb2⟩; have hc1 := conv_any (HY1.out.below hb2); have hc2 := conv_any hy2; rw [HST.out] at hc1 hc2; have HY2 := Lib.hid (HY1.out.below hb2); have K2 := Lib.hid (K1.out.call hb2); have HB2 := Lib.hid (HB1.out.trans (hb2.mono HB1.out.size)); clear hy2 hb2)
    | (go_at_call 19; refine (D3.out _ _ HY2.out).mono ?_; rintro e w3 ⟨y, rfl, hi3, hb3⟩; obtain ⟨ya, yl, yc, rfl⟩ := ints_shape hi3.1; obtain ⟨Y, HYY⟩ : ∃ Y, Hid (flatP [[Value.int .u64 s], bytesL r, c.cells, [.slice ya yl yc]] = Y) := ⟨_, rfl⟩; rw [HYY.out]; have HI3 := Lib.hid hi3; have K2' := Lib.hid (K2.out.call hb3); have HB3 := Lib.hid (HB2.out.trans (hb3.mono HB2.out.size)); clear hi3 hb3; have hY0 := (HSZ.out (.slice ya yl yc) rfl); rw [HYY.out] at hY0; have HY0 := Lib.hid hY0; clear hY0)
    | ((with_reducible refine at_store (.tmp 7) ?_); refine wpList_store_blk rfl 45 (.tmp 7) _ rfl w3.heap.size Y rfl rfl Z (Blk.new rfl) (by rw [hZ0, HY0.out.1]) (by rw [HY0.out.1]; kernel_rfl) HY0.out.2 ?_; intro w4 U4 B4; have hb4 : Below w3.heap.size w3 w4 := U4.below ((Below.refl _ w3).alloc (Nat.le_refl _) _) (Nat.le_refl _); have K3 := Lib.hid (K2'.out.call hb4); have HB4 := Lib.hid (HB3.out.trans (hb4.mono HB3.out.size)); have HI4 := Lib.hid (HI3.out.below hb4); have BY4 := Lib.hid B4; clear U4 B4 hb4)
    | ((with_reducible refine at_load (.tmp 7) ?_); refine wpList_load_g 45 (.tmp 7) rfl w3.heap.size rfl Y _ BY4.out Try.underlying45 rfl (by rw [HY0.out.1]; kernel_rfl) rfl ?_)
    | (go_at_call 20; (have hds := HDS.out (.slice ya yl yc) _ (HIU.out _ HB4.out) HI4.out); rw [HYY.out] at hds; refine hds.mono ?_; rintro e w5 ⟨rfl, hb5⟩; have HB5 := Lib.hid (HB4.out.trans (hb5.mono HB4.out.size)); clear hb5 hds)
    | (go_at_call 10; refine (DA.out _).mono ?_; rintro e w6 ⟨rfl, hb6⟩; have HB6 := Lib.hid (HB5.out.trans (hb6.mono HB5.out.size)); clear hb6))
  go_ret
  exact ⟨rfl, HB6.out⟩

theorem walk_RecordsAttestations (a0 : AtD) (l0 : List Int) (w : World) (w0 : a0.ok) (u0 : IntsV w a0.v l0) :
    Calls Try.prog 5 #[.agg (flatP a0.parts)] w fun e w' => e = .returned (.bool true) ∧ Below w.heap.size w w' :=
  att_walk a0.slot a0.root a0.target a0.v l0 w w0.1 w0.2.1 w0.2.2 u0

end Go.Proofs.Ytgcgjnjbhdhhgaa
