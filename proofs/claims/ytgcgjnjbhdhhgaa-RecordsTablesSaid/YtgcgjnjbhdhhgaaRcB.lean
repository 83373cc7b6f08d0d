/- The reference's list, SameInts; equality of checkpoints. -/
import Derived.Test.YtgcgjnjbhdhhgaaRcE
import Derived.Test.YtgcgjnjbhdhhgaaCmp
import Derived.Deep.RegionHeld3
import Derived.IntWalk
set_option linter.unusedVariables false
namespace Go.Proofs.Ytgcgjnjbhdhhgaa
open Go.RowKit

set_option maxRecDepth 100000 in
set_option maxHeartbeats 4000000 in
theorem sints_any (v1 v2 : Value) (l : List Int) (w : World) (h1 : IntsV w v1 l) (h2 : IntsV w v2 l) :
    Calls Try.prog 59 #[v1, v2] w fun e w' => e = .returned (.bool true) ∧ Below w.heap.size w w' := by
  obtain ⟨⟨a1, len1, cap1, rfl, hl1, hm1, hr1⟩, _⟩ := h1
  obtain ⟨⟨a2, len2, cap2, rfl, hl2, hm2, hr2⟩, _⟩ := h2
  obtain rfl : len2 = len1 := by omega
  unfold maxLen at hm1
  clear hm2 hl1 hl2
  have H1 := Lib.hid hr1; clear hr1
  have H2 := Lib.hid hr2; clear hr2
  have hne : ((len2 : Int) != (len2 : Int)) = false := by simp
  go_enter Try.func59, Try.ntmps59
  go_wp2_with fail
  go_loopw [5] (fun i wr => ∃ k : Nat, k ≤ len2 ∧ i = .int .i64 k ∧ Below w.heap.size w wr) (fun i _ => len2 - (intOf i).toNat)
  case atStart => exact ⟨0, Nat.zero_le _, rfl, Below.refl _ _⟩
  case round =>
    obtain ⟨k, hk, rfl, hbl⟩ := hrel
    by_cases hlt : k < len2
    · rcases H1.out with h0 | ⟨b1, o1, rfl, hb1, hc1⟩
      · omega
      rcases H2.out with h0 | ⟨b2, o2, rfl, hb2, hc2⟩
      · omega
      have c1 : wr.cell? ⟨b1, o1 + k, none⟩ = some (.int .i64 (l.getD k 0)) := (hbl.cell (p := ⟨b1, o1 + k, none⟩) hb1).trans (hc1 k hlt)
      have c2 : wr.cell? ⟨b2, o2 + k, none⟩ = some (.int .i64 (l.getD k 0)) := (hbl.cell (p := ⟨b2, o2 + k, none⟩) hb2).trans (hc2 k hlt)
      have HBL := Lib.hid hbl; clear hbl hc1 hc2
      obtain ⟨x, HX⟩ : ∃ x, Hid (x = l.getD k 0) := ⟨_, rfl⟩
      rw [← HX.out] at c1 c2
      go_wp2_with fail
      go_quiet (fail)
      go_wp2_with fail
      go_roundw
      case rel => exact ⟨k + 1, by omega, by go_num, Below.drewN HBL.out⟩
      case measure => simp [intOf]; omega
    · go_wp2_with fail
      go_ret
      exact ⟨rfl, hbl⟩

def RLI (w : World) (B : Nat) (v : Value) (bs l : List Int) (b i : Value) (wr : World) : Prop :=
  ∃ k : Nat, k ≤ l.length ∧ i = .int .i64 k ∧ Own wr B b (bs ++ lencK l k) ∧ Below B w wr ∧ B ≤ wr.heap.size ∧ Grew w wr v b

set_option maxRecDepth 100000 in
set_option maxHeartbeats 4000000 in
theorem rlst_any (v lv : Value) (bs l : List Int) (w : World) (B : Nat) (h : Own w B v bs) (hB : B ≤ w.heap.size) (hI : ∀ u, Below B w u → IntsV u lv l) (hlB : ∀ x a c, lv = .slice (some x) a c → 0 < a → x.block < B) (hv : vlE l 1024 = 0) (hl0 : l.length ≤ 1000000000) (hb : bs.length ≤ 10000000000) :
    Calls Try.prog 56 #[v, lv] w (AppO w B v (bs ++ lenc l)) := by
  have H := Lib.hid h; clear h
  have HI := Lib.hid hI
  obtain ⟨⟨a, len, cap, rfl, hl, hm, _⟩, _⟩ := hI w (Below.refl _ _)
  have HLB := Lib.hid hlB; clear hlB
  have HV := Lib.hid hv; clear hv hI
  have hll : len ≤ 1000000000 := by omega
  have HLL := Lib.hid hl0; clear hl0 hm
  have HL := Lib.hid hl; clear hl
  have D0 := ruint_any v bs (len : Int) w B H.out hB (by omega) (by omega) (by omega)
  rw [Int.toNat_natCast] at D0
  have e0 : bs ++ uenc len = bs ++ lencK l 0 := by rw [← HL.out]; simp [lencK, seqK]
  rw [e0] at D0
  have HD0 := Lib.hid D0; clear D0 e0
  go_enter Try.func56, Try.ntmps56
  go_wp2_with (go_at_call 50; refine HD0.out.mono ?_; rintro e w1 ⟨v1, rfl, ho1, hb1, hg1⟩)
  go_loopw [0, 5] (fun b i wr => RLI w B v bs l b i wr) (fun _ i _ => len - (intOf i).toNat)
  case atStart => exact ⟨0, Nat.zero_le _, rfl, ho1, hb1, Nat.le_trans hB hb1.size, hg1⟩
  case round =>
    obtain ⟨k, hk, rfl, ho, hbl, hBr, hgr⟩ := hrel
    rw [HL.out] at hk
    have HO := Lib.hid ho; clear ho
    have HGR := Lib.hid hgr; clear hgr
    by_cases hlt : k < len
    · obtain ⟨⟨_, _, _, e', _, _, hr⟩, _⟩ := HI.out wr hbl
      cases e'
      rcases hr with hr | ⟨b, off, rfl, hbb, hc⟩
      · omega
      have hbB := HLB.out _ _ _ rfl (by omega)
      simp only at hbB
      have hcell := hc k hlt
      have hkl : k < l.length := by rw [HL.out]; exact hlt
      have hx := (vl_good HV.out).2 k hkl
      have hg := gap_good HV.out hkl
      have hln := lenc_len HV.out (k := k) (by rw [HL.out]; omega) HLL.out
      have D := fun b u h hB => ruint_any b (bs ++ lencK l k) (gap l k) u B h hB hg.1 (by omega) (by rw [List.length_append]; omega)
      rw [List.append_assoc, ← lencK_next] at D
      have HBL := Lib.hid hbl; clear hbl hln
      by_cases hk0 : 0 < k
      · have hcell1 := hc (k - 1) (by omega)
        have hgap : gap l k = l.getD k 0 - l.getD (k - 1) 0 - 1 := by unfold gap; rw [if_neg (by omega)]
        have hy := (vl_good HV.out).2 (k - 1) (by omega)
        rw [hgap] at D hg
        clear hc hgap
        obtain ⟨x, HX⟩ : ∃ x, Hid (x = l.getD k 0) := ⟨_, rfl⟩
        obtain ⟨y, HY⟩ : ∃ y, Hid (y = l.getD (k - 1) 0) := ⟨_, rfl⟩
        rw [← HX.out, ← HY.out] at D hg
        rw [← HX.out] at hcell
        rw [← HY.out] at hcell1
        have hx1 : 0 ≤ x ∧ x < 1024 := by rw [HX.out]; exact ⟨hx.1, hx.2.1⟩
        have hy1 : 0 ≤ y ∧ y < 1024 := by rw [HY.out]; exact ⟨hy.1, hy.2.1⟩
        clear hx hy
        have HD := Lib.hid D; clear D
        have HC0 := Lib.hid hcell
        have HC1 := Lib.hid hcell1
        have s0 : wr.drew.cell? ⟨b, off + k, none⟩ = some (.int .i64 x) := hcell
        have s1 : wr.drew.cell? ⟨b, off + (k - 1), none⟩ = some (.int .i64 y) := hcell1
        clear hcell hcell1
        have hk1 : (0 : Int) ≤ (k : Int) := by omega
        have hk2 : (k : Int) < (len : Int) := by omega
        have hk3 : (0 : Int) ≤ ((k - 1 : Nat) : Int) := by omega
        have hk4 : ((k - 1 : Nat) : Int) < (len : Int) := by omega
        have hkz : ((k : Int) == 0) = false := by simp; omega
        have HDR : Hid (Own wr.drew B u0 (bs ++ lencK l k)) := HO.out
        have e1 : IntKind.i64.wrap ((k : Int) - 1) = ((k - 1 : Nat) : Int) := by rw [show (k : Int) - 1 = ((k - 1 : Nat) : Int) by omega]; exact IntWalk.i64_in _ (by omega)
        have e2 : IntKind.i64.wrap (x - y) = x - y := IntWalk.i64_in _ (by omega)
        have e3 : IntKind.i64.wrap (x - y - 1) = x - y - 1 := IntWalk.i64_in _ (by omega)
        have e4 : IntKind.u64.wrap (x - y - 1) = x - y - 1 := by rw [IntKind.wrap_u64]; omega
        go_wp2_with fail
        go_region_held3 (fun u => u.cell? ⟨b, off + k, none⟩ = some (.int .i64 x) ∧ u.cell? ⟨b, off + (k - 1), none⟩ = some (.int .i64 y))
          (first | assumption | (constructor <;> assumption))
          ((go_at_call 50; refine (HD.out _ _ HDR.out hBr).mono ?_; rintro e w2 ⟨v2, rfl, ho2, hb2, hg2⟩
            have t0 := (hb2.cell (p := ⟨b, off + k, none⟩) hbB).trans s0
            have t1 := (hb2.cell (p := ⟨b, off + (k - 1), none⟩) hbB).trans s1
            have HO2 := Lib.hid ho2; clear ho2; have HB2' := Lib.hid ((Below.drewN (n := 1) (Below.refl B wr)).trans hb2); clear hb2; have HG2' := Lib.hid ((Grew.below u0 (Below.drewN (n := 1) (Below.refl _ wr))).trans hg2); clear hg2))
        clear e1 e2 e3 e4 s0 s1 t0 t1 HDR
        go_wp2_with fail
        go_roundw
        case rel => exact ⟨k + 1, by rw [HL.out]; omega, by go_num, HO2.out, HBL.out.trans (HB2'.out), Nat.le_trans hBr HB2'.out.size, HGR.out.trans HG2'.out⟩
        case measure => simp [intOf]; omega
      · obtain rfl : k = 0 := by omega
        have hgap : gap l 0 = l.getD 0 0 := rfl
        rw [hgap] at D hg
        rw [Nat.add_zero] at hcell
        clear hc hgap
        obtain ⟨x, HX⟩ : ∃ x, Hid (x = l.getD 0 0) := ⟨_, rfl⟩
        rw [← HX.out] at D hg hcell
        have hx1 : 0 ≤ x ∧ x < 1024 := by rw [HX.out]; exact ⟨hx.1, hx.2.1⟩
        clear hx
        have HD := Lib.hid D; clear D
        have hlen0 : 0 < len := hlt
        go_wp2_with (go_at_call 50; refine (HD.out _ _ HO.out hBr).mono ?_; rintro e w2 ⟨v2, rfl, ho2, hb2, hg2⟩; have HO2 := Lib.hid ho2; clear ho2; have HB2 := Lib.hid hb2; clear hb2; have HG2 := Lib.hid hg2; clear hg2)
        go_roundw
        case rel => exact ⟨1, by rw [HL.out]; omega, by go_num, HO2.out, HBL.out.trans HB2.out, Nat.le_trans hBr HB2.out.size, HGR.out.trans HG2.out⟩
        case measure => simp [intOf]; omega
    · obtain rfl : k = len := by omega
      go_wp2_with fail
      go_ret
      exact ⟨_, rfl, by unfold lenc; rw [HL.out]; exact HO.out, hbl, HGR.out⟩

end Go.Proofs.Ytgcgjnjbhdhhgaa
