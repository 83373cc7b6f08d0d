/- The code's encodings: what AppendRoot and AppendCheckpoint return is the caller's own; appendNumber, appendList. -/
import Derived.Test.YtgcgjnjbhdhhgaaRcV
import Derived.Test.YtgcgjnjbhdhhgaaCdG
set_option linter.unusedVariables false
namespace Go.Proofs.Ytgcgjnjbhdhhgaa
open Go.RowKit

theorem Own.mono {w : World} {B C : Nat} {v : Value} {xs : List Int} (h : Own w B v xs) (hC : C ≤ B) : Own w C v xs :=
  ⟨h.1, h.2.imp id fun ⟨g, cap, cur, e, hb, r⟩ => ⟨g, cap, cur, e, Nat.le_trans hC hb, r⟩⟩

/-- What was appended lies in a new row. -/
def AppN (w : World) (ys : List Int) (e : Ending) (w' : World) : Prop := ∃ v', e = .returned v' ∧ Own w' w.heap.size v' ys ∧ Below w.heap.size w w'

set_option maxHeartbeats 1000000 in
theorem aroot_own (v : Value) (bs : List Int) (xs : List Int) (w : World) (h : Byt w v bs) (hx : IsBytes 32 xs) (hb : bs.length ≤ 100000000000) :
    Calls Try.prog 38 #[v, .agg (bytesV xs)] w (AppN w (bs ++ xs)) := by
  obtain ⟨va, vl, vc, rfl⟩ := h.shape
  have HFL : Hid ([bs, xs].flatten.length ≤ 1000000000000) := by show _ ≤ _; simp [hx.1]; omega
  have hX0 : (bytesV xs).size = 32 := bytesV_size hx.1
  obtain ⟨X, HX⟩ : ∃ X, Hid (X = bytesV xs) := ⟨_, rfl⟩
  rw [← HX.out] at hX0 ⊢
  have P1 : Hid (Parts ((w.alloc (.cells X 29)).alloc (.cells #[.slice va vl vc, .slice (some ⟨w.heap.size, 0, none⟩) 32 32] 38)) (w.heap.size + 1) 2 #[.slice va vl vc, .slice (some ⟨w.heap.size, 0, none⟩) 32 32] [bs, xs]) :=
    parts2 (by simp) (h.alloc _) (byt_root hx (by rw [← HX.out]; exact Blk.new rfl))
  clear h
  go_enter Try.func38, Try.ntmps38
  go_wp2_with (go_at_call 77; refine (concat_own _ 2 _ [bs, xs] _ P1.out (by omega) HFL.out).mono ?_; rintro e w3 ⟨v3, rfl, hb3, hbl3⟩; have HB3 := Lib.hid hb3; clear hb3; have HBL3 := Lib.hid hbl3; clear hbl3)
  go_ret
  refine ⟨v3, rfl, ?_, ?_⟩
  · refine Own.mono (B := w.heap.size + 2) ?_ (by omega)
    simpa using HB3.out
  · exact (((Below.refl _ _).alloc (Nat.le_refl _) _).alloc (by simp) _).trans (HBL3.out.mono (by simp; omega))

set_option maxRecDepth 100000 in
set_option maxHeartbeats 4000000 in
theorem acheck_own (v : Value) (bs : List Int) (n : Int) (xs : List Int) (w : World) (h : Byt w v bs) (h0 : 0 ≤ n) (hn : n ≤ 18446744073709551615) (hx : IsBytes 32 xs) (hb : bs.length ≤ 10000000000) :
    Calls Try.prog 40 #[v, .agg (cpV n xs)] w (AppN w (bs ++ (uenc n.toNat ++ xs))) := by
  obtain ⟨va, vl, vc, rfl⟩ := h.shape
  have hX33 : (cpV n xs).size = 33 := cpV_size hx
  have hul := uenc_len10 (n := n.toNat) (by omega)
  have hlen2 : (bs ++ uenc n.toNat).length ≤ 100000000000 := by rw [List.length_append]; omega
  obtain ⟨X, HX⟩ : ∃ X, Hid (X = cpV n xs) := ⟨_, rfl⟩
  rw [← HX.out] at hX33 ⊢
  have hblk : Blk (w.alloc (.cells X 31)).drew w.heap.size X := (Blk.new rfl).drewN (n := 1)
  have hbl : Below w.heap.size w (w.alloc (.cells X 31)).drew := Below.drewN (n := 1) ((Below.refl w.heap.size w).alloc (Nat.le_refl _) _)
  have HD1 := Lib.hid (auint_any (.slice va vl vc) bs n _ (h.below hbl) h0 hn (by omega))
  have HBL := Lib.hid hbl; clear hbl
  have s0 : (w.alloc (.cells X 31)).drew.cell? ⟨w.heap.size, 0, none⟩ = some (.int .u64 n) := (cp_range (by rw [← HX.out]; exact hblk)).1
  have s1 : (w.alloc (.cells X 31)).drew.rangeAt w.heap.size 1 (xs.map (Value.int .u8)) := (cp_range (by rw [← HX.out]; exact hblk)).2
  have hBLT : w.heap.size < (w.alloc (.cells X 31)).drew.heap.size := by show _ < (w.alloc (.cells X 31)).heap.size; simp
  have HBK := Lib.hid hblk; clear hblk h
  have u25 : Try.prog.underlying 29 = some (.array 32 5) := Try.underlying29
  have i25 : (Try.prog.info? 29).map (·.size) = some (xs.map (Value.int .u8)).length := by rw [List.length_map, hx.1]; kernel_rfl
  have HXB := Lib.hid hx; clear hx
  obtain ⟨L, HL⟩ : ∃ L, xs.map (Value.int .u8) = L := ⟨_, rfl⟩
  have hLB : bytesV xs = L.toArray := by rw [← HL]; rfl
  have DR := fun v w h hb => aroot_own v (bs ++ uenc n.toNat) xs w h HXB.out hb
  rw [hLB] at DR
  have HDR := Lib.hid DR; clear DR hLB
  rw [HL] at s1 i25
  have HLE := Lib.hid HL; clear HL
  go_enter Try.func40, Try.ntmps40
  go_wp2_with fail
  go_region_held3 (fun u => u.cell? ⟨w.heap.size, 0, none⟩ = some (.int .u64 n) ∧ u.rangeAt w.heap.size 1 L)
    (first | assumption | (constructor <;> assumption))
    ((first
      | (go_at_call 37; refine HD1.out.mono ?_; rintro e w1 ⟨v1, rfl, hy1, hb1⟩
         obtain ⟨a1, l1, c1, rfl⟩ := hy1.shape
         have hr1 := cp_range (show Blk w1 w.heap.size (cpV n xs) from (HBK.out.call hb1).to HX.out)
         rw [HLE.out] at hr1
         have t0 := hr1.1
         have t1 := hr1.2
         have hss : (w1.cell? ⟨w.heap.size, 0, none⟩ = some (.int .u64 n) ∧ w1.rangeAt w.heap.size 1 L) := ⟨t0, t1⟩
         clear hr1
         have HBK1 := Lib.hid (HBK.out.call hb1)
         have HY1 := Lib.hid hy1; clear hy1
         have HB1 := Lib.hid hb1; clear hb1)
      | (go_at_call 38; refine (HDR.out _ _ HY1.out hlen2).mono ?_; rintro e w2 ⟨v2, rfl, hy2, hb2⟩
         have hr2 := cp_range (show Blk w2 w.heap.size (cpV n xs) from (HBK1.out.call hb2).to HX.out)
         rw [HLE.out] at hr2
         have hss2 : (w2.cell? ⟨w.heap.size, 0, none⟩ = some (.int .u64 n) ∧ w2.rangeAt w.heap.size 1 L) := hr2
         have t2 := hr2.1
         have t3 := hr2.2
         clear hr2
         have HY2 := Lib.hid hy2; clear hy2
         have HB2 := Lib.hid hb2; clear hb2)))
  go_wp2_with fail
  go_ret
  refine ⟨v2, rfl, by rw [← List.append_assoc]; exact HY2.out.mono (Nat.le_trans HBL.out.size HB1.out.size), ?_⟩
  exact (HBL.out.trans (HB1.out.mono (by have := HBL.out.size; omega))).trans (HB2.out.mono (by have := HBL.out.size; have := HB1.out.size; omega))

set_option maxHeartbeats 1000000 in
theorem anum_any (v : Value) (bs : List Int) (n : Int) (w : World) (B : Nat) (h : Own w B v bs) (hB : B ≤ w.heap.size) (h0 : 0 ≤ n) (hn : n ≤ 18446744073709551615) (hb : bs.length ≤ 100000000000) :
    Calls Try.prog 65 #[v, .int .u64 n] w (AppO w B v (bs ++ uenc n.toNat)) := by
  have H := Lib.hid h; clear h
  have h10 := uenc_len10 (n := n.toNat) (by omega)
  have HLEN : Hid (bs.length + (uenc n.toNat).length ≤ 140737488355328) := by show _ ≤ _; omega
  have D := fun w => auint_any (.slice none 0 0) [] n w (byt_nil _) h0 hn (by simp)
  rw [List.nil_append] at D
  have HD := Lib.hid D; clear D h10
  go_enter Try.func65, Try.ntmps65
  go_wp2_with (first
    | (go_at_call 37; refine (HD.out _).mono ?_; rintro e w1 ⟨v1, rfl, hy1, hb1⟩; obtain ⟨a1, l1, c1, rfl⟩ := hy1.shape; have HY1 := Lib.hid hy1; clear hy1; have HO1 := Lib.hid (H.out.call hb1); have hs1 := hb1.size; have HB1 := Lib.hid hb1; clear hb1)
    | ((with_reducible refine at_app _ _ ?_); refine wpList_appAt _ _ rfl rfl B _ _ rfl HO1.out _ _ rfl HY1.out HLEN.out (by omega) ?_; intro v2 w2 ho2 hg2 ha2))
  go_ret
  exact ⟨v2, rfl, ho2, Below.own (HB1.out.mono hB) hg2 HO1.out (Nat.le_refl _) (by omega), (Grew.below v HB1.out).trans (Grew.at hg2 ha2)⟩

def lst (l : List Int) (k : Nat) : Int := if k = 0 then 0 else l.getD (k - 1) 0 + 1
theorem gap_lst (l : List Int) (k : Nat) : gap l k = l.getD k 0 - lst l k := by
  unfold gap lst
  split
  · rename_i h; subst h; omega
  · omega
theorem lst_next (l : List Int) (k : Nat) : lst l (k + 1) = l.getD k 0 + 1 := by unfold lst; rw [if_neg (by omega)]; simp
theorem lst_rng {l : List Int} (h : vlE l 1024 = 0) {k : Nat} (hk : k < l.length) : 0 ≤ lst l k ∧ lst l k ≤ l.getD k 0 := by
  have h1 := (vl_good h).2 k hk
  unfold lst
  split
  · omega
  · rename_i h0
    have h2 := (vl_good h).2 (k - 1) (by omega)
    have := h1.2.2 (by omega)
    omega

theorem lenc_len {l : List Int} (h : vlE l 1024 = 0) {k : Nat} (hk : k ≤ l.length) (hl : l.length ≤ 1000000000) : (lencK l k).length ≤ 10 + 10 * k := by
  have h1 := uenc_len10 (n := l.length) (by omega)
  have h2 := seqK_len (f := gap l) (n := l.length) (fun i hi => by have := gap_good h hi; omega) k hk
  rw [lencK, List.length_append]; omega

/-- What stands at the loop's head of appendList. -/
def LI (w : World) (B : Nat) (v : Value) (bs l : List Int) (b m i : Value) (wr : World) : Prop :=
  ∃ k : Nat, k ≤ l.length ∧ i = .int .i64 k ∧ m = .int .i64 (lst l k) ∧ Own wr B b (bs ++ lencK l k) ∧ Below B w wr ∧ B ≤ wr.heap.size ∧ Grew w wr v b

set_option maxRecDepth 100000 in
set_option maxHeartbeats 4000000 in
theorem alist_any (v lv : Value) (bs l : List Int) (w : World) (B : Nat) (h : Own w B v bs) (hB : B ≤ w.heap.size) (hI : ∀ u, Below B w u → IntsV u lv l) (hv : vlE l 1024 = 0) (hl0 : l.length ≤ 1000000000) (hb : bs.length ≤ 10000000000) :
    Calls Try.prog 55 #[v, lv] w (AppO w B v (bs ++ lenc l)) := by
  have H := Lib.hid h; clear h
  have HI := Lib.hid hI
  obtain ⟨⟨a, len, cap, rfl, hl, hm, _⟩, _⟩ := hI w (Below.refl _ _)
  have HV := Lib.hid hv; clear hv hI
  have hll : len ≤ 1000000000 := by omega
  have HLL := Lib.hid hl0; clear hl0 hm
  have HL := Lib.hid hl; clear hl
  have D0 := anum_any v bs (len : Int) w B H.out hB (by omega) (by omega) (by omega)
  rw [Int.toNat_natCast] at D0
  have e0 : bs ++ uenc len = bs ++ lencK l 0 := by rw [← HL.out]; simp [lencK, seqK]
  rw [e0] at D0
  have HD0 := Lib.hid D0; clear D0 e0
  go_enter Try.func55, Try.ntmps55
  go_wp2_with (go_at_call 65; refine HD0.out.mono ?_; rintro e w1 ⟨v1, rfl, ho1, hb1, hg1⟩)
  go_loopw [0, 5, 15] (fun b m i wr => LI w B v bs l b m i wr) (fun _ _ i _ => len - (intOf i).toNat)
  case atStart => exact ⟨0, Nat.zero_le _, rfl, rfl, ho1, hb1, Nat.le_trans hB hb1.size, hg1⟩
  case round =>
    obtain ⟨k, hk, rfl, rfl, ho, hbl, hBr, hgr⟩ := hrel
    rw [HL.out] at hk
    have HO := Lib.hid ho; clear ho
    have HGR := Lib.hid hgr; clear hgr
    by_cases hlt : k < len
    · obtain ⟨⟨_, _, _, e', _, _, hr⟩, _⟩ := HI.out wr hbl
      cases e'
      rcases hr with hr | ⟨b, off, rfl, hbb, hc⟩
      · omega
      have hcell := hc k hlt
      clear hc
      have hkl : k < l.length := by rw [HL.out]; exact hlt
      have hx := (vl_good HV.out).2 k hkl
      have hy := lst_rng HV.out hkl
      have E1 : Hid (lst l (k + 1) = l.getD k 0 + 1) := lst_next l k
      have HKL := Lib.hid hkl; clear hkl
      have hln := lenc_len HV.out (k := k) (by rw [HL.out]; omega) HLL.out
      have D := fun b u h hB => anum_any b (bs ++ lencK l k) (gap l k) u B h hB (by rw [gap_lst]; omega) (by rw [gap_lst]; omega) (by rw [List.length_append]; omega)
      rw [List.append_assoc, ← lencK_next, gap_lst] at D
      have hbl1 := hbl
      have HBL := Lib.hid hbl; clear hbl hbl1 hln
      obtain ⟨x, HX⟩ : ∃ x, Hid (x = l.getD k 0) := ⟨_, rfl⟩
      obtain ⟨y, HY⟩ : ∃ y, Hid (y = lst l k) := ⟨_, rfl⟩
      rw [← HX.out, ← HY.out] at D
      rw [← HX.out] at hcell E1
      rw [← HX.out, ← HY.out] at hy
      have hx0 : 0 ≤ x := by omega
      have hx1 : x < 1024 := by rw [HX.out]; exact hx.2.1
      rw [← HY.out]
      clear hx
      have HD := Lib.hid D; clear D
      have h1 : 0 ≤ x - y := by omega
      go_wp2_with (go_at_call 65; refine (HD.out _ _ HO.out hBr).mono ?_; rintro e w2 ⟨v2, rfl, ho2, hb2, hg2⟩; have HO2 := Lib.hid ho2; clear ho2; have HB2 := Lib.hid hb2; clear hb2; have HG2 := Lib.hid hg2; clear hg2)
      go_roundw
      case rel => exact ⟨k + 1, by rw [HL.out]; omega, by go_num, by rw [E1.out], HO2.out, HBL.out.trans HB2.out, Nat.le_trans hBr HB2.out.size, HGR.out.trans HG2.out⟩
      case measure => simp [intOf]; omega
    · obtain rfl : k = len := by omega
      go_wp2_with fail
      go_ret
      exact ⟨_, rfl, by unfold lenc; rw [HL.out]; exact HO.out, hbl, HGR.out⟩

end Go.Proofs.Ytgcgjnjbhdhhgaa
