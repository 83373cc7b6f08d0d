/- Stage 4: the walk of CodecBack, with its data appended; then its loop. -/
import Derived.Test.YtjlfacdmfcbjfaaL4b
set_option linter.unusedVariables false
namespace Go.Proofs.Ytjlfacdmfcbjfaa
open Go.RowKit

/-- The two boxes of the law's arrays. -/
def Boxes (u : World) (b : Nat) (L : List Value) (m : Int) : Prop := u.rangeAt b 0 L ∧ u.cell? ⟨b + 1, 0, none⟩ = some (.int .u64 (l0 m)) ∧ u.cell? ⟨b + 1, 1, none⟩ = some (.int .u64 (l1 m)) ∧ u.cell? ⟨b + 1, 2, none⟩ = some (.int .u64 (l2 m)) ∧ u.cell? ⟨b + 1, 3, none⟩ = some (.int .u64 (l3 m))

theorem boxes {u : World} {b : Nat} {L : List Value} {m : Int} (h1 : Blk u b L.toArray) (h2 : Blk u (b + 1) #[.int .u64 (l0 m), .int .u64 (l1 m), .int .u64 (l2 m), .int .u64 (l3 m)]) : Boxes u b L m := by
  obtain ⟨k0, k1, k2, k3, _⟩ := h2.four
  exact ⟨by simpa using h1.range, k0, k1, k2, k3⟩

theorem bR_len (d : List Int) (e : Int) : (bR d e).length ≤ d.length := by
  unfold bR; split
  · simp
  · omega
theorem tkR_len (d : List Int) (e n : Int) : (tkR d e n).length ≤ d.length := by
  unfold tkR; split
  · omega
  · split
    · omega
    · simp

theorem Five.len {d : List Int} {u : Int} {v : Bool} {xs : List Int} {z : Int} {q r : List Int} {e : Int} {r1 : List Int} {e1 : Int} {r2 : List Int} {e2 : Int} {r3 : List Int} {e3 : Int} {r4 : List Int} {e4 : Int} (h : Five d u v xs z q r e r1 e1 r2 e2 r3 e3 r4 e4) : r4.length ≤ d.length := by
  have h1 := ruR_len d 0 18446744073709551615
  rw [h.u.2.1] at h1
  have h2 := bR_len r1 e1
  rw [h.v.2.1] at h2
  have h3 := tkR_len r2 e2 32
  rw [h.w.2.1] at h3
  have h4 := tkR_len r3 e3 32
  rw [h.z.2.2.1] at h4
  omega

/-- The five readings' contracts. -/
structure FiveC (d : List Int) (u : Int) (v : Bool) (xs : List Int) (z : Int) (q r : List Int) (e : Int) (r1 : List Int) (e1 : Int) (r2 : List Int) (e2 : Int) (r3 : List Int) (e3 : Int) (r4 : List Int) (e4 : Int) : Prop where
  u : ∀ g w, Rdr w g d 0 → Calls Try.prog 25 #[.pointer (some ⟨g, 0, none⟩), .int .u64 18446744073709551615] w (Reads w g (.int .u64 u) r1 e1)
  v : ∀ g w, Rdr w g r1 e1 → Calls Try.prog 26 #[.pointer (some ⟨g, 0, none⟩)] w (Reads w g (.bool v) r2 e2)
  w : ∀ g w, Rdr w g r2 e2 → Calls Try.prog 27 #[.pointer (some ⟨g, 0, none⟩)] w (Reads w g (.agg (bytesV xs)) r3 e3)
  z : ∀ g w, Rdr w g r3 e3 → Calls Try.prog 28 #[.pointer (some ⟨g, 0, none⟩)] w (Reads w g (.agg #[.int .u64 (l0 (z)), .int .u64 (l1 (z)), .int .u64 (l2 (z)), .int .u64 (l3 (z))]) r4 e4)
  q : ∀ g w, Rdr w g r4 e4 → Calls Try.prog 29 #[.pointer (some ⟨g, 0, none⟩), .int .i64 100] w (RdB w g q r e)

theorem Five.c {d : List Int} {u : Int} {v : Bool} {xs : List Int} {z : Int} {q r : List Int} {e : Int} {r1 : List Int} {e1 : Int} {r2 : List Int} {e2 : Int} {r3 : List Int} {e3 : Int} {r4 : List Int} {e4 : Int} (h : Five d u v xs z q r e r1 e1 r2 e2 r3 e3 r4 e4) (hd : d.length ≤ 100000) : FiveC d u v xs z q r e r1 e1 r2 e2 r3 e3 r4 e4 := by
  have hl := h.len
  refine ⟨fun g w hR => ?_, fun g w hR => ?_, fun g w hR => ?_, fun g w hR => ?_, fun g w hR => ?_⟩
  · have := uint_any g d 0 18446744073709551615 w hR (by omega) (by omega)
    rwa [h.u.1, h.u.2.1, h.u.2.2] at this
  · have := boolr_any g r1 e1 w hR
    rwa [h.v.1, h.v.2.1, h.v.2.2] at this
  · have := root_any g r2 e2 w hR
    rwa [h.w.1, h.w.2.1, h.w.2.2] at this
  · have := wide_any g r3 e3 z w hR h.z.2.1 h.z.1
    rwa [h.z.2.2.1, h.z.2.2.2] at this
  · have := bytes_any' g r4 e4 100 w hR (by omega) (by omega) (by omega)
    rwa [h.q.1, h.q.2.1, h.q.2.2] at this

set_option maxRecDepth 1000000 in
set_option maxHeartbeats 16000000 in
theorem back_any (n : Int) (x : Bool) (r : List Int) (m : Int) (a4 : Option Addr) (len4 cap4 : Nat) (y : List Int) (a5 : Option Addr) (len5 cap5 : Nat) (t : List Int) (w : World) (h0 : 0 ≤ n) (hn : n ≤ 18446744073709551615)
    (hr : IsBytes 32 r) (hm : W256 m) (hy : Byt w (.slice a4 len4 cap4) y) (ht : Byt w (.slice a5 len5 cap5) t) (hl4 : len4 ≤ 100) (hl5 : len5 ≤ 100) :
    Calls Try.prog 6 #[.int .u64 n, .bool x, .agg (bytesV r), .agg #[.int .u64 (l0 (m)), .int .u64 (l1 (m)), .int .u64 (l2 (m)), .int .u64 (l3 (m))], .slice a4 len4 cap4, .slice a5 len5 cap5] w fun e w' => e = .returned (.bool true) ∧ Below w.heap.size w w' := by
  have hyl : y.length = len4 := by obtain ⟨_, _, _, e, h1, _⟩ := hy.ints; cases e; exact h1
  have htl : t.length = len5 := by obtain ⟨_, _, _, e, h1, _⟩ := ht.ints; cases e; exact h1
  have hy100 : y.length ≤ 100 := by omega
  have ht100 : t.length ≤ 100 := by omega
  have HYL := Lib.hid hyl; clear hyl
  have HTL := Lib.hid htl; clear htl
  have hul := uenc_len10 (n := n.toNat) (by omega)
  have hul5 := uenc_len10 (n := y.length) (by omega)
  have A1 := fun w => auint_any (.slice none 0 0) [] n w (byt_nil _) h0 hn (by simp)
  have A2 := fun v w h => abool_any v ([] ++ uenc n.toNat) x w h (by simp; omega)
  have A3 := fun v w h => aroot_any v ([] ++ uenc n.toNat ++ [if x then 1 else 0]) r w h hr (by simp; omega)
  have A4 := fun v w h => awide_any v ([] ++ uenc n.toNat ++ [if x then 1 else 0] ++ r) m w h hm (by simp [hr.1]; omega)
  have A5 := fun v w h hy => abytes_any v (.slice a4 len4 cap4) ([] ++ uenc n.toNat ++ [if x then 1 else 0] ++ r ++ bytesN m) y w h hy (by simp [hr.1, (bytesN_is m).1]; omega) (by omega)
  obtain ⟨L, HL⟩ : ∃ L, r.map (Value.int .u8) = L := ⟨_, rfl⟩
  have hLB : bytesV r = L.toArray := by rw [← HL]; rfl
  have hLl : L.length = 32 := by rw [← HL, List.length_map, hr.1]
  rw [hLB] at A3 ⊢
  have i25 : (Try.prog.info? 25).map (·.size) = some L.length := by rw [hLl]; kernel_rfl
  have i25' : (Try.prog.info? 25).map (·.size) = some L.toArray.size := by rw [List.size_toArray, hLl]; kernel_rfl
  have u25 : Try.prog.underlying 25 = some (.array 32 5) := Try.underlying25
  have HLB := Lib.hid hLB; clear hLB HL
  have H1 := Lib.hid A1; clear A1
  have H2 := Lib.hid A2; clear A2
  have H3 := Lib.hid A3; clear A3
  have H4 := Lib.hid A4; clear A4
  have H5 := Lib.hid A5; clear A5
  have b2 : Below w.heap.size w ((w.alloc (.cells L.toArray 25)).alloc (.cells #[.int .u64 (l0 m), .int .u64 (l1 m), .int .u64 (l2 m), .int .u64 (l3 m)] 27)).drew := Below.drewN (n := 1) (((Below.refl _ _).alloc (Nat.le_refl _) _).alloc (by simp) _)
  have KX : Blk ((w.alloc (.cells L.toArray 25)).alloc (.cells #[.int .u64 (l0 m), .int .u64 (l1 m), .int .u64 (l2 m), .int .u64 (l3 m)] 27)).drew w.heap.size L.toArray := ((Blk.new rfl).alloc _).drewN (n := 1)
  have KW : Blk ((w.alloc (.cells L.toArray 25)).alloc (.cells #[.int .u64 (l0 m), .int .u64 (l1 m), .int .u64 (l2 m), .int .u64 (l3 m)] 27)).drew (w.heap.size + 1) #[.int .u64 (l0 m), .int .u64 (l1 m), .int .u64 (l2 m), .int .u64 (l3 m)] := (Blk.new (by simp)).drewN (n := 1)
  obtain ⟨s0, s1, s2, s3, s4⟩ := boxes KX KW
  have HBY := Lib.hid (hy.below b2)
  have HBT := Lib.hid (ht.below b2); clear hy ht
  have HB2 := Lib.hid b2; clear b2
  have HKX := Lib.hid KX; clear KX
  have HKW := Lib.hid KW; clear KW
  go_enter Try.func6, Try.ntmps6
  go_wp2_with fail
  go_region_held3 (fun u => u.rangeAt w.heap.size 0 L ∧ u.cell? ⟨w.heap.size + 1, 0, none⟩ = some (.int .u64 (l0 m)) ∧ u.cell? ⟨w.heap.size + 1, 1, none⟩ = some (.int .u64 (l1 m)) ∧ u.cell? ⟨w.heap.size + 1, 2, none⟩ = some (.int .u64 (l2 m)) ∧ u.cell? ⟨w.heap.size + 1, 3, none⟩ = some (.int .u64 (l3 m)))
    (first | assumption | (refine ⟨?_, ?_, ?_, ?_, ?_⟩ <;> assumption))
    ((first
      | (go_at_call 10; refine (H1.out _).mono ?_; rintro e w1 ⟨v1, rfl, hy1, hb1⟩
         obtain ⟨a1, l1', c1, rfl⟩ := hy1.shape
         have HKX := Lib.hid (HKX.out.call hb1)
         have HKW := Lib.hid (HKW.out.call hb1)
         obtain ⟨s0, s1, s2, s3, s4⟩ := boxes HKX.out HKW.out
         have HV := Lib.hid hy1; clear hy1
         have HBY := Lib.hid (HBY.out.below hb1)
         have HBT := Lib.hid (HBT.out.below hb1)
         have HB2 := Lib.hid (HB2.out.trans (hb1.mono HB2.out.size)); clear hb1)
      | (go_at_call 12; refine (H2.out _ _ HV.out).mono ?_; rintro e w1 ⟨v1, rfl, hy1, hb1⟩
         obtain ⟨a1, l1', c1, rfl⟩ := hy1.shape
         have HKX := Lib.hid (HKX.out.call hb1)
         have HKW := Lib.hid (HKW.out.call hb1)
         obtain ⟨s0, s1, s2, s3, s4⟩ := boxes HKX.out HKW.out
         have HV := Lib.hid hy1; clear hy1
         have HBY := Lib.hid (HBY.out.below hb1)
         have HBT := Lib.hid (HBT.out.below hb1)
         have HB2 := Lib.hid (HB2.out.trans (hb1.mono HB2.out.size)); clear hb1)
      | (go_at_call 14; refine (H3.out _ _ HV.out).mono ?_; rintro e w1 ⟨v1, rfl, hy1, hb1⟩
         obtain ⟨a1, l1', c1, rfl⟩ := hy1.shape
         have HKX := Lib.hid (HKX.out.call hb1)
         have HKW := Lib.hid (HKW.out.call hb1)
         obtain ⟨s0, s1, s2, s3, s4⟩ := boxes HKX.out HKW.out
         have HV := Lib.hid hy1; clear hy1
         have HBY := Lib.hid (HBY.out.below hb1)
         have HBT := Lib.hid (HBT.out.below hb1)
         have HB2 := Lib.hid (HB2.out.trans (hb1.mono HB2.out.size)); clear hb1)
      | (go_at_call 16; refine (H4.out _ _ HV.out).mono ?_; rintro e w1 ⟨v1, rfl, hy1, hb1⟩
         obtain ⟨a1, l1', c1, rfl⟩ := hy1.shape
         have HKX := Lib.hid (HKX.out.call hb1)
         have HKW := Lib.hid (HKW.out.call hb1)
         obtain ⟨s0, s1, s2, s3, s4⟩ := boxes HKX.out HKW.out
         have HV := Lib.hid hy1; clear hy1
         have HBY := Lib.hid (HBY.out.below hb1)
         have HBT := Lib.hid (HBT.out.below hb1)
         have HB2 := Lib.hid (HB2.out.trans (hb1.mono HB2.out.size)); clear hb1)
      | (go_at_call 20; refine (H5.out _ _ HV.out HBY.out).mono ?_; rintro e w1 ⟨v1, rfl, hy1, hb1⟩
         obtain ⟨a1, l1', c1, rfl⟩ := hy1.shape
         have HKX := Lib.hid (HKX.out.call hb1)
         have HKW := Lib.hid (HKW.out.call hb1)
         obtain ⟨s0, s1, s2, s3, s4⟩ := boxes HKX.out HKW.out
         have HV := Lib.hid hy1; clear hy1
         have HBY := Lib.hid (HBY.out.below hb1)
         have HBT := Lib.hid (HBT.out.below hb1)
         have HB2 := Lib.hid (HB2.out.trans (hb1.mono HB2.out.size)); clear hb1)))
  go_wp2_with fail
  obtain ⟨F, hF⟩ : ∃ F, [] ++ uenc n.toNat ++ [if x then 1 else 0] ++ r ++ bytesN m ++ (uenc y.length ++ y) = F := ⟨_, rfl⟩
  have hF' : uenc n.toNat ++ [if x then 1 else 0] ++ r ++ bytesN m ++ (uenc y.length ++ y) = F := hF
  have hFl : F.length = l1' := by
    have h := HV.out
    rw [hF] at h
    obtain ⟨_, _, _, e, h1, _⟩ := h.ints; cases e; exact h1
  have hF1000 : F.length ≤ 1000 := by rw [← hF']; simp [hr.1, (bytesN_is m).1]; omega
  have HFIT := Lib.hid (HV.out.fits _ _ _ rfl)
  have HVF : Hid (Byt w1 (.slice a1 l1' c1) F) := by have h := HV.out; rw [hF] at h; exact h
  have HCUT : Hid (∀ k, k < F.length → ∃ u v xs z q r' r1 e1 r2 e2 r3 e3 r4 e4, Five (F.take k) u v xs z q r' 5 r1 e1 r2 e2 r3 e3 r4 e4) := by
    intro k hk
    rw [← hF'] at hk ⊢
    exact five_cut n.toNat (by omega) x r hr m y hy100 HBY.out.rng k hk
  have HALL : Hid (∃ r1 r2 r3 r4, Five (F ++ t) n x r m y t 0 r1 0 r2 0 r3 0 r4 0) := by
    have := five_full n.toNat (by omega) x r hr.1 m hm y t hy100
    rw [Int.toNat_of_nonneg h0, hF'] at this
    exact this
  have HFL := Lib.hid hFl; clear hFl
  clear hF hF' HV
  have hc1 : l1' ≤ 1000 := by have := HFL.out; omega
  have hc2 : l1' ≤ c1 := HFIT.out.1
  have hc3 : c1 ≤ 9223372036854775807 := by have := HFIT.out.2; unfold maxLen at this; omega
  obtain ⟨Z, hZ⟩ : ∃ Z, Z = Array.replicate 32 (Value.int .u8 0) := ⟨_, rfl⟩
  have hsz : Z.size = 32 := by rw [hZ]; simp
  obtain ⟨hz32, hst⟩ := zero_array (P := Try.prog) (t := 25) (n := 32) Z (by rw [hZ]; kernel_rfl) hsz (by rw [hZ]; kernel_rfl)
  have HZ := Lib.hid hZ; clear hZ hst
  have i27 : ∀ q0 q1 q2 q3 : Value, (Try.prog.info? 27).map (·.size) = some (#[q0, q1, q2, q3] : Array Value).size := fun _ _ _ _ => by kernel_rfl
  have I27 := Lib.hid i27; clear i27
  have hW1 : ∀ q0 q1 q2 q3 : Int, ∀ v ∈ (#[.int .u64 q0, .int .u64 q1, .int .u64 q2, .int .u64 q3] : Array Value), v.oneCell' = true := by
    intro q0 q1 q2 q3 v hv
    simp at hv
    rcases hv with rfl | rfl | rfl | rfl <;> rfl
  have HW0 := Lib.hid hW1; clear hW1
  have hw0 := HB2.out.size
  go_loopw [14] (fun i wr => ∃ k : Nat, k ≤ l1' + 1 ∧ i = .int .i64 k ∧ Below w1.heap.size w1 wr) (fun i _ => l1' + 1 - (intOf i).toNat)
  case atStart => exact ⟨0, Nat.zero_le _, rfl, Below.refl _ _⟩
  case round =>
    obtain ⟨k, hk, rfl, hbl⟩ := hrel
    have HBL := Lib.hid hbl; clear hbl
    by_cases hend : k = l1' + 1
    case pos =>
      have hgt : ¬ (k : Int) ≤ (l1' : Int) := by omega
      have HEND := Lib.hid hend; clear hend
      go_wp2_with (go_at_call 9; refine (awake4 _).mono ?_; rintro e w2 ⟨rfl, hb2⟩)
      go_ret
      exact ⟨rfl, (HB2.out.trans (HBL.out.mono hw0)).trans (hb2.mono (Nat.le_trans hw0 HBL.out.size))⟩
    have hkl : k ≤ l1' := by omega
    have hki : (k : Int) ≤ (l1' : Int) := by omega
    have hk0 : (0 : Int) ≤ (k : Int) := by omega
    clear hend
    have HVK := Lib.hid ((HVF.out.below HBL.out).take hkl)
    have hkc : k ≤ c1 := by omega
    have hks : (F.take k).length ≤ 1000 := by rw [List.length_take]; omega
    by_cases hlt : k < l1'
    case pos =>
      have hne : ((k : Int) == (l1' : Int)) = false := by simp; omega
      have hlt' : (k : Int) < (l1' : Int) := by omega
      obtain ⟨u, v, xs, ZZ, q, r', r1, e1, r2, e2, r3, e3, r4, e4, hF5⟩ := HCUT.out k (by rw [HFL.out]; exact hlt)
      obtain ⟨DD, hDD⟩ : ∃ DD, F.take k = DD := ⟨_, rfl⟩
      have HDR := Lib.hid ((HVF.out.below HBL.out).take hkl).rng
      rw [hDD] at hF5 hks HVK HDR
      have hdl : DD.length ≤ 140737488355328 := by omega
      have FC := Lib.hid (hF5.c (by omega))
      have hxs : IsBytes 32 xs := by
        have h := wV_is (rest := r2) (e := e2)
        rw [hF5.w.1] at h
        refine h ?_
        rw [← hF5.v.2.1, ← hF5.u.2.1]
        exact bR_rng (ruR_rng HDR.out)
      have hXS : (bytesV xs).size = 32 := bytesV_size hxs.1
      have HXS1 := Lib.hid (bytesV_one xs)
      clear hDD
      have iXS : (Try.prog.info? 25).map (·.size) = some (bytesV xs).size := by rw [hXS]; kernel_rfl
      have i27 := I27.out (.int .u64 (l0 ZZ)) (.int .u64 (l1 ZZ)) (.int .u64 (l2 ZZ)) (.int .u64 (l3 ZZ))
      have HW1 := Lib.hid (HW0.out (l0 ZZ) (l1 ZZ) (l2 ZZ) (l3 ZZ))
      clear hF5 hxs
      go_wp2_with (first
        | ((with_reducible refine at_app _ (.tmp 49) ?_); refine wpList_app _ _ rfl rfl wr.heap.size _ [] rfl (Own.nil _ _) _ DD rfl HVK.out (by simp only [List.length_nil]; omega) (Nat.le_refl _) ?_; intro v2 w2 ho2 hg2
           rw [List.nil_append] at ho2
           obtain ⟨a2, l2', c2, rfl⟩ := ho2.shape
           have hb2 := Below.own (Below.refl _ wr) hg2 (Own.nil _ wr.heap.size) (Nat.le_refl _) (Nat.le_refl _)
           have HBL := Lib.hid (HBL.out.trans (hb2.mono HBL.out.size))
           have HOB := Lib.hid (ho2.byt (by unfold maxLen; omega) HDR.out)
           clear ho2 hg2 hb2)
        | (go_at_call 24; refine (newr_any _ DD _ HOB.out hdl).mono ?_; rintro en w3 ⟨g, rfl, hr, hgB, hb1⟩
           have HX := Lib.hid hr; clear hr
           have hg1 : w1.heap.size ≤ g := Nat.le_trans HBL.out.size hgB
           have HBL := Lib.hid (HBL.out.trans (hb1.mono HBL.out.size)); clear hb1 hgB)
        | (go_at_call 25; refine (FC.out.u _ _ HX.out).mono ?_; rintro en w3 ⟨rfl, hr, hg⟩; have HX := Lib.hid hr; clear hr; have HBL := Lib.hid (HBL.out.trans (grownBy_below hg hg1 HBL.out.size)); clear hg)
        | (go_at_call 26; refine (FC.out.v _ _ HX.out).mono ?_; rintro en w3 ⟨rfl, hr, hg⟩; have HX := Lib.hid hr; clear hr; have HBL := Lib.hid (HBL.out.trans (grownBy_below hg hg1 HBL.out.size)); clear hg)
        | (go_at_call 27; refine (FC.out.w _ _ HX.out).mono ?_; rintro en w3 ⟨rfl, hr, hg⟩; have HX := Lib.hid hr; clear hr; have HBL := Lib.hid (HBL.out.trans (grownBy_below hg hg1 HBL.out.size)); clear hg)
        | (go_at_call 28; refine (FC.out.z _ _ HX.out).mono ?_; rintro en w3 ⟨rfl, hr, hg⟩; have HX := Lib.hid hr; clear hr; have HBL := Lib.hid (HBL.out.trans (grownBy_below hg hg1 HBL.out.size)); clear hg)
        | (go_at_call 29; refine (FC.out.q _ _ HX.out).mono ?_; rintro en w6 ⟨vq, rfl, hyq, hr, hg⟩; obtain ⟨aq, lq, cq, rfl⟩ := hyq.shape; have HQ := Lib.hid hyq; clear hyq; have HX := Lib.hid hr; clear hr; have HBL := Lib.hid (HBL.out.trans (grownBy_below hg hg1 HBL.out.size)); clear hg)
        | ((with_reducible refine at_store (.tmp 19) ?_); refine wpList_store_blk rfl 25 _ _ rfl w6.heap.size (bytesV xs) rfl rfl Z ((Blk.new rfl).alloc _) (by rw [hsz, hXS]) iXS HXS1.out ?_; intro w7 U7 B7
           have HB7 := Lib.hid B7; clear B7
           have HN7 := Lib.hid (U7.blk (Blk.new (w := w6.alloc (.cells Z 25)) (n := w6.heap.size + 1) (cs := #[.int .u64 0, .int .u64 0, .int .u64 0, .int .u64 0]) (t := 27) (by simp)) (by omega))
           have HU7 := Lib.hid (U7.below (((Below.refl w6.heap.size w6).alloc (Nat.le_refl _) _).alloc (by simp) _) (Nat.le_refl _)); clear U7)
        | ((with_reducible refine at_store (.tmp 20) ?_); refine wpList_store_blk rfl 27 _ _ rfl (w6.heap.size + 1) #[.int .u64 (l0 ZZ), .int .u64 (l1 ZZ), .int .u64 (l2 ZZ), .int .u64 (l3 ZZ)] rfl rfl _ HN7.out rfl i27 HW1.out ?_; intro w8 U8 B8
           have HB8 := Lib.hid B8; clear B8
           have HB78 := Lib.hid (U8.blk HB7.out (by omega))
           have HU8 := Lib.hid (U8.below HU7.out (by omega)); clear U8
           have HBL := Lib.hid (HBL.out.trans (HU8.out.mono HBL.out.size))
           have HX := Lib.hid (HX.out.below HU8.out))
        | (go_at_call 30; refine (err_any _ _ _ _ HX.out).mono ?_; rintro en w9 ⟨rfl, rfl⟩))
      exact ⟨⟨k + 1, by omega, by go_num, HBL.out⟩, by simp [intOf]; omega⟩
    case neg =>
      obtain rfl : k = l1' := by omega
      have hFk : F.take k = F := List.take_of_length_le (by rw [HFL.out]; exact Nat.le_refl _)
      rw [hFk] at HVK hks
      have HFR := Lib.hid HVF.out.rng
      obtain ⟨r1, r2, r3, r4, hF5⟩ := HALL.out
      obtain ⟨DD, hDD⟩ : ∃ DD, F ++ t = DD := ⟨_, rfl⟩
      have hDl : DD.length ≤ 1100 := by rw [← hDD, List.length_append]; omega
      have HDR : Hid (∀ b ∈ DD, 0 ≤ b ∧ b ≤ 255) := by
        intro b hb
        rw [← hDD] at hb
        rcases List.mem_append.1 hb with hb | hb
        · exact HFR.out b hb
        · exact HBT.out.rng b hb
      rw [hDD] at hF5
      have HDD := Lib.hid hDD; clear hDD
      have hdl : DD.length ≤ 140737488355328 := by omega
      have FC := Lib.hid (hF5.c (by omega))
      have hXS : (bytesV r).size = 32 := bytesV_size hr.1
      have HXS1 := Lib.hid (bytesV_one r)
      have iXS : (Try.prog.info? 25).map (·.size) = some (bytesV r).size := by rw [hXS]; kernel_rfl
      have i27 := I27.out (.int .u64 (l0 m)) (.int .u64 (l1 m)) (.int .u64 (l2 m)) (.int .u64 (l3 m))
      have HW1 := Lib.hid (HW0.out (l0 m) (l1 m) (l2 m) (l3 m))
      have q1 : ∀ w, Sem.run Try.prog (Op.equalIn 10000 25 (.agg (bytesV r)) (.agg L.toArray)) w = .ok true w := fun w => by
        rw [← HLB.out]
        have := eq_ints (P := Try.prog) (t := 25) (e := 5) (n := 32) (k := .u8) (by kernel_rfl) (by kernel_rfl) (by kernel_rfl) (by kernel_rfl) (by kernel_rfl) r r hr.1 hr.1 hr.2 hr.2 w
        rw [decide_eq_true rfl] at this
        exact this
      have q2 : ∀ w, Sem.run Try.prog (Op.equalIn 10000 27 (.agg #[.int .u64 (l0 (m)), .int .u64 (l1 (m)), .int .u64 (l2 (m)), .int .u64 (l3 (m))]) (.agg #[.int .u64 (l0 (m)), .int .u64 (l1 (m)), .int .u64 (l2 (m)), .int .u64 (l3 (m))])) w = .ok true w := fun w => by
        have := eq_wide hm hm w
        rw [decide_eq_true rfl] at this
        exact this
      have hcat : (F.length : Nat) + t.length ≤ 140737488355328 := by omega
      have DT := fun g w h => rest_any g t 0 w h
      rw [HTL.out] at DT
      have HRT := Lib.hid DT; clear DT
      clear hF5 hFk hlt
      go_wp2_with (first
        | ((with_reducible refine at_app _ (.tmp 49) ?_); refine wpList_app _ _ rfl rfl wr.heap.size _ [] rfl (Own.nil _ _) _ F rfl HVK.out (by simp only [List.length_nil]; omega) (Nat.le_refl _) ?_; intro v2 w2 ho2 hg2
           rw [List.nil_append] at ho2
           obtain ⟨a2, l2', c2, rfl⟩ := ho2.shape
           have hb2 := Below.own (Below.refl _ wr) hg2 (Own.nil _ wr.heap.size) (Nat.le_refl _) (Nat.le_refl _)
           have hs2 := hb2.size
           have HBR := Lib.hid hb2
           have HO := Lib.hid ho2
           clear ho2 hg2 hb2)
        | ((with_reducible refine at_app (.tmp 55) (.tmp 56) ?_); refine wpList_app _ _ rfl rfl wr.heap.size _ F rfl HO.out _ t rfl ((HBT.out.below HBL.out).below HBR.out) hcat hs2 ?_; intro v2 w2 ho2 hg2
           rw [HDD.out] at ho2
           obtain ⟨a2, l2', c2, rfl⟩ := ho2.shape
           have hb2 := Below.own HBR.out hg2 HO.out (Nat.le_refl _) hs2
           have HBL := Lib.hid (HBL.out.trans (hb2.mono HBL.out.size))
           have HOB := Lib.hid (ho2.byt (by unfold maxLen; omega) HDR.out)
           clear ho2 hg2 hb2)
        | (go_at_call 24; refine (newr_any _ DD _ HOB.out hdl).mono ?_; rintro en w3 ⟨g, rfl, hr, hgB, hb1⟩
           have HX := Lib.hid hr; clear hr
           have hg1 : w1.heap.size ≤ g := Nat.le_trans HBL.out.size hgB
           have HBL := Lib.hid (HBL.out.trans (hb1.mono HBL.out.size)); clear hb1 hgB)
        | (go_at_call 25; refine (FC.out.u _ _ HX.out).mono ?_; rintro en w3 ⟨rfl, hr, hg⟩; have HX := Lib.hid hr; clear hr; have HBL := Lib.hid (HBL.out.trans (grownBy_below hg hg1 HBL.out.size)); clear hg)
        | (go_at_call 26; refine (FC.out.v _ _ HX.out).mono ?_; rintro en w3 ⟨rfl, hr, hg⟩; have HX := Lib.hid hr; clear hr; have HBL := Lib.hid (HBL.out.trans (grownBy_below hg hg1 HBL.out.size)); clear hg)
        | (go_at_call 27; refine (FC.out.w _ _ HX.out).mono ?_; rintro en w3 ⟨rfl, hr, hg⟩; have HX := Lib.hid hr; clear hr; have HBL := Lib.hid (HBL.out.trans (grownBy_below hg hg1 HBL.out.size)); clear hg)
        | (go_at_call 28; refine (FC.out.z _ _ HX.out).mono ?_; rintro en w3 ⟨rfl, hr, hg⟩; have HX := Lib.hid hr; clear hr; have HBL := Lib.hid (HBL.out.trans (grownBy_below hg hg1 HBL.out.size)); clear hg)
        | (go_at_call 29; refine (FC.out.q _ _ HX.out).mono ?_; rintro en w6 ⟨vq, rfl, hyq, hr, hg⟩; obtain ⟨aq, lq, cq, rfl⟩ := hyq.shape; have HQ := Lib.hid hyq; clear hyq; have HX := Lib.hid hr; clear hr; have HBL := Lib.hid (HBL.out.trans (grownBy_below hg hg1 HBL.out.size)); clear hg)
        | ((with_reducible refine at_store (.tmp 19) ?_); refine wpList_store_blk rfl 25 _ _ rfl w6.heap.size (bytesV r) rfl rfl Z ((Blk.new rfl).alloc _) (by rw [hsz, hXS]) iXS HXS1.out ?_; intro w7 U7 B7
           have HB7 := Lib.hid B7; clear B7
           have HN7 := Lib.hid (U7.blk (Blk.new (w := w6.alloc (.cells Z 25)) (n := w6.heap.size + 1) (cs := #[.int .u64 0, .int .u64 0, .int .u64 0, .int .u64 0]) (t := 27) (by simp)) (by omega))
           have HU7 := Lib.hid (U7.below (((Below.refl w6.heap.size w6).alloc (Nat.le_refl _) _).alloc (by simp) _) (Nat.le_refl _)); clear U7)
        | ((with_reducible refine at_store (.tmp 20) ?_); refine wpList_store_blk rfl 27 _ _ rfl (w6.heap.size + 1) #[.int .u64 (l0 m), .int .u64 (l1 m), .int .u64 (l2 m), .int .u64 (l3 m)] rfl rfl _ HN7.out rfl i27 HW1.out ?_; intro w8 U8 B8
           have HB8 := Lib.hid B8; clear B8
           have HB78 := Lib.hid (U8.blk HB7.out (by omega))
           have HU8 := Lib.hid (U8.below HU7.out (by omega)); clear U8
           have HBL := Lib.hid (HBL.out.trans (HU8.out.mono HBL.out.size))
           have HX := Lib.hid (HX.out.below HU8.out)
           have hcq := conv_any (HQ.out.below HU8.out)
           have hcy := conv_any (HBY.out.below HBL.out)
           have HKX8 := Lib.hid (HKX.out.below HBL.out (by have := HKX.out.lt; omega))
           have HKW8 := Lib.hid (HKW.out.below HBL.out (by have := HKW.out.lt; omega)))
        | ((with_reducible refine at_load (.tmp 19) ?_); refine wpList_load_g 25 _ rfl w6.heap.size rfl (bytesV r) _ HB78.out Try.underlying25 rfl iXS rfl ?_)
        | ((with_reducible refine at_load (.tmp 8) ?_); refine wpList_load_g 25 _ rfl w.heap.size rfl L.toArray _ HKX8.out Try.underlying25 rfl i25' rfl ?_)
        | ((with_reducible refine at_load (.tmp 20) ?_); refine wpList_load_g 27 _ rfl (w6.heap.size + 1) rfl _ _ HB8.out Try.underlying27 rfl i27 rfl ?_)
        | ((with_reducible refine at_load (.tmp 9) ?_); refine wpList_load_g 27 _ rfl (w.heap.size + 1) rfl _ _ HKW8.out Try.underlying27 rfl i27 rfl ?_)
        | (go_at_call 30; refine (err_any _ _ _ _ HX.out).mono ?_; rintro en w9 ⟨rfl, rfl⟩)
        | (go_at_call 31; refine (HRT.out _ _ HX.out).mono ?_; rintro en w9 ⟨rfl, rfl⟩))
      exact ⟨⟨k + 1, by omega, by go_num, HBL.out⟩, by simp [intOf]⟩

theorem walk_CodecBack (a0 : Int) (a1 : Bool) (a2 a3 : List Int) (a4 : Option Addr) (len4 cap4 : Nat) (z4 : List Int) (a5 : Option Addr) (len5 cap5 : Nat) (z5 : List Int) (w : World) (w0 : (Lit.int .u64 a0).wf = true) (w2 : a2.length = 32 ∧ ∀ x ∈ a2, (Lit.int .u8 x).wf = true)
    (w3 : a3.length = 4 ∧ ∀ x ∈ a3, (Lit.int .u64 x).wf = true) (w4 : IsRow .u8 w a4 len4 cap4 z4) (w5 : IsRow .u8 w a5 len5 cap5 z5) :
    Calls Try.prog 6 #[.int .u64 a0, .bool a1, .agg (a2.map (Value.int .u8)).toArray, .agg (a3.map (Value.int .u64)).toArray, .slice a4 len4 cap4, .slice a5 len5 cap5] w fun e w' => e = .returned (.bool true) ∧ Below w.heap.size w w' := by
  obtain ⟨m, hm, e⟩ := wide_of w3
  rw [e]
  have hn := wf_u64 w0
  have hy := w4.byt
  have ht := w5.byt
  have hf4 := hy.fits _ _ _ rfl
  have hf5 := ht.fits _ _ _ rfl
  unfold maxLen at hf4 hf5
  by_cases hl : len4 ≤ 100 ∧ len5 ≤ 100
  · exact back_any a0 a1 a2 m a4 len4 cap4 _ a5 len5 cap5 _ w hn.1 hn.2 w2 hm hy ht hl.1 hl.2
  · have b2 : Below w.heap.size w ((w.alloc (.cells (bytesV a2) 25)).alloc (.cells #[.int .u64 (l0 m), .int .u64 (l1 m), .int .u64 (l2 m), .int .u64 (l3 m)] 27)) := ((Below.refl _ _).alloc (Nat.le_refl _) _).alloc (by simp) _
    have e2 : (a2.map (Value.int .u8)).toArray = bytesV a2 := rfl
    rw [e2]
    have hX0 : (bytesV a2).size = 32 := bytesV_size w2.1
    obtain ⟨X, HX⟩ : ∃ X, bytesV a2 = X := ⟨_, rfl⟩
    rw [HX] at b2 hX0 ⊢
    clear HX e2 hy ht w4 w5 w0 w2 w3 e
    by_cases h4 : 100 < len4
    · go_enter Try.func6, Try.ntmps6
      go_wp2_with (go_at_call 9; refine (awake4 _).mono ?_; rintro e w1 ⟨rfl, hb1⟩)
      go_ret
      exact ⟨rfl, b2.trans (hb1.mono b2.size)⟩
    · have h5 : 100 < len5 := by omega
      go_enter Try.func6, Try.ntmps6
      go_wp2_with (go_at_call 9; refine (awake4 _).mono ?_; rintro e w1 ⟨rfl, hb1⟩)
      go_ret
      exact ⟨rfl, b2.trans (hb1.mono b2.size)⟩

end Go.Proofs.Ytjlfacdmfcbjfaa
