/- AppendCheckpoint and the reference's. -/
import Derived.Test.YtmnojgdfbhdkhaaCdF
import Derived.Test.YtmnojgdfbhdkhaaCdZ
import Derived.Deep.MidRow
import Derived.Deep.RegionHeld3
set_option linter.unusedVariables false
namespace Go.Proofs.Ytmnojgdfbhdkhaa
open Go.RowKit

theorem Blk.to {w : World} {b : Nat} {cs ds : Array Value} (h : Blk w b cs) (e : cs = ds) : Blk w b ds := e ▸ h

theorem cp_range {w : World} {b : Nat} {n : Int} {xs : List Int} (h : Blk w b (cpV n xs)) : w.cell? ⟨b, 0, none⟩ = some (.int .u64 n) ∧ w.rangeAt b 1 (xs.map (Value.int .u8)) := by
  refine ⟨(h.cell 0).trans (cpV_zero _ _), fun j v hv => ?_⟩
  rw [h.cell]
  simp only [cpV]
  rw [show 1 + j = j + 1 by omega]
  simpa using hv

set_option maxRecDepth 100000 in
set_option maxHeartbeats 4000000 in
theorem acheck_any (v : Value) (bs : List Int) (n : Int) (xs : List Int) (w : World) (h : Byt w v bs) (h0 : 0 ≤ n) (hn : n ≤ 18446744073709551615) (hx : IsBytes 32 xs) (hb : bs.length ≤ 10000000000) :
    Calls Try.prog 67 #[v, .agg (cpV n xs)] w (App w (bs ++ (uenc n.toNat ++ xs))) := by
  obtain ⟨va, vl, vc, rfl⟩ := h.shape
  have hX33 : (cpV n xs).size = 33 := cpV_size hx
  have hul := uenc_len10 (n := n.toNat) (by omega)
  have hlen2 : (bs ++ uenc n.toNat).length ≤ 100000000000 := by rw [List.length_append]; omega
  obtain ⟨X, HX⟩ : ∃ X, Hid (X = cpV n xs) := ⟨_, rfl⟩
  rw [← HX.out] at hX33 ⊢
  have hblk : Blk (w.alloc (.cells X 26)).drew w.heap.size X := (Blk.new rfl).drewN (n := 1)
  have hbl : Below w.heap.size w (w.alloc (.cells X 26)).drew := Below.drewN (n := 1) ((Below.refl w.heap.size w).alloc (Nat.le_refl _) _)
  have HD1 := Lib.hid (auint_any (.slice va vl vc) bs n _ (h.below hbl) h0 hn (by omega))
  have HBL := Lib.hid hbl; clear hbl
  have s0 : (w.alloc (.cells X 26)).drew.cell? ⟨w.heap.size, 0, none⟩ = some (.int .u64 n) := (cp_range (by rw [← HX.out]; exact hblk)).1
  have s1 : (w.alloc (.cells X 26)).drew.rangeAt w.heap.size 1 (xs.map (Value.int .u8)) := (cp_range (by rw [← HX.out]; exact hblk)).2
  have hBLT : w.heap.size < (w.alloc (.cells X 26)).drew.heap.size := by show _ < (w.alloc (.cells X 26)).heap.size; simp
  have HBK := Lib.hid hblk; clear hblk h
  have u25 : Try.prog.underlying 24 = some (.array 32 5) := Try.underlying24
  have i25 : (Try.prog.info? 24).map (·.size) = some (xs.map (Value.int .u8)).length := by rw [List.length_map, hx.1]; kernel_rfl
  have HXB := Lib.hid hx; clear hx
  obtain ⟨L, HL⟩ : ∃ L, xs.map (Value.int .u8) = L := ⟨_, rfl⟩
  have hLB : bytesV xs = L.toArray := by rw [← HL]; rfl
  have DR := fun v w h hb => aroot_any v (bs ++ uenc n.toNat) xs w h HXB.out hb
  rw [hLB] at DR
  have HDR := Lib.hid DR; clear DR hLB
  rw [HL] at s1 i25
  have HLE := Lib.hid HL; clear HL
  go_enter Try.func67, Try.ntmps67
  go_wp2_with fail
  go_region_held3 (fun u => u.cell? ⟨w.heap.size, 0, none⟩ = some (.int .u64 n) ∧ u.rangeAt w.heap.size 1 L)
    (first | assumption | (constructor <;> assumption))
    ((first
      | (go_at_call 26; refine HD1.out.mono ?_; rintro e w1 ⟨v1, rfl, hy1, hb1⟩
         obtain ⟨a1, l1, c1, rfl⟩ := hy1.shape
         have hr1 := cp_range (show Blk w1 w.heap.size (cpV n xs) from (HBK.out.call hb1).to HX.out)
         rw [HLE.out] at hr1
         have t0 := hr1.1
         have t1 := hr1.2
         have hss : (w1.cell? ⟨w.heap.size, 0, none⟩ = some (.int .u64 n) ∧ w1.rangeAt w.heap.size 1 L) := ⟨t0, t1⟩
         clear hr1
         have HBK1 := Lib.hid (HBK.out.call hb1)
         have HY1 := Lib.hid hy1; clear hy1
         have HB1 := Lib.hid hb1; clear hb1)
      | (go_at_call 65; refine (HDR.out _ _ HY1.out hlen2).mono ?_; rintro e w2 ⟨v2, rfl, hy2, hb2⟩
         have hr2 := cp_range (show Blk w2 w.heap.size (cpV n xs) from (HBK1.out.call hb2).to HX.out)
         rw [HLE.out] at hr2
         have hss2 : (w2.cell? ⟨w.heap.size, 0, none⟩ = some (.int .u64 n) ∧ w2.rangeAt w.heap.size 1 L) := hr2
         have t2 := hr2.1
         have t3 := hr2.2
         clear hr2
         have HY2 := Lib.hid hy2; clear hy2
         have HB2 := Lib.hid hb2; clear hb2)))
  go_wp2_with fail
  go_ret
  refine ⟨v2, rfl, by rw [← List.append_assoc]; exact HY2.out, ?_⟩
  exact (HBL.out.trans (HB1.out.mono (by have := HBL.out.size; omega))).trans (HB2.out.mono (by have := HBL.out.size; have := HB1.out.size; omega))

theorem Grew.blk {w w' : World} {v v' : Value} {b : Nat} {cs : Array Value} (h : Grew w w' v v') (hB : Blk w b cs) (hne : some b ≠ v.ownBlock) : Blk w' b cs := hB.grown h.grown hne

set_option maxRecDepth 100000 in
set_option maxHeartbeats 4000000 in
theorem rcheck_any (v : Value) (bs : List Int) (n : Int) (xs : List Int) (w : World) (B : Nat) (h : Own w B v bs) (hB : B ≤ w.heap.size) (h0 : 0 ≤ n) (hn : n ≤ 18446744073709551615) (hx : IsBytes 32 xs) (hb : bs.length ≤ 10000000000) :
    Calls Try.prog 49 #[v, .agg (cpV n xs)] w (AppO w B v (bs ++ (uenc n.toNat ++ xs))) := by
  obtain ⟨va, vl, vc, rfl⟩ := h.shape
  have hvne : some w.heap.size ≠ (Value.slice va vl vc).ownBlock := fun e => by have := (h.lt _ e.symm).2; omega
  have hX33 : (cpV n xs).size = 33 := cpV_size hx
  have hul := uenc_len10 (n := n.toNat) (by omega)
  have hlen2 : (bs ++ uenc n.toNat).length ≤ 100000000000 := by rw [List.length_append]; omega
  obtain ⟨X, HX⟩ : ∃ X, Hid (X = cpV n xs) := ⟨_, rfl⟩
  rw [← HX.out] at hX33 ⊢
  have hblk : Blk (w.alloc (.cells X 26)).drew w.heap.size X := (Blk.new rfl).drewN (n := 1)
  have hbl : Below w.heap.size w (w.alloc (.cells X 26)).drew := Below.drewN (n := 1) ((Below.refl w.heap.size w).alloc (Nat.le_refl _) _)
  have hB0 : B ≤ (w.alloc (.cells X 26)).drew.heap.size := Nat.le_trans hB hbl.size
  have HD1 := Lib.hid (ruint_any (.slice va vl vc) bs n _ B (h.call hbl) hB0 h0 hn (by omega))
  have HBL := Lib.hid hbl; clear hbl
  have s0 : (w.alloc (.cells X 26)).drew.cell? ⟨w.heap.size, 0, none⟩ = some (.int .u64 n) := (cp_range (by rw [← HX.out]; exact hblk)).1
  have s1 : (w.alloc (.cells X 26)).drew.rangeAt w.heap.size 1 (xs.map (Value.int .u8)) := (cp_range (by rw [← HX.out]; exact hblk)).2
  have hBLT : w.heap.size < (w.alloc (.cells X 26)).drew.heap.size := by show _ < (w.alloc (.cells X 26)).heap.size; simp
  have HBK := Lib.hid hblk; clear hblk h
  have u25 : Try.prog.underlying 24 = some (.array 32 5) := Try.underlying24
  have i25 : (Try.prog.info? 24).map (·.size) = some (xs.map (Value.int .u8)).length := by rw [List.length_map, hx.1]; kernel_rfl
  have HXB := Lib.hid hx; clear hx
  obtain ⟨L, HL⟩ : ∃ L, xs.map (Value.int .u8) = L := ⟨_, rfl⟩
  have hLB : bytesV xs = L.toArray := by rw [← HL]; rfl
  have DR := fun v w h hB hb => rroot_any v (bs ++ uenc n.toNat) xs w B h hB HXB.out hb
  rw [hLB] at DR
  have HDR := Lib.hid DR; clear DR hLB
  rw [HL] at s1 i25
  have HLE := Lib.hid HL; clear HL
  go_enter Try.func49, Try.ntmps49
  go_wp2_with fail
  go_region_held3 (fun u => u.cell? ⟨w.heap.size, 0, none⟩ = some (.int .u64 n) ∧ u.rangeAt w.heap.size 1 L)
    (first | assumption | (constructor <;> assumption))
    ((first
      | (go_at_call 19; refine HD1.out.mono ?_; rintro e w1 ⟨v1, rfl, hy1, hb1, hgr1⟩
         obtain ⟨a1, l1, c1, rfl⟩ := hy1.shape
         have hr1 := cp_range (show Blk w1 w.heap.size (cpV n xs) from (hgr1.blk HBK.out hvne).to HX.out)
         rw [HLE.out] at hr1
         have t0 := hr1.1
         have t1 := hr1.2
         clear hr1
         have HY1 := Lib.hid hy1; clear hy1
         have hB1 : B ≤ w1.heap.size := Nat.le_trans hB0 hb1.size
         have HGR1 := Lib.hid hgr1; clear hgr1
         have HB1 := Lib.hid hb1; clear hb1)
      | (go_at_call 47; refine (HDR.out _ _ HY1.out hB1 hlen2).mono ?_; rintro e w2 ⟨v2, rfl, hy2, hb2, hgr2⟩
         have hr2 := cp_range (show Blk w2 w.heap.size (cpV n xs) from ((HGR1.out.trans hgr2).blk HBK.out hvne).to HX.out)
         rw [HLE.out] at hr2
         have t2 := hr2.1
         have t3 := hr2.2
         clear hr2
         have HY2 := Lib.hid hy2; clear hy2
         have HGR2 := Lib.hid (HGR1.out.trans hgr2); clear hgr2
         have HB2 := Lib.hid hb2; clear hb2)))
  go_wp2_with fail
  go_ret
  refine ⟨v2, rfl, by rw [← List.append_assoc]; exact HY2.out, ?_, ?_⟩
  · exact ((HBL.out.mono hB).trans HB1.out).trans HB2.out
  · exact (Grew.below _ HBL.out).trans HGR2.out

end Go.Proofs.Ytmnojgdfbhdkhaa
