/- The reference's Append functions but Checkpoint: each appends onto a row of the caller's own. -/
import Derived.Test.YtmnojgdfbhdkhaaCdE
set_option linter.unusedVariables false
namespace Go.Proofs.Ytmnojgdfbhdkhaa
open Go.RowKit

/-- Of the old blocks only that of v has changed; v' lies there or in a new one. -/
structure Grew (w w' : World) (v v' : Value) : Prop where
  grown : w.grownBy w' v.ownBlock
  near : v'.ownBlock = v.ownBlock ∨ ∃ k, v'.ownBlock = some k ∧ w.heap.size ≤ k

theorem Grew.refl (w : World) (v : Value) : Grew w w v v := ⟨World.grownBy.rfl' _ _, .inl rfl⟩
theorem Grew.trans {w w1 w2 : World} {v v1 v2 : Value} (h : Grew w w1 v v1) (k : Grew w1 w2 v1 v2) : Grew w w2 v v2 := by
  refine ⟨⟨k.grown.os.trans h.grown.os, k.grown.tape.trans h.grown.tape, k.grown.output.trans h.grown.output, Nat.le_trans h.grown.size k.grown.size, fun i hi hne => ?_⟩, ?_⟩
  · have hne1 : some i ≠ v1.ownBlock := by
      rcases h.near with e | ⟨m, e, hm⟩
      · rw [e]; exact hne
      · rw [e]; intro he; cases he; omega
    exact (k.grown.block i (Nat.lt_of_lt_of_le hi h.grown.size) hne1).trans (h.grown.block i hi hne)
  · rcases k.near with e | ⟨m, e, hm⟩
    · rw [e]; exact h.near
    · exact .inr ⟨m, e, Nat.le_trans h.grown.size hm⟩
theorem Grew.below {w w1 : World} (v : Value) (h : Below w.heap.size w w1) : Grew w w1 v v := ⟨⟨h.os, h.tape, h.output, h.size, fun k hk _ => h.block k hk⟩, .inl rfl⟩
theorem Grew.at {w w' : World} {v v' : Value} (h : w.grownBy w' v.ownBlock) (h2 : v'.ownBlock = v.ownBlock ∨ v'.ownBlock = some w.heap.size) : Grew w w' v v' :=
  ⟨h, h2.imp id fun e => ⟨_, e, Nat.le_refl _⟩⟩
theorem Grew.alloc {w w' : World} {v v' : Value} {o : Obj} (h : (w.alloc o).grownBy w' v.ownBlock) (h2 : v'.ownBlock = v.ownBlock ∨ v'.ownBlock = some (w.alloc o).heap.size) : Grew w w' v v' :=
  (Grew.below v ((Below.refl _ w).alloc (Nat.le_refl _) o)).trans (Grew.at h h2)

/-- What they promise: from block B on memory is the caller's own. -/
def AppO (w : World) (B : Nat) (v : Value) (ys : List Int) (e : Ending) (w' : World) : Prop := ∃ v', e = .returned v' ∧ Own w' B v' ys ∧ Below B w w' ∧ Grew w w' v v'

theorem Own.blk_alloc {w w' : World} {B : Nat} {o : Obj} {v : Value} {xs : List Int} (ho : Own w B v xs) (hg : (w.alloc o).grownBy w' v.ownBlock) (hB : B ≤ w.heap.size) : Below B w w' :=
  Below.own ((Below.refl _ w).alloc hB _) hg (ho.alloc _) (Nat.le_refl _) (by simp; omega)

def UO (w : World) (B : Nat) (v : Value) (bs : List Int) (n : Int) (g m : Value) (wr : World) : Prop :=
  ∃ (gs : List Int) (x : Int), 0 ≤ x ∧ x ≤ 18446744073709551615 ∧ m = .int .u64 x ∧ gs ++ uenc x.toNat = uenc n.toNat ∧ Own wr B g (bs ++ gs) ∧ Below B w wr ∧ B ≤ wr.heap.size ∧ Grew w wr v g

theorem UO.next {w wr w2 : World} {B : Nat} {n x : Int} {v g v2 : Value} {bs gs : List Int} {t : TypeId} (hx0 : 128 ≤ x) (hx : x ≤ 18446744073709551615) (hg : gs ++ uenc x.toNat = uenc n.toNat) (ho : Own wr B g (bs ++ gs)) (hb : Below B w wr) (hB : B ≤ wr.heap.size)
    (ho2 : Own w2 B v2 (bs ++ gs ++ [x % 128 + 128])) (hg2 : (wr.alloc (.cells #[.int .u8 (x % 128 + 128)] t)).grownBy w2 g.ownBlock) (hgr : Grew w wr v g) (ha2 : v2.ownBlock = g.ownBlock ∨ v2.ownBlock = some (wr.alloc (.cells #[.int .u8 (x % 128 + 128)] t)).heap.size) : UO w B v bs n v2 (.int .u64 (x / 128)) w2 := by
  have h2 := Own.blk_alloc ho hg2 hB
  refine ⟨gs ++ [x % 128 + 128], x / 128, by omega, by omega, rfl, ?_, by rw [← List.append_assoc]; exact ho2, hb.trans h2, by have := h2.size; omega, hgr.trans (Grew.alloc hg2 ha2)⟩
  rw [uencI_more (by omega) hx0] at hg
  rw [List.append_assoc]
  exact hg

set_option maxRecDepth 100000 in
set_option maxHeartbeats 4000000 in
theorem ruint_any (v : Value) (bs : List Int) (n : Int) (w : World) (B : Nat) (h : Own w B v bs) (hB : B ≤ w.heap.size) (h0 : 0 ≤ n) (hn : n ≤ 18446744073709551615) (hb : bs.length ≤ 100000000000) :
    Calls Try.prog 19 #[v, .int .u64 n] w (AppO w B v (bs ++ uenc n.toNat)) := by
  have H := Lib.hid h; clear h
  have HUB := Lib.hid (fun (gs : List Int) (x : Int) (h : gs ++ uenc x.toNat = uenc n.toNat) => uenc_bytes h h0 hn)
  go_enter Try.func19, Try.ntmps19
  go_wp2_with fail
  go_loopw [0, 1] (fun g m wr => UO w B v bs n g m wr) (fun _ m _ => (intOf m).toNat)
  case atStart => exact ⟨[], n, h0, hn, rfl, rfl, by simpa using H.out, Below.refl _ _, hB, Grew.refl _ _⟩
  case round =>
    obtain ⟨gs, x, hx0, hx, rfl, hg, ho, hbl, hBr, hgr⟩ := hrel
    have HGR := Lib.hid hgr; clear hgr
    have HG := Lib.hid hg
    have hgl := (HUB.out gs x hg).1
    clear hg
    have HO := Lib.hid ho; clear ho
    by_cases hlt : 128 ≤ x
    · have e1 := or128I (n := x % 128) (by omega)
      have e2 := and127I hx0 hx
      have e3 : x % 128 % 256 = x % 128 := by omega
      have e4 : x % 128 % 128 = x % 128 := by omega
      have e8 := @wrap8I (x % 128)
      rw [e3, e4] at e1
      rw [e3] at e8
      clear e3 e4
      go_wp2_with ((with_reducible refine at_app _ _ ?_); refine wpList_appAt _ _ rfl rfl B _ _ rfl (HO.out.alloc _) _ _ rfl (byt_one (by omega) _) (by simp; omega) (by simp; omega) ?_; intro v2 w2 ho2 hg2 ha2)
      have HN := Lib.hid (UO.next hlt hx HG.out HO.out hbl hBr ho2 hg2 HGR.out ha2)
      clear ho2 hg2 ha2
      go_roundw
      case rel => exact HN.out
      case measure => simp [intOf]; omega
    · have hx1 : x < 128 := by omega
      have e8 := @wrap8I x
      have e9 : x % 256 = x := by omega
      rw [e9] at e8
      clear e9
      have HE : Hid (bs ++ gs ++ [x] = bs ++ uenc n.toNat) := by show _ = _; rw [← HG.out, uencI_one hx0 hx1, List.append_assoc]
      go_wp2_with ((with_reducible refine at_app _ _ ?_); refine wpList_appAt _ _ rfl rfl B _ _ rfl (HO.out.alloc _) _ _ rfl (byt_one (by omega) _) (by simp; omega) (by simp; omega) ?_; intro v2 w2 ho2 hg2 ha2)
      rw [HE.out] at ho2
      go_ret
      exact ⟨v2, rfl, ho2, hbl.trans (Own.blk_alloc HO.out hg2 hBr), HGR.out.trans (Grew.alloc hg2 ha2)⟩

set_option maxHeartbeats 1000000 in
theorem rbool_any (v : Value) (bs : List Int) (x : Bool) (w : World) (B : Nat) (h : Own w B v bs) (hB : B ≤ w.heap.size) (hb : bs.length ≤ 100000000000) :
    Calls Try.prog 50 #[v, .bool x] w (AppO w B v (bs ++ [if x then 1 else 0])) := by
  have H := Lib.hid h; clear h
  cases x
  all_goals
    go_enter Try.func50, Try.ntmps50
    go_wp2_with ((with_reducible refine at_app _ _ ?_); refine wpList_appAt _ _ rfl rfl B _ _ rfl (H.out.alloc _) _ _ rfl (byt_one (by omega) _) (by simp; omega) (by simp; omega) ?_; intro v2 w2 ho2 hg2 ha2)
    go_ret
    exact ⟨v2, rfl, by simpa using ho2, Own.blk_alloc H.out hg2 hB, Grew.alloc hg2 ha2⟩

set_option maxHeartbeats 1000000 in
theorem rroot_any (v : Value) (bs xs : List Int) (w : World) (B : Nat) (h : Own w B v bs) (hB : B ≤ w.heap.size) (hx : IsBytes 32 xs) (hb : bs.length ≤ 100000000000) :
    Calls Try.prog 47 #[v, .agg (bytesV xs)] w (AppO w B v (bs ++ xs)) := by
  have H := Lib.hid h; clear h
  have hX0 : (bytesV xs).size = 32 := bytesV_size hx.1
  have HX := Lib.hid hx
  have h32 : xs.length ≤ 32 := by rw [hx.1]; omega
  clear hx
  have Y : Hid (Byt (w.alloc (.cells (bytesV xs) 24)) (.slice (some ⟨w.heap.size, 0, none⟩) 32 32) xs) := byt_root HX.out (Blk.new rfl)
  obtain ⟨X, HXX⟩ : ∃ X, bytesV xs = X := ⟨_, rfl⟩
  rw [HXX] at hX0 Y ⊢
  clear HXX
  go_enter Try.func47, Try.ntmps47
  go_wp2_with ((with_reducible refine at_app _ _ ?_); refine wpList_appAt _ _ rfl rfl B _ _ rfl (H.out.alloc _) _ _ rfl Y.out (by omega) (by simp; omega) ?_; intro v2 w2 ho2 hg2 ha2)
  go_ret
  exact ⟨v2, rfl, ho2, Own.blk_alloc H.out hg2 hB, Grew.alloc hg2 ha2⟩

set_option maxHeartbeats 2000000 in
theorem rwide_any (v : Value) (bs : List Int) (n : Int) (w : World) (B : Nat) (h : Own w B v bs) (hB : B ≤ w.heap.size) (hn : W256 n) (hb : bs.length ≤ 100000000000) :
    Calls Try.prog 48 #[v, .agg #[.int .u64 (l0 (n)), .int .u64 (l1 (n)), .int .u64 (l2 (n)), .int .u64 (l3 (n))]] w (AppO w B v (bs ++ bytesN n)) := by
  have H := Lib.hid h; clear h
  have hbi := bytesN_is n
  have D := rtoB_any n hn
  have hX0 : (bytesV (bytesN n)).size = 32 := bytesV_size hbi.1
  have hX1 := bytesV_one (bytesN n)
  have h32 : (bytesN n).length ≤ 32 := by rw [hbi.1]; omega
  have e0 : ((bytesN n).map (Value.int .u8)).toArray = bytesV (bytesN n) := rfl
  rw [e0] at D
  obtain ⟨X, HX⟩ : ∃ X, Hid (X = bytesV (bytesN n)) := ⟨_, rfl⟩
  rw [← HX.out] at D hX0 hX1
  have HD := Lib.hid D; clear D e0
  have HX1 := Lib.hid hX1; clear hX1
  have HBI := Lib.hid hbi; clear hbi
  obtain ⟨Z, hZ⟩ : ∃ Z, Z = Array.replicate 32 (Value.int .u8 0) := ⟨_, rfl⟩
  have hsz : Z.size = 32 := by rw [hZ]; simp
  obtain ⟨hz32, hst⟩ := zero_array (P := Try.prog) (t := 23) (n := 32) Z (by rw [hZ]; kernel_rfl) hsz (by rw [hZ]; kernel_rfl)
  have HZ := Lib.hid hZ; clear hZ hst
  go_enter Try.func48, Try.ntmps48
  go_wp2_with (first
    | (go_at_call 74; refine (HD.out _).mono ?_; rintro e w1 ⟨rfl, hb1⟩; have HO1 := Lib.hid ((H.out.alloc _).call hb1); have hs1 := hb1.size; have HB1 := Lib.hid (((Below.refl _ w).alloc hB _).trans (hb1.mono (by simp; omega))); have HG1 := Lib.hid ((Grew.below v ((Below.refl _ w).alloc (Nat.le_refl _) _)).trans (Grew.below v hb1)); clear hb1)
    | ((with_reducible refine at_store _ ?_); refine wpList_store_blk rfl 23 _ _ rfl w1.heap.size X rfl rfl Z (Blk.new rfl) (by rw [hsz, hX0]) (by rw [hX0]; kernel_rfl) HX1.out ?_; intro w2 U2 B2
       have hb2 := U2.below ((Below.refl _ w1).alloc (Nat.le_refl _) (.cells Z 23)) (Nat.le_refl _); clear U2
       have HO2 := Lib.hid (HO1.out.call hb2)
       have HB2 := Lib.hid (HB1.out.trans (hb2.mono (by simp at hs1; omega)))
       have hs2 := hb2.size
       have HG2 := Lib.hid (HG1.out.trans (Grew.below v hb2))
       clear hb2
       have HY2 := Lib.hid (byt_root HBI.out (by rw [← HX.out]; exact B2)); clear B2)
    | ((with_reducible refine at_app _ _ ?_); refine wpList_appAt _ _ rfl rfl B _ _ rfl HO2.out _ _ rfl HY2.out (by omega) (by simp at hs1; omega) ?_; intro v3 w3 ho3 hg3 ha3))
  go_ret
  exact ⟨v3, rfl, ho3, Below.own HB2.out hg3 HO2.out (Nat.le_refl _) (by simp at hs1; omega), HG2.out.trans (Grew.at hg3 ha3)⟩

end Go.Proofs.Ytmnojgdfbhdkhaa
