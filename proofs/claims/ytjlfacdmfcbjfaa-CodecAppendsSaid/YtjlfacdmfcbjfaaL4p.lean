/- Stage 4: the walk of CodecAppends. -/
import Derived.Test.YtjlfacdmfcbjfaaCdH
import Derived.Test.YtjlfacdmfcbjfaaCdK
import Derived.Test.YtjlfacdmfcbjfaaOpenW
import Derived.Test.YtjlfacdmfcbjfaaHeldM
set_option linter.unusedVariables false
set_option linter.unusedSimpArgs false
namespace Go.Proofs.Ytjlfacdmfcbjfaa
open Go.RowKit

theorem own_cat {w : World} {B : Nat} {v : Value} {xs : List Int} (h : Own w B v ([] ++ xs)) : Own w B v xs := h

set_option maxRecDepth 1000000 in
set_option maxHeartbeats 16000000 in
theorem appends_any (a0 : Option Addr) (len0 cap0 : Nat) (z : List Int) (n : Int) (x : Bool) (r : List Int) (m : Int) (a5 : Option Addr) (len5 cap5 : Nat) (z5 : List Int) (w : World) (h : Byt w (.slice a0 len0 cap0) z) (h0 : 0 ≤ n) (hn : n ≤ 18446744073709551615)
    (hr : IsBytes 32 r) (hm : W256 m) (h5 : Byt w (.slice a5 len5 cap5) z5) (hl : len0 ≤ 1000) (hl5 : len5 ≤ 1000) :
    Calls Try.prog 3 #[.slice a0 len0 cap0, .int .u64 n, .bool x, .agg (bytesV r), .agg #[.int .u64 (l0 (m)), .int .u64 (l1 (m)), .int .u64 (l2 (m)), .int .u64 (l3 (m))], .slice a5 len5 cap5] w fun e w' => e = .returned (.bool true) ∧ Below w.heap.size w w' := by
  have hzl : z.length = len0 := by obtain ⟨_, _, _, e, h1, _⟩ := h.ints; cases e; exact h1
  have hzl5 : z5.length = len5 := by obtain ⟨_, _, _, e, h1, _⟩ := h5.ints; cases e; exact h1
  have hz1 : z.length ≤ 1000 := by omega
  have hz2 : z5.length ≤ 1000 := by omega
  have HZL := Lib.hid hzl; clear hzl
  have HZL5 := Lib.hid hzl5; clear hzl5
  have D1 := fun w h => auint_any (.slice a0 len0 cap0) z n w h h0 hn (by omega)
  have D2 := fun w h => abool_any (.slice a0 len0 cap0) z x w h (by omega)
  have D3 := fun w h => aroot_any (.slice a0 len0 cap0) z r w h hr (by omega)
  have D4 := fun w h => awide_any (.slice a0 len0 cap0) z m w h hm (by omega)
  have D5 := fun w h => acheck_any (.slice a0 len0 cap0) z n r w h h0 hn hr (by omega)
  have D6 := fun w h hy => abytes_any (.slice a0 len0 cap0) (.slice a5 len5 cap5) z z5 w h hy (by omega) (by omega)
  have R1 := fun v w B h hB => ruint_any v z n w B h hB h0 hn (by omega)
  have R2 := fun v w B h hB => rbool_any v z x w B h hB (by omega)
  have R3 := fun v w B h hB => rroot_any v z r w B h hB hr (by omega)
  have R4 := fun v w B h hB => rwide_any v z m w B h hB hm (by omega)
  have R5 := fun v w B h hB => rcheck_any v z n r w B h hB h0 hn hr (by omega)
  have R6 := fun v w B h hB hy hyB => rbytes_any v (.slice a5 len5 cap5) z z5 w B h hB hy hyB (by omega) (by omega)
  have hX0 : (bytesV r).size = 32 := bytesV_size hr.1
  have hY0 : (cpV n r).size = 33 := cpV_size hr
  have hY1 := cpV_one n r
  have hbc := build_cp n r hr
  have hi32 : (Try.prog.info? 25).map (·.size) = some (bytesV r).size := by rw [hX0]; kernel_rfl
  have hi33 : (Try.prog.info? 30).map (·.size) = some (cpV n r).size := by rw [hY0]; kernel_rfl
  have hi4 : (Try.prog.info? 27).map (·.size) = some (#[Value.int .u64 (l0 m), .int .u64 (l1 m), .int .u64 (l2 m), .int .u64 (l3 m)] : Array Value).size := by kernel_rfl
  obtain ⟨Z, hZ⟩ : ∃ Z, Z = cpV 0 zeroR := ⟨_, rfl⟩
  have hsz : Z.size = 33 := by rw [hZ]; exact cpV_size zeroR_is
  obtain ⟨hz33, hst⟩ := zero_array (P := Try.prog) (t := 30) (n := 33) Z (by rw [hZ]; kernel_rfl) hsz (by rw [hZ]; kernel_rfl)
  have HZ := Lib.hid hZ; clear hZ hst
  obtain ⟨X, HX⟩ : ∃ X, bytesV r = X := ⟨_, rfl⟩
  obtain ⟨Y, HY⟩ : ∃ Y, cpV n r = Y := ⟨_, rfl⟩
  rw [HX] at D3 R3 hX0 hbc hi32 ⊢
  rw [HY] at D5 R5 hY0 hY1 hbc hi33
  have H1 := Lib.hid D1; clear D1
  have H2 := Lib.hid D2; clear D2
  have H3 := Lib.hid D3; clear D3
  have H4 := Lib.hid D4; clear D4
  have H5 := Lib.hid D5; clear D5
  have H6 := Lib.hid D6; clear D6
  have G1 := Lib.hid R1; clear R1
  have G2 := Lib.hid R2; clear R2
  have G3 := Lib.hid R3; clear R3
  have G4 := Lib.hid R4; clear R4
  have G5 := Lib.hid R5; clear R5
  have G6 := Lib.hid R6; clear R6
  have HY1 := Lib.hid hY1; clear hY1
  have HBC := Lib.hid hbc; clear hbc
  have h5lt := Lib.hid h5.blk_lt
  have HB := Lib.hid h; clear h
  have HB5 := Lib.hid h5; clear h5
  clear HX HY
  have b2 : Below w.heap.size w ((w.alloc (.cells X 25)).alloc (.cells #[.int .u64 (l0 m), .int .u64 (l1 m), .int .u64 (l2 m), .int .u64 (l3 m)] 27)) := ((Below.refl _ _).alloc (Nat.le_refl _) _).alloc (by simp) _
  have HB2 := Lib.hid b2; clear b2
  have KX0 : Hid (Blk ((w.alloc (.cells X 25)).alloc (.cells #[.int .u64 (l0 m), .int .u64 (l1 m), .int .u64 (l2 m), .int .u64 (l3 m)] 27)) w.heap.size X) := (Blk.new rfl).alloc _
  have KW0 : Hid (Blk ((w.alloc (.cells X 25)).alloc (.cells #[.int .u64 (l0 m), .int .u64 (l1 m), .int .u64 (l2 m), .int .u64 (l3 m)] 27)) (w.heap.size + 1) #[.int .u64 (l0 m), .int .u64 (l1 m), .int .u64 (l2 m), .int .u64 (l3 m)]) := Blk.new (by simp)
  have HAZ : Hid (([] : List Int).length + z.length ≤ 140737488355328) := by show _ ≤ _; simp only [List.length_nil]; omega
  have hzr := HB.out.rng
  have hul := uenc_len10 (n := n.toNat) (by omega)
  have hul5 := uenc_len10 (n := z5.length) (by omega)
  have hub := uenc_byte n.toNat
  have hub5 := uenc_byte z5.length
  have hrl : r.length ≤ 32 := by rw [hr.1]; omega
  have hml : (bytesN m).length ≤ 32 := by rw [(bytesN_is m).1]; omega
  have happ : ∀ (ys : List Int), ys.length ≤ 100000 → (z ++ ys).length ≤ maxLen := fun ys h => by rw [List.length_append]; unfold maxLen; omega
  have hrng : ∀ (ys : List Int), (∀ y ∈ ys, 0 ≤ y ∧ y ≤ 255) → ∀ y ∈ z ++ ys, 0 ≤ y ∧ y ≤ 255 := fun ys h y hy => by
    rcases List.mem_append.1 hy with hy | hy
    · exact hzr y hy
    · exact h y hy
  have HLNUint := Lib.hid (happ (uenc n.toNat) (by omega))
  have HRNUint := Lib.hid (hrng (uenc n.toNat) hub)
  have HLNBool := Lib.hid (happ [if x then 1 else 0] (by simp))
  have HRNBool := Lib.hid (hrng [if x then 1 else 0] (by intro y hy; simp at hy; subst hy; split <;> omega))
  have HLNRoot := Lib.hid (happ r (by omega))
  have HRNRoot := Lib.hid (hrng r (isb_rng hr))
  have HLNWide := Lib.hid (happ (bytesN m) (by omega))
  have HRNWide := Lib.hid (hrng (bytesN m) (isb_rng (bytesN_is m)))
  have HLNCheckpoint := Lib.hid (happ (uenc n.toNat ++ r) (by rw [List.length_append]; omega))
  have HRNCheckpoint := Lib.hid (hrng (uenc n.toNat ++ r) (by intro y hy; rcases List.mem_append.1 hy with hy | hy; exact hub y hy; exact isb_rng hr y hy))
  have HLNBytes := Lib.hid (happ (uenc z5.length ++ z5) (by rw [List.length_append]; omega))
  have HRNBytes := Lib.hid (hrng (uenc z5.length ++ z5) (by intro y hy; rcases List.mem_append.1 hy with hy | hy; exact hub5 y hy; exact HB5.out.rng y hy))
  clear hzr hul hul5 hub hub5 hrl hml happ hrng hr
  go_enter Try.func3, Try.ntmps3
  go_wp2_with (first
    | ((with_reducible refine at_load (.tmp 9) ?_); refine wpList_load_g 25 _ rfl w.heap.size rfl X _ KX0.out Try.underlying25 rfl hi32 rfl ?_)
    | ((with_reducible refine at_build _ ?_); refine wpList_build rfl 30 _ rfl #[(0, .int .u64 n), (1, .agg X)] (by simp [Act.eval, Act.put]) (.agg Y) (HBC.out _) ?_)
    | ((with_reducible refine at_store (.tmp 13) ?_); refine wpList_store_blk rfl 30 _ _ rfl (w.heap.size + 1 + 1) Y rfl rfl Z (Blk.new (by simp)) (by rw [hsz, hY0]) hi33 HY1.out ?_; intro w3 U3 KY
       have hb3 := U3.below (HB2.out.alloc (by simp; omega) (.cells Z 30)) (by omega)
       have HB3 := Lib.hid hb3
       have HBY := Lib.hid (HB.out.below hb3)
       have HB5Y := Lib.hid (HB5.out.below hb3)
       have HKX := Lib.hid (U3.blk (KX0.out.alloc (.cells Z 30)) (by omega))
       have HKW := Lib.hid (U3.blk (KW0.out.alloc (.cells Z 30)) (by omega))
       have HKY := Lib.hid KY
       have HW := Lib.hid (Below.refl w3.heap.size w3)
       clear hb3 U3 KY))
  simp only [List.append_eq, List.cons_append, List.nil_append]
  obtain ⟨wd, hwd⟩ : ∃ wd, World.drew w3 = wd := ⟨_, rfl⟩
  have HWd := Lib.hid (show Below w3.heap.size w3 wd from hwd ▸ ⟨rfl, rfl, rfl, Nat.le_refl _, fun _ _ => rfl⟩)
  clear HW
  have HW := HWd
  clear HWd
  have IX : (Try.prog.info? 25).map (·.size) = some (Array.toList X).length := hi32
  have IW : (Try.prog.info? 27).map (·.size) = some (Array.toList #[Value.int .u64 (l0 m), Value.int .u64 (l1 m), Value.int .u64 (l2 m), Value.int .u64 (l3 m)]).length := hi4
  have IY : (Try.prog.info? 30).map (·.size) = some (Array.toList Y).length := hi33
  refine wp_region_held_drew (S := fun u => Below wd.heap.size wd u) (by kernel_rfl) (by rw [hwd]; exact Below.refl _ _) (fun _ => ?_)
  rw [hwd]
  clear hwd
  (try simp only [Act.put, List.setIfInBounds_toArray, List.set_cons_zero, List.set_cons_succ])
  refine wpAnyH_take (i := 0) (oi := ({ dst := some 26, op := Op.move (Operand.tmp 0), type := 22, pos := "law.go:26", after := #[], guard := none } : Oper)) (v := ?_) rfl (by kernel_rfl) (by kernel_rfl) (by kernel_rfl) (fun _ _ _ h => h) (Or.inl ⟨by rfl, ?_⟩) (Below.refl _ _) ?_
  rotate_left
  · (intro wz hz; go_simp; try with_reducible rfl)
  (try simp only [Act.put, List.setIfInBounds_toArray, List.set_cons_zero, List.set_cons_succ])
  refine wpAnyH_take (i := 1) (oi := ({ dst := some 27, op := Op.move (Operand.tmp 1), type := 23, pos := "law.go:26", after := #[], guard := none } : Oper)) (v := ?_) rfl (by kernel_rfl) (by kernel_rfl) (by kernel_rfl) (fun _ _ _ h => h) (Or.inl ⟨by rfl, ?_⟩) (Below.refl _ _) ?_
  rotate_left
  · (intro wz hz; go_simp; try with_reducible rfl)
  (try simp only [Act.put, List.setIfInBounds_toArray, List.set_cons_zero, List.set_cons_succ])
  refine wpAnyH_take (i := 4) (oi := ({ dst := some 30, op := Op.move (Operand.tmp 0), type := 22, pos := "law.go:26", after := #[], guard := none } : Oper)) (v := ?_) rfl (by kernel_rfl) (by kernel_rfl) (by kernel_rfl) (fun _ _ _ h => h) (Or.inl ⟨by rfl, ?_⟩) (Below.refl _ _) ?_
  rotate_left
  · (intro wz hz; go_simp; try with_reducible rfl)
  (try simp only [Act.put, List.setIfInBounds_toArray, List.set_cons_zero, List.set_cons_succ])
  refine wpAnyH_take (i := 6) (oi := ({ dst := some 32, op := Op.move (Operand.tmp 1), type := 23, pos := "law.go:26", after := #[], guard := none } : Oper)) (v := ?_) rfl (by kernel_rfl) (by kernel_rfl) (by kernel_rfl) (fun _ _ _ h => h) (Or.inl ⟨by rfl, ?_⟩) (Below.refl _ _) ?_
  rotate_left
  · (intro wz hz; go_simp; try with_reducible rfl)
  (try simp only [Act.put, List.setIfInBounds_toArray, List.set_cons_zero, List.set_cons_succ])
  refine wpAnyH_ready (rs := [2]) (by kernel_rfl) (by simp) ?_
  refine AllReadyH.cons (o := ({ dst := some 28, op := Op.call { callee := Callee.value (Operand.func 10), args := #[Operand.tmp 26, Operand.tmp 27], argTypes := #[22, 23] }, type := 22, pos := "law.go:26", after := #[{ on := 0, ground := Ground.data }, { on := 1, ground := Ground.data }], guard := none } : Oper)) rfl (fun K hK => ?_) AllReadyH.nil
  go_simp
  refine (H1.out _ (HBY.out.below HW.out)).mono ?_
  rintro e wa ⟨va, rfl, hy, hb⟩
  refine held_grow hK hb (fun u => Below wa.heap.size wa u) (fun u hu => bel0 hb hu) ?_
  clear hK K
  (try simp only [Act.put, List.setIfInBounds_toArray, List.set_cons_zero, List.set_cons_succ])
  have HWA := Lib.hid (HW.out.trans (hb.mono HW.out.size))
  have HYA := Lib.hid hy
  clear hb hy
  refine wpAnyH_take (i := 3) (oi := ({ dst := some 29, op := Op.convert 22 9 (Operand.tmp 28), type := 9, pos := "law.go:26", after := #[{ on := 2, ground := Ground.data }], guard := none } : Oper)) (v := ?_) rfl (by kernel_rfl) (by kernel_rfl) (by kernel_rfl) (fun _ _ _ h => h) (Or.inl ⟨by rfl, ?_⟩) (Below.refl _ _) ?_
  rotate_left
  · (intro wz hz; have hc := conv_any (HYA.out.below hz); go_simp; try with_reducible rfl)
  (try simp only [Act.put, List.setIfInBounds_toArray, List.set_cons_zero, List.set_cons_succ])
  refine wpAnyH_ready (rs := [5]) (by kernel_rfl) (by simp) ?_
  refine AllReadyH.cons (o := ({ dst := some 31, op := Op.call { callee := Callee.builtin Builtin.append, args := #[Operand.const (Value.slice none 0 0), Operand.tmp 30], argTypes := #[22, 22] }, type := 22, pos := "law.go:26", after := #[{ on := 4, ground := Ground.data }, { on := 2, ground := Ground.chain }], guard := none } : Oper)) rfl (fun K hK => ?_) AllReadyH.nil
  rw [if_pos (by rfl)]
  refine wp_app _ _ rfl wa.heap.size _ [] rfl (Own.nil _ _) _ z rfl (HBY.out.below HWA.out) HAZ.out (Nat.le_refl _) ?_
  intro vp wp ho hg
  have hbp := Below.own (Below.refl wa.heap.size wa) hg (Own.nil _ _) (Nat.le_refl _) (Nat.le_refl _)
  refine hK.out _ _ hbp (fun _ => ?_)
  clear hK K
  (try simp only [Act.put, List.setIfInBounds_toArray, List.set_cons_zero, List.set_cons_succ])
  have HO := Lib.hid (own_cat ho)
  have HBP := Lib.hid hbp
  clear ho hg hbp
  refine wpAnyH_ready (rs := [7]) (by kernel_rfl) (by simp) ?_
  refine AllReadyH.cons (o := ({ dst := some 33, op := Op.call { callee := Callee.value (Operand.func 11), args := #[Operand.tmp 31, Operand.tmp 32], argTypes := #[22, 23] }, type := 22, pos := "law.go:26", after := #[{ on := 5, ground := Ground.data }, { on := 6, ground := Ground.data }, { on := 5, ground := Ground.chain }], guard := none } : Oper)) rfl (fun K hK => ?_) AllReadyH.nil
  go_simp
  refine (G1.out _ _ _ HO.out HBP.out.size).mono ?_
  rintro e wb ⟨vb, rfl, ho, hb, _⟩
  have hb2 := HBP.out.trans hb
  refine held_grow hK hb2 (fun u => Below wb.heap.size wb u) (fun u hu => bel0 hb2 hu) ?_
  clear hK K
  (try simp only [Act.put, List.setIfInBounds_toArray, List.set_cons_zero, List.set_cons_succ])
  have HYB := Lib.hid (ho.byt HLNUint.out HRNUint.out)
  have HW' := Lib.hid (HWA.out.trans (hb2.mono HWA.out.size))
  clear hb hb2 ho HO HBP HWA HW
  have HW := HW'
  clear HW'
  refine wpAnyH_take (i := 8) (oi := ({ dst := some 34, op := Op.convert 22 9 (Operand.tmp 33), type := 9, pos := "law.go:26", after := #[{ on := 7, ground := Ground.data }], guard := none } : Oper)) (v := ?_) rfl (by kernel_rfl) (by kernel_rfl) (by kernel_rfl) (fun _ _ _ h => h) (Or.inl ⟨by rfl, ?_⟩) (Below.refl _ _) ?_
  rotate_left
  · (intro wz hz; have hc := conv_any (HYB.out.below hz); go_simp; try with_reducible rfl)
  (try simp only [Act.put, List.setIfInBounds_toArray, List.set_cons_zero, List.set_cons_succ])
  refine wpAnyH_take (i := 9) (oi := ({ dst := some 35, op := Op.binOp BinOp.eql 9 (Operand.tmp 29) (Operand.tmp 34) 9, type := 4, pos := "law.go:26", after := #[{ on := 3, ground := Ground.data }, { on := 8, ground := Ground.data }], guard := none } : Oper)) (v := .bool true) rfl (by kernel_rfl) (by kernel_rfl) (by kernel_rfl) (fun _ _ _ h => h) (Or.inl ⟨by rfl, ?_⟩) (Below.refl _ _) ?_
  · (intro wz hz; go_simp; try with_reducible rfl)
  (try simp only [Act.put, List.setIfInBounds_toArray, List.set_cons_zero, List.set_cons_succ])
  refine wpAnyH_take (i := 10) (oi := ({ dst := some 36, op := Op.move (Operand.tmp 35), type := 4, pos := "law.go:26", after := #[{ on := 9, ground := Ground.data }, { on := 7, ground := Ground.chain }], guard := none } : Oper)) (v := .bool true) rfl (by kernel_rfl) (by kernel_rfl) (by kernel_rfl) (fun _ _ _ h => h) (Or.inl ⟨by rfl, ?_⟩) (Below.refl _ _) ?_
  · (intro wz hz; go_simp; try with_reducible rfl)
  (try simp only [Act.put, List.setIfInBounds_toArray, List.set_cons_zero, List.set_cons_succ])
  clear HYA HYB
  refine wpAnyH_take (i := 11) (oi := ({ dst := some 37, op := Op.move (Operand.tmp 0), type := 22, pos := "law.go:26", after := #[{ on := 10, ground := Ground.guard }], guard := some (10, true) } : Oper)) (v := ?_) rfl (by kernel_rfl) (by kernel_rfl) (by kernel_rfl) (fun _ _ _ h => h) (Or.inl ⟨by rfl, ?_⟩) (Below.refl _ _) ?_
  rotate_left
  · (intro wz hz; go_simp; try with_reducible rfl)
  (try simp only [Act.put, List.setIfInBounds_toArray, List.set_cons_zero, List.set_cons_succ])
  refine wpAnyH_take (i := 12) (oi := ({ dst := some 38, op := Op.move (Operand.tmp 2), type := 4, pos := "law.go:26", after := #[{ on := 10, ground := Ground.guard }], guard := some (10, true) } : Oper)) (v := ?_) rfl (by kernel_rfl) (by kernel_rfl) (by kernel_rfl) (fun _ _ _ h => h) (Or.inl ⟨by rfl, ?_⟩) (Below.refl _ _) ?_
  rotate_left
  · (intro wz hz; go_simp; try with_reducible rfl)
  (try simp only [Act.put, List.setIfInBounds_toArray, List.set_cons_zero, List.set_cons_succ])
  refine wpAnyH_take (i := 15) (oi := ({ dst := some 41, op := Op.move (Operand.tmp 0), type := 22, pos := "law.go:26", after := #[{ on := 10, ground := Ground.guard }], guard := some (10, true) } : Oper)) (v := ?_) rfl (by kernel_rfl) (by kernel_rfl) (by kernel_rfl) (fun _ _ _ h => h) (Or.inl ⟨by rfl, ?_⟩) (Below.refl _ _) ?_
  rotate_left
  · (intro wz hz; go_simp; try with_reducible rfl)
  (try simp only [Act.put, List.setIfInBounds_toArray, List.set_cons_zero, List.set_cons_succ])
  refine wpAnyH_take (i := 17) (oi := ({ dst := some 43, op := Op.move (Operand.tmp 2), type := 4, pos := "law.go:26", after := #[{ on := 10, ground := Ground.guard }], guard := some (10, true) } : Oper)) (v := ?_) rfl (by kernel_rfl) (by kernel_rfl) (by kernel_rfl) (fun _ _ _ h => h) (Or.inl ⟨by rfl, ?_⟩) (Below.refl _ _) ?_
  rotate_left
  · (intro wz hz; go_simp; try with_reducible rfl)
  (try simp only [Act.put, List.setIfInBounds_toArray, List.set_cons_zero, List.set_cons_succ])
  refine wpAnyH_ready (rs := [13]) (by kernel_rfl) (by simp) ?_
  refine AllReadyH.cons (o := ({ dst := some 39, op := Op.call { callee := Callee.value (Operand.func 12), args := #[Operand.tmp 37, Operand.tmp 38], argTypes := #[22, 4] }, type := 22, pos := "law.go:26", after := #[{ on := 11, ground := Ground.data }, { on := 12, ground := Ground.data }, { on := 10, ground := Ground.chain }, { on := 10, ground := Ground.guard }], guard := some (10, true) } : Oper)) rfl (fun K hK => ?_) AllReadyH.nil
  go_simp
  refine (H2.out _ (HBY.out.below HW.out)).mono ?_
  rintro e wa ⟨va, rfl, hy, hb⟩
  refine held_grow hK hb (fun u => Below wa.heap.size wa u) (fun u hu => bel0 hb hu) ?_
  clear hK K
  (try simp only [Act.put, List.setIfInBounds_toArray, List.set_cons_zero, List.set_cons_succ])
  have HWA := Lib.hid (HW.out.trans (hb.mono HW.out.size))
  have HYA := Lib.hid hy
  clear hb hy
  refine wpAnyH_take (i := 14) (oi := ({ dst := some 40, op := Op.convert 22 9 (Operand.tmp 39), type := 9, pos := "law.go:26", after := #[{ on := 13, ground := Ground.data }, { on := 10, ground := Ground.guard }], guard := some (10, true) } : Oper)) (v := ?_) rfl (by kernel_rfl) (by kernel_rfl) (by kernel_rfl) (fun _ _ _ h => h) (Or.inl ⟨by rfl, ?_⟩) (Below.refl _ _) ?_
  rotate_left
  · (intro wz hz; have hc := conv_any (HYA.out.below hz); go_simp; try with_reducible rfl)
  (try simp only [Act.put, List.setIfInBounds_toArray, List.set_cons_zero, List.set_cons_succ])
  refine wpAnyH_ready (rs := [16]) (by kernel_rfl) (by simp) ?_
  refine AllReadyH.cons (o := ({ dst := some 42, op := Op.call { callee := Callee.builtin Builtin.append, args := #[Operand.const (Value.slice none 0 0), Operand.tmp 41], argTypes := #[22, 22] }, type := 22, pos := "law.go:26", after := #[{ on := 15, ground := Ground.data }, { on := 13, ground := Ground.chain }, { on := 10, ground := Ground.guard }], guard := some (10, true) } : Oper)) rfl (fun K hK => ?_) AllReadyH.nil
  rw [if_pos (by rfl)]
  refine wp_app _ _ rfl wa.heap.size _ [] rfl (Own.nil _ _) _ z rfl (HBY.out.below HWA.out) HAZ.out (Nat.le_refl _) ?_
  intro vp wp ho hg
  have hbp := Below.own (Below.refl wa.heap.size wa) hg (Own.nil _ _) (Nat.le_refl _) (Nat.le_refl _)
  refine hK.out _ _ hbp (fun _ => ?_)
  clear hK K
  (try simp only [Act.put, List.setIfInBounds_toArray, List.set_cons_zero, List.set_cons_succ])
  have HO := Lib.hid (own_cat ho)
  have HBP := Lib.hid hbp
  clear ho hg hbp
  refine wpAnyH_ready (rs := [18]) (by kernel_rfl) (by simp) ?_
  refine AllReadyH.cons (o := ({ dst := some 44, op := Op.call { callee := Callee.value (Operand.func 13), args := #[Operand.tmp 42, Operand.tmp 43], argTypes := #[22, 4] }, type := 22, pos := "law.go:26", after := #[{ on := 16, ground := Ground.data }, { on := 17, ground := Ground.data }, { on := 16, ground := Ground.chain }, { on := 10, ground := Ground.guard }], guard := some (10, true) } : Oper)) rfl (fun K hK => ?_) AllReadyH.nil
  go_simp
  refine (G2.out _ _ _ HO.out HBP.out.size).mono ?_
  rintro e wb ⟨vb, rfl, ho, hb, _⟩
  have hb2 := HBP.out.trans hb
  refine held_grow hK hb2 (fun u => Below wb.heap.size wb u) (fun u hu => bel0 hb2 hu) ?_
  clear hK K
  (try simp only [Act.put, List.setIfInBounds_toArray, List.set_cons_zero, List.set_cons_succ])
  have HYB := Lib.hid (ho.byt HLNBool.out HRNBool.out)
  have HW' := Lib.hid (HWA.out.trans (hb2.mono HWA.out.size))
  clear hb hb2 ho HO HBP HWA HW
  have HW := HW'
  clear HW'
  refine wpAnyH_take (i := 19) (oi := ({ dst := some 45, op := Op.convert 22 9 (Operand.tmp 44), type := 9, pos := "law.go:26", after := #[{ on := 18, ground := Ground.data }, { on := 10, ground := Ground.guard }], guard := some (10, true) } : Oper)) (v := ?_) rfl (by kernel_rfl) (by kernel_rfl) (by kernel_rfl) (fun _ _ _ h => h) (Or.inl ⟨by rfl, ?_⟩) (Below.refl _ _) ?_
  rotate_left
  · (intro wz hz; have hc := conv_any (HYB.out.below hz); go_simp; try with_reducible rfl)
  (try simp only [Act.put, List.setIfInBounds_toArray, List.set_cons_zero, List.set_cons_succ])
  refine wpAnyH_take (i := 20) (oi := ({ dst := some 46, op := Op.binOp BinOp.eql 9 (Operand.tmp 40) (Operand.tmp 45) 9, type := 4, pos := "law.go:26", after := #[{ on := 14, ground := Ground.data }, { on := 19, ground := Ground.data }, { on := 10, ground := Ground.guard }], guard := some (10, true) } : Oper)) (v := .bool true) rfl (by kernel_rfl) (by kernel_rfl) (by kernel_rfl) (fun _ _ _ h => h) (Or.inl ⟨by rfl, ?_⟩) (Below.refl _ _) ?_
  · (intro wz hz; go_simp; try with_reducible rfl)
  (try simp only [Act.put, List.setIfInBounds_toArray, List.set_cons_zero, List.set_cons_succ])
  refine wpAnyH_take (i := 21) (oi := ({ dst := some 47, op := Op.pick (Operand.tmp 36) (Operand.tmp 46) (Operand.const (Value.bool false)), type := 4, pos := "law.go:26", after := #[{ on := 10, ground := Ground.data }, { on := 20, ground := Ground.data }], guard := none } : Oper)) (v := .bool true) rfl (by kernel_rfl) (by kernel_rfl) (by kernel_rfl) (fun _ _ _ h => h) (Or.inl ⟨by rfl, ?_⟩) (Below.refl _ _) ?_
  · (intro wz hz; go_simp; try with_reducible rfl)
  (try simp only [Act.put, List.setIfInBounds_toArray, List.set_cons_zero, List.set_cons_succ])
  refine wpAnyH_take (i := 22) (oi := ({ dst := some 48, op := Op.move (Operand.tmp 47), type := 4, pos := "law.go:26", after := #[{ on := 21, ground := Ground.data }, { on := 18, ground := Ground.chain }], guard := none } : Oper)) (v := .bool true) rfl (by kernel_rfl) (by kernel_rfl) (by kernel_rfl) (fun _ _ _ h => h) (Or.inl ⟨by rfl, ?_⟩) (Below.refl _ _) ?_
  · (intro wz hz; go_simp; try with_reducible rfl)
  (try simp only [Act.put, List.setIfInBounds_toArray, List.set_cons_zero, List.set_cons_succ])
  clear HYA HYB
  refine wpAnyH_take (i := 23) (oi := ({ dst := some 49, op := Op.move (Operand.tmp 0), type := 22, pos := "law.go:26", after := #[{ on := 22, ground := Ground.guard }], guard := some (22, true) } : Oper)) (v := ?_) rfl (by kernel_rfl) (by kernel_rfl) (by kernel_rfl) (fun _ _ _ h => h) (Or.inl ⟨by rfl, ?_⟩) (Below.refl _ _) ?_
  rotate_left
  · (intro wz hz; go_simp; try with_reducible rfl)
  (try simp only [Act.put, List.setIfInBounds_toArray, List.set_cons_zero, List.set_cons_succ])
  refine wpAnyH_take (i := 24) (oi := ({ dst := some 50, op := Op.load 25 (Operand.tmp 9), type := 25, pos := "law.go:26", after := #[{ on := 22, ground := Ground.guard }], guard := some (22, true) } : Oper)) (v := .agg X) rfl (by kernel_rfl) (by kernel_rfl) (by kernel_rfl) (fun _ _ _ h => h) (yieldsIf_load_mid (by rfl) 25 _ rfl w.heap.size 0 rfl (Array.toList X) _ (fun u hu => (((HKX.out).call HW.out).call hu).range) Try.underlying25 rfl IX) (Below.refl _ _) ?_
  (try simp only [Act.put, List.setIfInBounds_toArray, List.set_cons_zero, List.set_cons_succ])
  refine wpAnyH_take (i := 27) (oi := ({ dst := some 53, op := Op.move (Operand.tmp 0), type := 22, pos := "law.go:26", after := #[{ on := 22, ground := Ground.guard }], guard := some (22, true) } : Oper)) (v := ?_) rfl (by kernel_rfl) (by kernel_rfl) (by kernel_rfl) (fun _ _ _ h => h) (Or.inl ⟨by rfl, ?_⟩) (Below.refl _ _) ?_
  rotate_left
  · (intro wz hz; go_simp; try with_reducible rfl)
  (try simp only [Act.put, List.setIfInBounds_toArray, List.set_cons_zero, List.set_cons_succ])
  refine wpAnyH_take (i := 29) (oi := ({ dst := some 55, op := Op.load 25 (Operand.tmp 9), type := 25, pos := "law.go:26", after := #[{ on := 22, ground := Ground.guard }], guard := some (22, true) } : Oper)) (v := .agg X) rfl (by kernel_rfl) (by kernel_rfl) (by kernel_rfl) (fun _ _ _ h => h) (yieldsIf_load_mid (by rfl) 25 _ rfl w.heap.size 0 rfl (Array.toList X) _ (fun u hu => (((HKX.out).call HW.out).call hu).range) Try.underlying25 rfl IX) (Below.refl _ _) ?_
  (try simp only [Act.put, List.setIfInBounds_toArray, List.set_cons_zero, List.set_cons_succ])
  refine wpAnyH_ready (rs := [25]) (by kernel_rfl) (by simp) ?_
  refine AllReadyH.cons (o := ({ dst := some 51, op := Op.call { callee := Callee.value (Operand.func 14), args := #[Operand.tmp 49, Operand.tmp 50], argTypes := #[22, 25] }, type := 22, pos := "law.go:26", after := #[{ on := 23, ground := Ground.data }, { on := 24, ground := Ground.data }, { on := 22, ground := Ground.chain }, { on := 22, ground := Ground.guard }], guard := some (22, true) } : Oper)) rfl (fun K hK => ?_) AllReadyH.nil
  go_simp
  refine (H3.out _ (HBY.out.below HW.out)).mono ?_
  rintro e wa ⟨va, rfl, hy, hb⟩
  refine held_grow hK hb (fun u => Below wa.heap.size wa u) (fun u hu => bel0 hb hu) ?_
  clear hK K
  (try simp only [Act.put, List.setIfInBounds_toArray, List.set_cons_zero, List.set_cons_succ])
  have HWA := Lib.hid (HW.out.trans (hb.mono HW.out.size))
  have HYA := Lib.hid hy
  clear hb hy
  refine wpAnyH_take (i := 26) (oi := ({ dst := some 52, op := Op.convert 22 9 (Operand.tmp 51), type := 9, pos := "law.go:26", after := #[{ on := 25, ground := Ground.data }, { on := 22, ground := Ground.guard }], guard := some (22, true) } : Oper)) (v := ?_) rfl (by kernel_rfl) (by kernel_rfl) (by kernel_rfl) (fun _ _ _ h => h) (Or.inl ⟨by rfl, ?_⟩) (Below.refl _ _) ?_
  rotate_left
  · (intro wz hz; have hc := conv_any (HYA.out.below hz); go_simp; try with_reducible rfl)
  (try simp only [Act.put, List.setIfInBounds_toArray, List.set_cons_zero, List.set_cons_succ])
  refine wpAnyH_ready (rs := [28]) (by kernel_rfl) (by simp) ?_
  refine AllReadyH.cons (o := ({ dst := some 54, op := Op.call { callee := Callee.builtin Builtin.append, args := #[Operand.const (Value.slice none 0 0), Operand.tmp 53], argTypes := #[22, 22] }, type := 22, pos := "law.go:26", after := #[{ on := 27, ground := Ground.data }, { on := 25, ground := Ground.chain }, { on := 22, ground := Ground.guard }], guard := some (22, true) } : Oper)) rfl (fun K hK => ?_) AllReadyH.nil
  rw [if_pos (by rfl)]
  refine wp_app _ _ rfl wa.heap.size _ [] rfl (Own.nil _ _) _ z rfl (HBY.out.below HWA.out) HAZ.out (Nat.le_refl _) ?_
  intro vp wp ho hg
  have hbp := Below.own (Below.refl wa.heap.size wa) hg (Own.nil _ _) (Nat.le_refl _) (Nat.le_refl _)
  refine hK.out _ _ hbp (fun _ => ?_)
  clear hK K
  (try simp only [Act.put, List.setIfInBounds_toArray, List.set_cons_zero, List.set_cons_succ])
  have HO := Lib.hid (own_cat ho)
  have HBP := Lib.hid hbp
  clear ho hg hbp
  refine wpAnyH_ready (rs := [30]) (by kernel_rfl) (by simp) ?_
  refine AllReadyH.cons (o := ({ dst := some 56, op := Op.call { callee := Callee.value (Operand.func 15), args := #[Operand.tmp 54, Operand.tmp 55], argTypes := #[22, 25] }, type := 22, pos := "law.go:26", after := #[{ on := 28, ground := Ground.data }, { on := 29, ground := Ground.data }, { on := 28, ground := Ground.chain }, { on := 22, ground := Ground.guard }], guard := some (22, true) } : Oper)) rfl (fun K hK => ?_) AllReadyH.nil
  go_simp
  refine (G3.out _ _ _ HO.out HBP.out.size).mono ?_
  rintro e wb ⟨vb, rfl, ho, hb, _⟩
  have hb2 := HBP.out.trans hb
  refine held_grow hK hb2 (fun u => Below wb.heap.size wb u) (fun u hu => bel0 hb2 hu) ?_
  clear hK K
  (try simp only [Act.put, List.setIfInBounds_toArray, List.set_cons_zero, List.set_cons_succ])
  have HYB := Lib.hid (ho.byt HLNRoot.out HRNRoot.out)
  have HW' := Lib.hid (HWA.out.trans (hb2.mono HWA.out.size))
  clear hb hb2 ho HO HBP HWA HW
  have HW := HW'
  clear HW'
  refine wpAnyH_take (i := 31) (oi := ({ dst := some 57, op := Op.convert 22 9 (Operand.tmp 56), type := 9, pos := "law.go:26", after := #[{ on := 30, ground := Ground.data }, { on := 22, ground := Ground.guard }], guard := some (22, true) } : Oper)) (v := ?_) rfl (by kernel_rfl) (by kernel_rfl) (by kernel_rfl) (fun _ _ _ h => h) (Or.inl ⟨by rfl, ?_⟩) (Below.refl _ _) ?_
  rotate_left
  · (intro wz hz; have hc := conv_any (HYB.out.below hz); go_simp; try with_reducible rfl)
  (try simp only [Act.put, List.setIfInBounds_toArray, List.set_cons_zero, List.set_cons_succ])
  refine wpAnyH_take (i := 32) (oi := ({ dst := some 58, op := Op.binOp BinOp.eql 9 (Operand.tmp 52) (Operand.tmp 57) 9, type := 4, pos := "law.go:26", after := #[{ on := 26, ground := Ground.data }, { on := 31, ground := Ground.data }, { on := 22, ground := Ground.guard }], guard := some (22, true) } : Oper)) (v := .bool true) rfl (by kernel_rfl) (by kernel_rfl) (by kernel_rfl) (fun _ _ _ h => h) (Or.inl ⟨by rfl, ?_⟩) (Below.refl _ _) ?_
  · (intro wz hz; go_simp; try with_reducible rfl)
  (try simp only [Act.put, List.setIfInBounds_toArray, List.set_cons_zero, List.set_cons_succ])
  refine wpAnyH_take (i := 33) (oi := ({ dst := some 59, op := Op.pick (Operand.tmp 48) (Operand.tmp 58) (Operand.const (Value.bool false)), type := 4, pos := "law.go:26", after := #[{ on := 22, ground := Ground.data }, { on := 32, ground := Ground.data }], guard := none } : Oper)) (v := .bool true) rfl (by kernel_rfl) (by kernel_rfl) (by kernel_rfl) (fun _ _ _ h => h) (Or.inl ⟨by rfl, ?_⟩) (Below.refl _ _) ?_
  · (intro wz hz; go_simp; try with_reducible rfl)
  (try simp only [Act.put, List.setIfInBounds_toArray, List.set_cons_zero, List.set_cons_succ])
  refine wpAnyH_take (i := 34) (oi := ({ dst := some 60, op := Op.move (Operand.tmp 59), type := 4, pos := "law.go:26", after := #[{ on := 33, ground := Ground.data }, { on := 30, ground := Ground.chain }], guard := none } : Oper)) (v := .bool true) rfl (by kernel_rfl) (by kernel_rfl) (by kernel_rfl) (fun _ _ _ h => h) (Or.inl ⟨by rfl, ?_⟩) (Below.refl _ _) ?_
  · (intro wz hz; go_simp; try with_reducible rfl)
  (try simp only [Act.put, List.setIfInBounds_toArray, List.set_cons_zero, List.set_cons_succ])
  clear HYA HYB
  refine wpAnyH_take (i := 35) (oi := ({ dst := some 61, op := Op.move (Operand.tmp 0), type := 22, pos := "law.go:26", after := #[{ on := 34, ground := Ground.guard }], guard := some (34, true) } : Oper)) (v := ?_) rfl (by kernel_rfl) (by kernel_rfl) (by kernel_rfl) (fun _ _ _ h => h) (Or.inl ⟨by rfl, ?_⟩) (Below.refl _ _) ?_
  rotate_left
  · (intro wz hz; go_simp; try with_reducible rfl)
  (try simp only [Act.put, List.setIfInBounds_toArray, List.set_cons_zero, List.set_cons_succ])
  refine wpAnyH_take (i := 36) (oi := ({ dst := some 62, op := Op.load 27 (Operand.tmp 10), type := 27, pos := "law.go:26", after := #[{ on := 34, ground := Ground.guard }], guard := some (34, true) } : Oper)) (v := .agg #[Value.int .u64 (l0 m), Value.int .u64 (l1 m), Value.int .u64 (l2 m), Value.int .u64 (l3 m)]) rfl (by kernel_rfl) (by kernel_rfl) (by kernel_rfl) (fun _ _ _ h => h) (yieldsIf_load_mid (by rfl) 27 _ rfl (w.heap.size + 1) 0 rfl (Array.toList #[Value.int .u64 (l0 m), Value.int .u64 (l1 m), Value.int .u64 (l2 m), Value.int .u64 (l3 m)]) _ (fun u hu => (((HKW.out).call HW.out).call hu).range) Try.underlying27 rfl IW) (Below.refl _ _) ?_
  (try simp only [Act.put, List.setIfInBounds_toArray, List.set_cons_zero, List.set_cons_succ])
  refine wpAnyH_take (i := 39) (oi := ({ dst := some 65, op := Op.move (Operand.tmp 0), type := 22, pos := "law.go:26", after := #[{ on := 34, ground := Ground.guard }], guard := some (34, true) } : Oper)) (v := ?_) rfl (by kernel_rfl) (by kernel_rfl) (by kernel_rfl) (fun _ _ _ h => h) (Or.inl ⟨by rfl, ?_⟩) (Below.refl _ _) ?_
  rotate_left
  · (intro wz hz; go_simp; try with_reducible rfl)
  (try simp only [Act.put, List.setIfInBounds_toArray, List.set_cons_zero, List.set_cons_succ])
  refine wpAnyH_take (i := 41) (oi := ({ dst := some 67, op := Op.load 27 (Operand.tmp 10), type := 27, pos := "law.go:26", after := #[{ on := 34, ground := Ground.guard }], guard := some (34, true) } : Oper)) (v := .agg #[Value.int .u64 (l0 m), Value.int .u64 (l1 m), Value.int .u64 (l2 m), Value.int .u64 (l3 m)]) rfl (by kernel_rfl) (by kernel_rfl) (by kernel_rfl) (fun _ _ _ h => h) (yieldsIf_load_mid (by rfl) 27 _ rfl (w.heap.size + 1) 0 rfl (Array.toList #[Value.int .u64 (l0 m), Value.int .u64 (l1 m), Value.int .u64 (l2 m), Value.int .u64 (l3 m)]) _ (fun u hu => (((HKW.out).call HW.out).call hu).range) Try.underlying27 rfl IW) (Below.refl _ _) ?_
  (try simp only [Act.put, List.setIfInBounds_toArray, List.set_cons_zero, List.set_cons_succ])
  refine wpAnyH_ready (rs := [37]) (by kernel_rfl) (by simp) ?_
  refine AllReadyH.cons (o := ({ dst := some 63, op := Op.call { callee := Callee.value (Operand.func 16), args := #[Operand.tmp 61, Operand.tmp 62], argTypes := #[22, 27] }, type := 22, pos := "law.go:26", after := #[{ on := 35, ground := Ground.data }, { on := 36, ground := Ground.data }, { on := 34, ground := Ground.chain }, { on := 34, ground := Ground.guard }], guard := some (34, true) } : Oper)) rfl (fun K hK => ?_) AllReadyH.nil
  go_simp
  refine (H4.out _ (HBY.out.below HW.out)).mono ?_
  rintro e wa ⟨va, rfl, hy, hb⟩
  refine held_grow hK hb (fun u => Below wa.heap.size wa u) (fun u hu => bel0 hb hu) ?_
  clear hK K
  (try simp only [Act.put, List.setIfInBounds_toArray, List.set_cons_zero, List.set_cons_succ])
  have HWA := Lib.hid (HW.out.trans (hb.mono HW.out.size))
  have HYA := Lib.hid hy
  clear hb hy
  refine wpAnyH_take (i := 38) (oi := ({ dst := some 64, op := Op.convert 22 9 (Operand.tmp 63), type := 9, pos := "law.go:26", after := #[{ on := 37, ground := Ground.data }, { on := 34, ground := Ground.guard }], guard := some (34, true) } : Oper)) (v := ?_) rfl (by kernel_rfl) (by kernel_rfl) (by kernel_rfl) (fun _ _ _ h => h) (Or.inl ⟨by rfl, ?_⟩) (Below.refl _ _) ?_
  rotate_left
  · (intro wz hz; have hc := conv_any (HYA.out.below hz); go_simp; try with_reducible rfl)
  (try simp only [Act.put, List.setIfInBounds_toArray, List.set_cons_zero, List.set_cons_succ])
  refine wpAnyH_ready (rs := [40]) (by kernel_rfl) (by simp) ?_
  refine AllReadyH.cons (o := ({ dst := some 66, op := Op.call { callee := Callee.builtin Builtin.append, args := #[Operand.const (Value.slice none 0 0), Operand.tmp 65], argTypes := #[22, 22] }, type := 22, pos := "law.go:26", after := #[{ on := 39, ground := Ground.data }, { on := 37, ground := Ground.chain }, { on := 34, ground := Ground.guard }], guard := some (34, true) } : Oper)) rfl (fun K hK => ?_) AllReadyH.nil
  rw [if_pos (by rfl)]
  refine wp_app _ _ rfl wa.heap.size _ [] rfl (Own.nil _ _) _ z rfl (HBY.out.below HWA.out) HAZ.out (Nat.le_refl _) ?_
  intro vp wp ho hg
  have hbp := Below.own (Below.refl wa.heap.size wa) hg (Own.nil _ _) (Nat.le_refl _) (Nat.le_refl _)
  refine hK.out _ _ hbp (fun _ => ?_)
  clear hK K
  (try simp only [Act.put, List.setIfInBounds_toArray, List.set_cons_zero, List.set_cons_succ])
  have HO := Lib.hid (own_cat ho)
  have HBP := Lib.hid hbp
  clear ho hg hbp
  refine wpAnyH_ready (rs := [42]) (by kernel_rfl) (by simp) ?_
  refine AllReadyH.cons (o := ({ dst := some 68, op := Op.call { callee := Callee.value (Operand.func 17), args := #[Operand.tmp 66, Operand.tmp 67], argTypes := #[22, 27] }, type := 22, pos := "law.go:26", after := #[{ on := 40, ground := Ground.data }, { on := 41, ground := Ground.data }, { on := 40, ground := Ground.chain }, { on := 34, ground := Ground.guard }], guard := some (34, true) } : Oper)) rfl (fun K hK => ?_) AllReadyH.nil
  go_simp
  refine (G4.out _ _ _ HO.out HBP.out.size).mono ?_
  rintro e wb ⟨vb, rfl, ho, hb, _⟩
  have hb2 := HBP.out.trans hb
  refine held_grow hK hb2 (fun u => Below wb.heap.size wb u) (fun u hu => bel0 hb2 hu) ?_
  clear hK K
  (try simp only [Act.put, List.setIfInBounds_toArray, List.set_cons_zero, List.set_cons_succ])
  have HYB := Lib.hid (ho.byt HLNWide.out HRNWide.out)
  have HW' := Lib.hid (HWA.out.trans (hb2.mono HWA.out.size))
  clear hb hb2 ho HO HBP HWA HW
  have HW := HW'
  clear HW'
  refine wpAnyH_take (i := 43) (oi := ({ dst := some 69, op := Op.convert 22 9 (Operand.tmp 68), type := 9, pos := "law.go:26", after := #[{ on := 42, ground := Ground.data }, { on := 34, ground := Ground.guard }], guard := some (34, true) } : Oper)) (v := ?_) rfl (by kernel_rfl) (by kernel_rfl) (by kernel_rfl) (fun _ _ _ h => h) (Or.inl ⟨by rfl, ?_⟩) (Below.refl _ _) ?_
  rotate_left
  · (intro wz hz; have hc := conv_any (HYB.out.below hz); go_simp; try with_reducible rfl)
  (try simp only [Act.put, List.setIfInBounds_toArray, List.set_cons_zero, List.set_cons_succ])
  refine wpAnyH_take (i := 44) (oi := ({ dst := some 70, op := Op.binOp BinOp.eql 9 (Operand.tmp 64) (Operand.tmp 69) 9, type := 4, pos := "law.go:26", after := #[{ on := 38, ground := Ground.data }, { on := 43, ground := Ground.data }, { on := 34, ground := Ground.guard }], guard := some (34, true) } : Oper)) (v := .bool true) rfl (by kernel_rfl) (by kernel_rfl) (by kernel_rfl) (fun _ _ _ h => h) (Or.inl ⟨by rfl, ?_⟩) (Below.refl _ _) ?_
  · (intro wz hz; go_simp; try with_reducible rfl)
  (try simp only [Act.put, List.setIfInBounds_toArray, List.set_cons_zero, List.set_cons_succ])
  refine wpAnyH_take (i := 45) (oi := ({ dst := some 71, op := Op.pick (Operand.tmp 60) (Operand.tmp 70) (Operand.const (Value.bool false)), type := 4, pos := "law.go:26", after := #[{ on := 34, ground := Ground.data }, { on := 44, ground := Ground.data }], guard := none } : Oper)) (v := .bool true) rfl (by kernel_rfl) (by kernel_rfl) (by kernel_rfl) (fun _ _ _ h => h) (Or.inl ⟨by rfl, ?_⟩) (Below.refl _ _) ?_
  · (intro wz hz; go_simp; try with_reducible rfl)
  (try simp only [Act.put, List.setIfInBounds_toArray, List.set_cons_zero, List.set_cons_succ])
  refine wpAnyH_take (i := 46) (oi := ({ dst := some 72, op := Op.move (Operand.tmp 71), type := 4, pos := "law.go:26", after := #[{ on := 45, ground := Ground.data }, { on := 42, ground := Ground.chain }], guard := none } : Oper)) (v := .bool true) rfl (by kernel_rfl) (by kernel_rfl) (by kernel_rfl) (fun _ _ _ h => h) (Or.inl ⟨by rfl, ?_⟩) (Below.refl _ _) ?_
  · (intro wz hz; go_simp; try with_reducible rfl)
  (try simp only [Act.put, List.setIfInBounds_toArray, List.set_cons_zero, List.set_cons_succ])
  clear HYA HYB
  refine wpAnyH_take (i := 47) (oi := ({ dst := some 73, op := Op.move (Operand.tmp 0), type := 22, pos := "law.go:26", after := #[{ on := 46, ground := Ground.guard }], guard := some (46, true) } : Oper)) (v := ?_) rfl (by kernel_rfl) (by kernel_rfl) (by kernel_rfl) (fun _ _ _ h => h) (Or.inl ⟨by rfl, ?_⟩) (Below.refl _ _) ?_
  rotate_left
  · (intro wz hz; go_simp; try with_reducible rfl)
  (try simp only [Act.put, List.setIfInBounds_toArray, List.set_cons_zero, List.set_cons_succ])
  refine wpAnyH_take (i := 48) (oi := ({ dst := some 74, op := Op.load 30 (Operand.tmp 13), type := 30, pos := "law.go:26", after := #[{ on := 46, ground := Ground.guard }], guard := some (46, true) } : Oper)) (v := .agg Y) rfl (by kernel_rfl) (by kernel_rfl) (by kernel_rfl) (fun _ _ _ h => h) (yieldsIf_load_mid (by rfl) 30 _ rfl (w.heap.size + 1 + 1) 0 rfl (Array.toList Y) _ (fun u hu => (((HKY.out).call HW.out).call hu).range) Try.underlying30 rfl IY) (Below.refl _ _) ?_
  (try simp only [Act.put, List.setIfInBounds_toArray, List.set_cons_zero, List.set_cons_succ])
  refine wpAnyH_take (i := 51) (oi := ({ dst := some 77, op := Op.move (Operand.tmp 0), type := 22, pos := "law.go:26", after := #[{ on := 46, ground := Ground.guard }], guard := some (46, true) } : Oper)) (v := ?_) rfl (by kernel_rfl) (by kernel_rfl) (by kernel_rfl) (fun _ _ _ h => h) (Or.inl ⟨by rfl, ?_⟩) (Below.refl _ _) ?_
  rotate_left
  · (intro wz hz; go_simp; try with_reducible rfl)
  (try simp only [Act.put, List.setIfInBounds_toArray, List.set_cons_zero, List.set_cons_succ])
  refine wpAnyH_take (i := 53) (oi := ({ dst := some 79, op := Op.load 30 (Operand.tmp 13), type := 30, pos := "law.go:26", after := #[{ on := 46, ground := Ground.guard }], guard := some (46, true) } : Oper)) (v := .agg Y) rfl (by kernel_rfl) (by kernel_rfl) (by kernel_rfl) (fun _ _ _ h => h) (yieldsIf_load_mid (by rfl) 30 _ rfl (w.heap.size + 1 + 1) 0 rfl (Array.toList Y) _ (fun u hu => (((HKY.out).call HW.out).call hu).range) Try.underlying30 rfl IY) (Below.refl _ _) ?_
  (try simp only [Act.put, List.setIfInBounds_toArray, List.set_cons_zero, List.set_cons_succ])
  refine wpAnyH_ready (rs := [49]) (by kernel_rfl) (by simp) ?_
  refine AllReadyH.cons (o := ({ dst := some 75, op := Op.call { callee := Callee.value (Operand.func 18), args := #[Operand.tmp 73, Operand.tmp 74], argTypes := #[22, 30] }, type := 22, pos := "law.go:26", after := #[{ on := 47, ground := Ground.data }, { on := 48, ground := Ground.data }, { on := 46, ground := Ground.chain }, { on := 46, ground := Ground.guard }], guard := some (46, true) } : Oper)) rfl (fun K hK => ?_) AllReadyH.nil
  go_simp
  refine (H5.out _ (HBY.out.below HW.out)).mono ?_
  rintro e wa ⟨va, rfl, hy, hb⟩
  refine held_grow hK hb (fun u => Below wa.heap.size wa u) (fun u hu => bel0 hb hu) ?_
  clear hK K
  (try simp only [Act.put, List.setIfInBounds_toArray, List.set_cons_zero, List.set_cons_succ])
  have HWA := Lib.hid (HW.out.trans (hb.mono HW.out.size))
  have HYA := Lib.hid hy
  clear hb hy
  refine wpAnyH_take (i := 50) (oi := ({ dst := some 76, op := Op.convert 22 9 (Operand.tmp 75), type := 9, pos := "law.go:26", after := #[{ on := 49, ground := Ground.data }, { on := 46, ground := Ground.guard }], guard := some (46, true) } : Oper)) (v := ?_) rfl (by kernel_rfl) (by kernel_rfl) (by kernel_rfl) (fun _ _ _ h => h) (Or.inl ⟨by rfl, ?_⟩) (Below.refl _ _) ?_
  rotate_left
  · (intro wz hz; have hc := conv_any (HYA.out.below hz); go_simp; try with_reducible rfl)
  (try simp only [Act.put, List.setIfInBounds_toArray, List.set_cons_zero, List.set_cons_succ])
  refine wpAnyH_ready (rs := [52]) (by kernel_rfl) (by simp) ?_
  refine AllReadyH.cons (o := ({ dst := some 78, op := Op.call { callee := Callee.builtin Builtin.append, args := #[Operand.const (Value.slice none 0 0), Operand.tmp 77], argTypes := #[22, 22] }, type := 22, pos := "law.go:26", after := #[{ on := 51, ground := Ground.data }, { on := 49, ground := Ground.chain }, { on := 46, ground := Ground.guard }], guard := some (46, true) } : Oper)) rfl (fun K hK => ?_) AllReadyH.nil
  rw [if_pos (by rfl)]
  refine wp_app _ _ rfl wa.heap.size _ [] rfl (Own.nil _ _) _ z rfl (HBY.out.below HWA.out) HAZ.out (Nat.le_refl _) ?_
  intro vp wp ho hg
  have hbp := Below.own (Below.refl wa.heap.size wa) hg (Own.nil _ _) (Nat.le_refl _) (Nat.le_refl _)
  refine hK.out _ _ hbp (fun _ => ?_)
  clear hK K
  (try simp only [Act.put, List.setIfInBounds_toArray, List.set_cons_zero, List.set_cons_succ])
  have HO := Lib.hid (own_cat ho)
  have HBP := Lib.hid hbp
  clear ho hg hbp
  refine wpAnyH_ready (rs := [54]) (by kernel_rfl) (by simp) ?_
  refine AllReadyH.cons (o := ({ dst := some 80, op := Op.call { callee := Callee.value (Operand.func 19), args := #[Operand.tmp 78, Operand.tmp 79], argTypes := #[22, 30] }, type := 22, pos := "law.go:26", after := #[{ on := 52, ground := Ground.data }, { on := 53, ground := Ground.data }, { on := 52, ground := Ground.chain }, { on := 46, ground := Ground.guard }], guard := some (46, true) } : Oper)) rfl (fun K hK => ?_) AllReadyH.nil
  go_simp
  refine (G5.out _ _ _ HO.out HBP.out.size).mono ?_
  rintro e wb ⟨vb, rfl, ho, hb, _⟩
  have hb2 := HBP.out.trans hb
  refine held_grow hK hb2 (fun u => Below wb.heap.size wb u) (fun u hu => bel0 hb2 hu) ?_
  clear hK K
  (try simp only [Act.put, List.setIfInBounds_toArray, List.set_cons_zero, List.set_cons_succ])
  have HYB := Lib.hid (ho.byt HLNCheckpoint.out HRNCheckpoint.out)
  have HW' := Lib.hid (HWA.out.trans (hb2.mono HWA.out.size))
  clear hb hb2 ho HO HBP HWA HW
  have HW := HW'
  clear HW'
  refine wpAnyH_take (i := 55) (oi := ({ dst := some 81, op := Op.convert 22 9 (Operand.tmp 80), type := 9, pos := "law.go:26", after := #[{ on := 54, ground := Ground.data }, { on := 46, ground := Ground.guard }], guard := some (46, true) } : Oper)) (v := ?_) rfl (by kernel_rfl) (by kernel_rfl) (by kernel_rfl) (fun _ _ _ h => h) (Or.inl ⟨by rfl, ?_⟩) (Below.refl _ _) ?_
  rotate_left
  · (intro wz hz; have hc := conv_any (HYB.out.below hz); go_simp; try with_reducible rfl)
  (try simp only [Act.put, List.setIfInBounds_toArray, List.set_cons_zero, List.set_cons_succ])
  refine wpAnyH_take (i := 56) (oi := ({ dst := some 82, op := Op.binOp BinOp.eql 9 (Operand.tmp 76) (Operand.tmp 81) 9, type := 4, pos := "law.go:26", after := #[{ on := 50, ground := Ground.data }, { on := 55, ground := Ground.data }, { on := 46, ground := Ground.guard }], guard := some (46, true) } : Oper)) (v := .bool true) rfl (by kernel_rfl) (by kernel_rfl) (by kernel_rfl) (fun _ _ _ h => h) (Or.inl ⟨by rfl, ?_⟩) (Below.refl _ _) ?_
  · (intro wz hz; go_simp; try with_reducible rfl)
  (try simp only [Act.put, List.setIfInBounds_toArray, List.set_cons_zero, List.set_cons_succ])
  refine wpAnyH_take (i := 57) (oi := ({ dst := some 83, op := Op.pick (Operand.tmp 72) (Operand.tmp 82) (Operand.const (Value.bool false)), type := 4, pos := "law.go:26", after := #[{ on := 46, ground := Ground.data }, { on := 56, ground := Ground.data }], guard := none } : Oper)) (v := .bool true) rfl (by kernel_rfl) (by kernel_rfl) (by kernel_rfl) (fun _ _ _ h => h) (Or.inl ⟨by rfl, ?_⟩) (Below.refl _ _) ?_
  · (intro wz hz; go_simp; try with_reducible rfl)
  (try simp only [Act.put, List.setIfInBounds_toArray, List.set_cons_zero, List.set_cons_succ])
  refine wpAnyH_take (i := 58) (oi := ({ dst := some 84, op := Op.move (Operand.tmp 83), type := 4, pos := "law.go:26", after := #[{ on := 57, ground := Ground.data }, { on := 54, ground := Ground.chain }], guard := none } : Oper)) (v := .bool true) rfl (by kernel_rfl) (by kernel_rfl) (by kernel_rfl) (fun _ _ _ h => h) (Or.inl ⟨by rfl, ?_⟩) (Below.refl _ _) ?_
  · (intro wz hz; go_simp; try with_reducible rfl)
  (try simp only [Act.put, List.setIfInBounds_toArray, List.set_cons_zero, List.set_cons_succ])
  clear HYA HYB
  refine wpAnyH_take (i := 59) (oi := ({ dst := some 85, op := Op.move (Operand.tmp 0), type := 22, pos := "law.go:26", after := #[{ on := 58, ground := Ground.guard }], guard := some (58, true) } : Oper)) (v := ?_) rfl (by kernel_rfl) (by kernel_rfl) (by kernel_rfl) (fun _ _ _ h => h) (Or.inl ⟨by rfl, ?_⟩) (Below.refl _ _) ?_
  rotate_left
  · (intro wz hz; go_simp; try with_reducible rfl)
  (try simp only [Act.put, List.setIfInBounds_toArray, List.set_cons_zero, List.set_cons_succ])
  refine wpAnyH_take (i := 60) (oi := ({ dst := some 86, op := Op.move (Operand.tmp 5), type := 22, pos := "law.go:26", after := #[{ on := 58, ground := Ground.guard }], guard := some (58, true) } : Oper)) (v := ?_) rfl (by kernel_rfl) (by kernel_rfl) (by kernel_rfl) (fun _ _ _ h => h) (Or.inl ⟨by rfl, ?_⟩) (Below.refl _ _) ?_
  rotate_left
  · (intro wz hz; go_simp; try with_reducible rfl)
  (try simp only [Act.put, List.setIfInBounds_toArray, List.set_cons_zero, List.set_cons_succ])
  refine wpAnyH_take (i := 63) (oi := ({ dst := some 89, op := Op.move (Operand.tmp 0), type := 22, pos := "law.go:26", after := #[{ on := 58, ground := Ground.guard }], guard := some (58, true) } : Oper)) (v := ?_) rfl (by kernel_rfl) (by kernel_rfl) (by kernel_rfl) (fun _ _ _ h => h) (Or.inl ⟨by rfl, ?_⟩) (Below.refl _ _) ?_
  rotate_left
  · (intro wz hz; go_simp; try with_reducible rfl)
  (try simp only [Act.put, List.setIfInBounds_toArray, List.set_cons_zero, List.set_cons_succ])
  refine wpAnyH_take (i := 65) (oi := ({ dst := some 91, op := Op.move (Operand.tmp 5), type := 22, pos := "law.go:26", after := #[{ on := 58, ground := Ground.guard }], guard := some (58, true) } : Oper)) (v := ?_) rfl (by kernel_rfl) (by kernel_rfl) (by kernel_rfl) (fun _ _ _ h => h) (Or.inl ⟨by rfl, ?_⟩) (Below.refl _ _) ?_
  rotate_left
  · (intro wz hz; go_simp; try with_reducible rfl)
  (try simp only [Act.put, List.setIfInBounds_toArray, List.set_cons_zero, List.set_cons_succ])
  refine wpAnyH_ready (rs := [61]) (by kernel_rfl) (by simp) ?_
  refine AllReadyH.cons (o := ({ dst := some 87, op := Op.call { callee := Callee.value (Operand.func 20), args := #[Operand.tmp 85, Operand.tmp 86], argTypes := #[22, 22] }, type := 22, pos := "law.go:26", after := #[{ on := 59, ground := Ground.data }, { on := 60, ground := Ground.data }, { on := 58, ground := Ground.chain }, { on := 58, ground := Ground.guard }], guard := some (58, true) } : Oper)) rfl (fun K hK => ?_) AllReadyH.nil
  go_simp
  refine (H6.out _ (HBY.out.below HW.out) (HB5Y.out.below HW.out)).mono ?_
  rintro e wa ⟨va, rfl, hy, hb⟩
  refine held_grow hK hb (fun u => Below wa.heap.size wa u) (fun u hu => bel0 hb hu) ?_
  clear hK K
  (try simp only [Act.put, List.setIfInBounds_toArray, List.set_cons_zero, List.set_cons_succ])
  have HWA := Lib.hid (HW.out.trans (hb.mono HW.out.size))
  have HYA := Lib.hid hy
  clear hb hy
  refine wpAnyH_take (i := 62) (oi := ({ dst := some 88, op := Op.convert 22 9 (Operand.tmp 87), type := 9, pos := "law.go:26", after := #[{ on := 61, ground := Ground.data }, { on := 58, ground := Ground.guard }], guard := some (58, true) } : Oper)) (v := ?_) rfl (by kernel_rfl) (by kernel_rfl) (by kernel_rfl) (fun _ _ _ h => h) (Or.inl ⟨by rfl, ?_⟩) (Below.refl _ _) ?_
  rotate_left
  · (intro wz hz; have hc := conv_any (HYA.out.below hz); go_simp; try with_reducible rfl)
  (try simp only [Act.put, List.setIfInBounds_toArray, List.set_cons_zero, List.set_cons_succ])
  refine wpAnyH_ready (rs := [64]) (by kernel_rfl) (by simp) ?_
  refine AllReadyH.cons (o := ({ dst := some 90, op := Op.call { callee := Callee.builtin Builtin.append, args := #[Operand.const (Value.slice none 0 0), Operand.tmp 89], argTypes := #[22, 22] }, type := 22, pos := "law.go:26", after := #[{ on := 63, ground := Ground.data }, { on := 61, ground := Ground.chain }, { on := 58, ground := Ground.guard }], guard := some (58, true) } : Oper)) rfl (fun K hK => ?_) AllReadyH.nil
  rw [if_pos (by rfl)]
  refine wp_app _ _ rfl wa.heap.size _ [] rfl (Own.nil _ _) _ z rfl (HBY.out.below HWA.out) HAZ.out (Nat.le_refl _) ?_
  intro vp wp ho hg
  have hbp := Below.own (Below.refl wa.heap.size wa) hg (Own.nil _ _) (Nat.le_refl _) (Nat.le_refl _)
  refine hK.out _ _ hbp (fun _ => ?_)
  clear hK K
  (try simp only [Act.put, List.setIfInBounds_toArray, List.set_cons_zero, List.set_cons_succ])
  have HO := Lib.hid (own_cat ho)
  have HBP := Lib.hid hbp
  clear ho hg hbp
  refine wpAnyH_ready (rs := [66]) (by kernel_rfl) (by simp) ?_
  refine AllReadyH.cons (o := ({ dst := some 92, op := Op.call { callee := Callee.value (Operand.func 21), args := #[Operand.tmp 90, Operand.tmp 91], argTypes := #[22, 22] }, type := 22, pos := "law.go:26", after := #[{ on := 64, ground := Ground.data }, { on := 65, ground := Ground.data }, { on := 64, ground := Ground.chain }, { on := 58, ground := Ground.guard }], guard := some (58, true) } : Oper)) rfl (fun K hK => ?_) AllReadyH.nil
  go_simp
  refine (G6.out _ _ _ HO.out HBP.out.size (HB5Y.out.below (HWA.out.trans (HBP.out.mono HWA.out.size))) (fun a l c e h0 => by cases e; exact Nat.lt_of_lt_of_le (h5lt.out _ rfl h0) (Nat.le_trans HB3.out.size HWA.out.size))).mono ?_
  rintro e wb ⟨vb, rfl, ho, hb, _⟩
  have hb2 := HBP.out.trans hb
  refine held_grow hK hb2 (fun u => Below wb.heap.size wb u) (fun u hu => bel0 hb2 hu) ?_
  clear hK K
  (try simp only [Act.put, List.setIfInBounds_toArray, List.set_cons_zero, List.set_cons_succ])
  have HYB := Lib.hid (ho.byt HLNBytes.out HRNBytes.out)
  have HW' := Lib.hid (HWA.out.trans (hb2.mono HWA.out.size))
  clear hb hb2 ho HO HBP HWA HW
  have HW := HW'
  clear HW'
  refine wpAnyH_take (i := 67) (oi := ({ dst := some 93, op := Op.convert 22 9 (Operand.tmp 92), type := 9, pos := "law.go:26", after := #[{ on := 66, ground := Ground.data }, { on := 58, ground := Ground.guard }], guard := some (58, true) } : Oper)) (v := ?_) rfl (by kernel_rfl) (by kernel_rfl) (by kernel_rfl) (fun _ _ _ h => h) (Or.inl ⟨by rfl, ?_⟩) (Below.refl _ _) ?_
  rotate_left
  · (intro wz hz; have hc := conv_any (HYB.out.below hz); go_simp; try with_reducible rfl)
  (try simp only [Act.put, List.setIfInBounds_toArray, List.set_cons_zero, List.set_cons_succ])
  refine wpAnyH_take (i := 68) (oi := ({ dst := some 94, op := Op.binOp BinOp.eql 9 (Operand.tmp 88) (Operand.tmp 93) 9, type := 4, pos := "law.go:26", after := #[{ on := 62, ground := Ground.data }, { on := 67, ground := Ground.data }, { on := 58, ground := Ground.guard }], guard := some (58, true) } : Oper)) (v := .bool true) rfl (by kernel_rfl) (by kernel_rfl) (by kernel_rfl) (fun _ _ _ h => h) (Or.inl ⟨by rfl, ?_⟩) (Below.refl _ _) ?_
  · (intro wz hz; go_simp; try with_reducible rfl)
  (try simp only [Act.put, List.setIfInBounds_toArray, List.set_cons_zero, List.set_cons_succ])
  refine wpAnyH_take (i := 69) (oi := ({ dst := some 95, op := Op.pick (Operand.tmp 84) (Operand.tmp 94) (Operand.const (Value.bool false)), type := 4, pos := "law.go:26", after := #[{ on := 58, ground := Ground.data }, { on := 68, ground := Ground.data }], guard := none } : Oper)) (v := .bool true) rfl (by kernel_rfl) (by kernel_rfl) (by kernel_rfl) (fun _ _ _ h => h) (Or.inl ⟨by rfl, ?_⟩) (Below.refl _ _) ?_
  · (intro wz hz; go_simp; try with_reducible rfl)
  (try simp only [Act.put, List.setIfInBounds_toArray, List.set_cons_zero, List.set_cons_succ])
  refine wpAnyH_take (i := 70) (oi := ({ dst := some 96, op := Op.move (Operand.tmp 95), type := 4, pos := "law.go:26", after := #[{ on := 69, ground := Ground.data }, { on := 66, ground := Ground.chain }], guard := none } : Oper)) (v := .bool true) rfl (by kernel_rfl) (by kernel_rfl) (by kernel_rfl) (fun _ _ _ h => h) (Or.inl ⟨by rfl, ?_⟩) (Below.refl _ _) ?_
  · (intro wz hz; go_simp; try with_reducible rfl)
  (try simp only [Act.put, List.setIfInBounds_toArray, List.set_cons_zero, List.set_cons_succ])
  clear HYA HYB
  refine wpAnyH_ready (rs := [71]) (by kernel_rfl) (by simp) ?_
  refine AllReadyH.cons (o := ({ dst := some 97, op := Op.call { callee := Callee.value (Operand.func 9), args := #[], argTypes := #[] }, type := 4, pos := "law.go:26", after := #[{ on := 70, ground := Ground.chain }, { on := 70, ground := Ground.guard }], guard := some (70, true) } : Oper)) rfl (fun K hK => ?_) AllReadyH.nil
  go_simp
  refine (awake4 _).mono ?_
  rintro e wf ⟨rfl, hb⟩
  refine held_grow hK hb (fun u => Below wf.heap.size wf u) (fun u hu => bel0 hb hu) ?_
  clear hK K
  (try simp only [Act.put, List.setIfInBounds_toArray, List.set_cons_zero, List.set_cons_succ])
  have HWF := Lib.hid (HW.out.trans (hb.mono HW.out.size))
  clear hb HW
  refine wpAnyH_take (i := 72) (oi := ({ dst := some 98, op := Op.pick (Operand.tmp 96) (Operand.tmp 97) (Operand.const (Value.bool false)), type := 4, pos := "law.go:26", after := #[{ on := 70, ground := Ground.data }, { on := 71, ground := Ground.data }], guard := none } : Oper)) (v := .bool true) rfl (by kernel_rfl) (by kernel_rfl) (by kernel_rfl) (fun _ _ _ h => h) (Or.inl ⟨by rfl, ?_⟩) (Below.refl _ _) ?_
  · (intro wz hz; go_simp; try with_reducible rfl)
  (try simp only [Act.put, List.setIfInBounds_toArray, List.set_cons_zero, List.set_cons_succ])
  refine wpAnyH_ready (rs := [73]) (by kernel_rfl) (by simp) ?_
  refine AllReadyH.cons (o := ({ dst := some 12, op := Op.assign (Operand.tmp 98), type := 4, pos := "law.go:26", after := #[{ on := 72, ground := Ground.data }, { on := 71, ground := Ground.chain }, { on := 0, ground := Ground.phase }, { on := 1, ground := Ground.phase }, { on := 2, ground := Ground.phase }, { on := 3, ground := Ground.phase }, { on := 4, ground := Ground.phase }, { on := 5, ground := Ground.phase }, { on := 6, ground := Ground.phase }, { on := 7, ground := Ground.phase }, { on := 8, ground := Ground.phase }, { on := 9, ground := Ground.phase }, { on := 10, ground := Ground.phase }, { on := 11, ground := Ground.phase }, { on := 12, ground := Ground.phase }, { on := 13, ground := Ground.phase }, { on := 14, ground := Ground.phase }, { on := 15, ground := Ground.phase }, { on := 16, ground := Ground.phase }, { on := 17, ground := Ground.phase }, { on := 18, ground := Ground.phase }, { on := 19, ground := Ground.phase }, { on := 20, ground := Ground.phase }, { on := 21, ground := Ground.phase }, { on := 22, ground := Ground.phase }, { on := 23, ground := Ground.phase }, { on := 24, ground := Ground.phase }, { on := 25, ground := Ground.phase }, { on := 26, ground := Ground.phase }, { on := 27, ground := Ground.phase }, { on := 28, ground := Ground.phase }, { on := 29, ground := Ground.phase }, { on := 30, ground := Ground.phase }, { on := 31, ground := Ground.phase }, { on := 32, ground := Ground.phase }, { on := 33, ground := Ground.phase }, { on := 34, ground := Ground.phase }, { on := 35, ground := Ground.phase }, { on := 36, ground := Ground.phase }, { on := 37, ground := Ground.phase }, { on := 38, ground := Ground.phase }, { on := 39, ground := Ground.phase }, { on := 40, ground := Ground.phase }, { on := 41, ground := Ground.phase }, { on := 42, ground := Ground.phase }, { on := 43, ground := Ground.phase }, { on := 44, ground := Ground.phase }, { on := 45, ground := Ground.phase }, { on := 46, ground := Ground.phase }, { on := 47, ground := Ground.phase }, { on := 48, ground := Ground.phase }, { on := 49, ground := Ground.phase }, { on := 50, ground := Ground.phase }, { on := 51, ground := Ground.phase }, { on := 52, ground := Ground.phase }, { on := 53, ground := Ground.phase }, { on := 54, ground := Ground.phase }, { on := 55, ground := Ground.phase }, { on := 56, ground := Ground.phase }, { on := 57, ground := Ground.phase }, { on := 58, ground := Ground.phase }, { on := 59, ground := Ground.phase }, { on := 60, ground := Ground.phase }, { on := 61, ground := Ground.phase }, { on := 62, ground := Ground.phase }, { on := 63, ground := Ground.phase }, { on := 64, ground := Ground.phase }, { on := 65, ground := Ground.phase }, { on := 66, ground := Ground.phase }, { on := 67, ground := Ground.phase }, { on := 68, ground := Ground.phase }, { on := 69, ground := Ground.phase }, { on := 70, ground := Ground.phase }, { on := 71, ground := Ground.phase }, { on := 72, ground := Ground.phase }], guard := none } : Oper)) rfl (fun K hK => ?_) AllReadyH.nil
  go_simp
  refine hK.out _ _ (Below.refl _ _) (fun _ => ?_)
  clear hK K
  (try simp only [Act.put, List.setIfInBounds_toArray, List.set_cons_zero, List.set_cons_succ])
  refine wpAnyH_done (by kernel_rfl) ?_ _
  go_wp2_with fail
  all_goals go_ret
  all_goals exact ⟨rfl, bel0 HB3.out HWF.out⟩

end Go.Proofs.Ytjlfacdmfcbjfaa
