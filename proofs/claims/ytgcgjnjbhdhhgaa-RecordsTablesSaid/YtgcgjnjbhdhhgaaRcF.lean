/- records.finish, at its five types. -/
import Derived.Test.YtgcgjnjbhdhhgaaRcR
import Derived.Test.YtgcgjnjbhdhhgaaHeld4
import Derived.IntWalk
set_option linter.unusedVariables false
set_option linter.unusedSimpArgs false
namespace Go.Proofs.Ytgcgjnjbhdhhgaa
open Go.RowKit
variable {lo : Nat}

def zCp : CpD := ⟨0, zeroR⟩
def zBk : BkD := ⟨zCp, zCp, 0, zeroR, zeroR, zeroR, 0, 0, zCp, zCp, false⟩
def zAt : AtD := ⟨0, zeroR, zCp, .slice none 0 0⟩
def zCl : ClD := ⟨0, 0, zeroR, .slice none 0 0⟩
def zTb : TbD := ⟨zCp, .slice none 0 0⟩
def zVd : VdD := ⟨0, 0, zeroR⟩

/-- finish: its error, its value, its length. -/
def finE (e : Int) (enc : Bool) : Int := if e ≠ 0 then e else if enc then 0 else 2
def finX (e : Int) (enc : Bool) (X Z : Array Value) : Array Value := if finE e enc = 0 then X else Z
def finU (e : Int) (enc : Bool) (n : Int) : Int := if finE e enc = 0 then n else 0
def Fin (w : World) (X : Array Value) (n e : Int) (en : Ending) (w' : World) : Prop := en = .returned (.tuple #[.agg X, .int .i64 n, .int .i64 e]) ∧ Below w.heap.size w w'

set_option maxRecDepth 100000 in
set_option maxHeartbeats 4000000 in
theorem fin_blk (g : Nat) (size : Nat) (rest : List Int) (e : Int) (X : Array Value) (enc : Bool) (w : World) (h : Rdr lo w g rest e) (hX : X.size = 238) (hX1 : ∀ v ∈ X, v.oneCell' = true) (hs : rest.length ≤ size) (hs1 : size ≤ 100000000) :
    Calls Try.prog 48 #[.agg #[.pointer (some ⟨g, 0, none⟩), .int .i64 size], .agg X, .bool enc] w (Fin w (finX e enc X (flatP (zBk.parts))) (finU e enc ((size : Int) - rest.length)) (finE e enc)) := by
  obtain ⟨L, rfl⟩ : ∃ L : List Value, X = L.toArray := ⟨X.toList, by simp⟩
  obtain ⟨Z, hZ⟩ : ∃ Z, Z = flatP (zBk.parts) := ⟨_, rfl⟩
  have hsz : Z.size = 238 := by rw [hZ]; rfl
  obtain ⟨hzz, hst⟩ := zero_array (P := Try.prog) (t := 37) (n := 238) Z (by rw [hZ]; kernel_rfl) hsz (by rw [hZ]; kernel_rfl)
  have HZ1 : Hid (∀ v ∈ Z, v.oneCell' = true) := fun v hv => (Array.all_eq_true_iff_forall_mem.1 (show Z.all (·.oneCell') = true by rw [hZ]; kernel_rfl)) v hv
  rw [← hZ]
  clear hZ
  have hba := (((Below.refl w.heap.size w).alloc (Nat.le_refl _) (.cells #[.pointer (some ⟨g, 0, none⟩), .int .i64 size] 86)).alloc (by simp) (.cells L.toArray 37)).alloc (by simp; omega) (.cells Z 37)
  have hR0 := h.below hba
  have DE := Lib.hid (err_any g rest e _ hR0)
  have HR0 := Lib.hid hR0; clear hR0 h
  have B0 : Hid (Blk (((w.alloc (.cells #[.pointer (some ⟨g, 0, none⟩), .int .i64 size] 86)).alloc (.cells L.toArray 37)).alloc (.cells Z 37)) w.heap.size #[.pointer (some ⟨g, 0, none⟩), .int .i64 size]) := ((Blk.new rfl).alloc _).alloc _
  have B1 : Hid (Blk (((w.alloc (.cells #[.pointer (some ⟨g, 0, none⟩), .int .i64 size] 86)).alloc (.cells L.toArray 37)).alloc (.cells Z 37)) (w.heap.size + 1) L.toArray) := (Blk.new (by simp)).alloc _
  have B2 : Hid (Blk (((w.alloc (.cells #[.pointer (some ⟨g, 0, none⟩), .int .i64 size] 86)).alloc (.cells L.toArray 37)).alloc (.cells Z 37)) (w.heap.size + 2) Z) := Blk.new (by simp)
  have HBA := Lib.hid hba; clear hba
  have hiX : (Try.prog.info? 37).map (·.size) = some L.toArray.size := by rw [hX]; kernel_rfl
  have HIX := Lib.hid hiX
  have HIZ : Hid ((Try.prog.info? 37).map (·.size) = some Z.size) := by show _ = _; rw [hsz]; kernel_rfl
  unfold finX finU finE
  clear hiX
  by_cases he : e = 0
  case neg =>
    have hne : (e != 0) = true := by simpa using he
    have heq : (e == 0) = false := by simpa using he
    simp only [ne_eq, he, not_false_eq_true, if_true, if_false]
    clear he
    have B4 : Hid (Blk ((((w.alloc (.cells #[.pointer (some ⟨g, 0, none⟩), .int .i64 size] 86)).alloc (.cells L.toArray 37)).alloc (.cells Z 37)).alloc (.cells Z 37)) (w.heap.size + 3) Z) := Blk.new (by simp)
    have B5 := Lib.hid (B2.out.alloc (.cells Z 37))
    go_enter Try.func48, Try.ntmps48
    go_wp2_with (first
      | (go_at_call 83; refine DE.out.mono ?_; rintro en w1 ⟨rfl, rfl⟩)
      | ((with_reducible refine at_load (.tmp 10) ?_); refine wpList_load_g 37 (.tmp 10) rfl (w.heap.size + 3) rfl Z _ B4.out Try.underlying37 rfl HIZ.out rfl ?_)
      | ((with_reducible refine at_store (.tmp 6) ?_); refine wpList_store_blk rfl 37 (.tmp 6) _ rfl (w.heap.size + 2) Z rfl rfl Z B5.out rfl HIZ.out HZ1.out ?_; intro w6 U6 B6))
    refine bodyPost_ret (res_cell_tmp2 rfl rfl rfl rfl B6 Try.underlying37 rfl HIZ.out) rfl ⟨rfl, ?_⟩
    exact U6.below (HBA.out.alloc (by simp; omega) _) (by omega)
  case pos =>
    subst he
    simp only [ne_eq, not_true_eq_false, if_false]
    cases enc
    case false =>
      simp only [Bool.false_eq_true, if_false, show ((2 : Int) = 0) = False by simp]
      have B4 : Hid (Blk ((((w.alloc (.cells #[.pointer (some ⟨g, 0, none⟩), .int .i64 size] 86)).alloc (.cells L.toArray 37)).alloc (.cells Z 37)).alloc (.cells Z 37)) (w.heap.size + 3) Z) := Blk.new (by simp)
      have B5 := Lib.hid (B2.out.alloc (.cells Z 37))
      go_enter Try.func48, Try.ntmps48
      go_wp2_with (first
        | (go_at_call 83; refine DE.out.mono ?_; rintro en w1 ⟨rfl, rfl⟩)
        | ((with_reducible refine at_load (.tmp 10) ?_); refine wpList_load_g 37 (.tmp 10) rfl (w.heap.size + 3) rfl Z _ B4.out Try.underlying37 rfl HIZ.out rfl ?_)
        | ((with_reducible refine at_store (.tmp 6) ?_); refine wpList_store_blk rfl 37 (.tmp 6) _ rfl (w.heap.size + 2) Z rfl rfl Z B5.out rfl HIZ.out HZ1.out ?_; intro w6 U6 B6))
      refine bodyPost_ret (res_cell_tmp2 rfl rfl rfl rfl B6 Try.underlying37 rfl HIZ.out) rfl ⟨rfl, ?_⟩
      exact U6.below (HBA.out.alloc (by simp; omega) _) (by omega)
    case true =>
      simp only [if_true]
      go_enter Try.func48, Try.ntmps48
      go_wp2_with (go_at_call 83; refine DE.out.mono ?_; rintro en w1 ⟨rfl, rfl⟩)
      clear DE hzz hst
      obtain ⟨u, hu⟩ : ∃ u, (((w.alloc (.cells #[.pointer (some ⟨g, 0, none⟩), .int .i64 size] 86)).alloc (.cells L.toArray 37)).alloc (.cells Z 37)) = u := ⟨_, rfl⟩
      rw [hu] at B0 B1 B2 HR0 HBA ⊢
      clear hu
      have HX := HR0.out.drew
      have HBX := Below.drewN (n := 1) HBA.out
      change Below w.heap.size w u.drew at HBX
      have b0 : Blk u.drew w.heap.size #[.pointer (some ⟨g, 0, none⟩), .int .i64 size] := B0.out
      have b1 : Blk u.drew (w.heap.size + 1) L.toArray := B1.out
      have b2 : Blk u.drew (w.heap.size + 2) Z := B2.out
      obtain ⟨x, hx⟩ : ∃ x, u.drew = x := ⟨_, rfl⟩
      rw [hx] at HX HBX b0 b1 b2
      refine wp_region_held_drew (S := fun u' => Below (w.heap.size + 2) x u') (by kernel_rfl) (by rw [hx]; exact Below.refl _ _) (fun _ => ?_)
      rw [hx]
      clear hx
      have r1 : x.rangeAt (w.heap.size + 1) 0 L := by simpa using b1.range
      have k0 := b0.cell 0
      have k1 := b0.cell 1
      have hsub : IntKind.i64.wrap ((size : Int) - (rest.length : Nat)) = (size : Int) - (rest.length : Nat) := IntWalk.i64_in _ (by omega)
      have HSUB := Lib.hid hsub; clear hsub
      (try simp only [Act.put, List.setIfInBounds_toArray, List.set_cons_zero, List.set_cons_succ])
      refine held_load 0 rfl (by kernel_rfl) (by kernel_rfl) (by kernel_rfl) (fun _ _ _ _ h => h) rfl 37 (.tmp 4) rfl (w.heap.size + 1) 0 rfl L _ (fun u' hu => Below.rng hu (by omega) r1) Try.underlying37 rfl (by simpa using HIX.out) (Below.refl _ _) ?_
      (try simp only [Act.put, List.setIfInBounds_toArray, List.set_cons_zero, List.set_cons_succ])
      refine wpAnyH_take (i := 1) (v := .pointer (some ⟨w.heap.size, 1, none⟩)) rfl (by kernel_rfl) (by kernel_rfl) (by kernel_rfl) (fun _ _ _ h => h) (Or.inl ⟨by rfl, fun wz hz => ?_⟩) (Below.refl _ _) ?_
      · go_simp
      (try simp only [Act.put, List.setIfInBounds_toArray, List.set_cons_zero, List.set_cons_succ])
      refine held_load1 2 rfl (by kernel_rfl) (by kernel_rfl) (by kernel_rfl) (fun _ _ _ _ h => h) rfl 3 (.tmp 25) rfl w.heap.size 1 rfl _ _ (fun u' hu => (hu.cell (p := ⟨w.heap.size, 1, none⟩) (by simp only; omega)).trans k1) Try.underlying3 rfl (Below.refl _ _) ?_
      (try simp only [Act.put, List.setIfInBounds_toArray, List.set_cons_zero, List.set_cons_succ])
      refine wpAnyH_take (i := 3) (v := .pointer (some ⟨w.heap.size, 0, none⟩)) rfl (by kernel_rfl) (by kernel_rfl) (by kernel_rfl) (fun _ _ _ h => h) (Or.inl ⟨by rfl, fun wz hz => ?_⟩) (Below.refl _ _) ?_
      · go_simp
      (try simp only [Act.put, List.setIfInBounds_toArray, List.set_cons_zero, List.set_cons_succ])
      refine held_load1 4 rfl (by kernel_rfl) (by kernel_rfl) (by kernel_rfl) (fun _ _ _ _ h => h) rfl 84 (.tmp 27) rfl w.heap.size 0 rfl _ _ (fun u' hu => (hu.cell (p := ⟨w.heap.size, 0, none⟩) (by simp only; omega)).trans k0) Try.underlying84 rfl (Below.refl _ _) ?_
      (try simp only [Act.put, List.setIfInBounds_toArray, List.set_cons_zero, List.set_cons_succ])
      refine wpAnyH_ready (rs := [5]) (by kernel_rfl) (by simp) ?_
      refine AllReadyH.cons rfl (fun K hK => ?_) AllReadyH.nil
      go_simp
      refine (rest_any g rest 0 _ HX).mono ?_
      rintro e wa ⟨rfl, rfl⟩
      refine hK.out _ _ (Below.refl _ _) (fun _ => ?_)
      clear hK K
      (try simp only [Act.put, List.setIfInBounds_toArray, List.set_cons_zero, List.set_cons_succ])
      refine wpAnyH_take (i := 6) (v := .int .i64 ((size : Int) - (rest.length : Nat))) rfl (by kernel_rfl) (by kernel_rfl) (by kernel_rfl) (fun _ _ _ h => h) (Or.inl ⟨by rfl, fun wz hz => ?_⟩) (Below.refl _ _) ?_
      · have hsub := HSUB.out
        go_simp
      (try simp only [Act.put, List.setIfInBounds_toArray, List.set_cons_zero, List.set_cons_succ])
      refine wpAnyH_ready (rs := [7]) (by kernel_rfl) (by simp) ?_
      refine AllReadyH.cons rfl (fun K hK => ?_) AllReadyH.nil
      rw [if_pos (by rfl)]
      refine wp_store_blk 37 (.tmp 6) (.tmp 24) rfl (w.heap.size + 2) L.toArray rfl rfl Z b2 (by rw [hsz, hX]) HIX.out hX1 ?_
      intro w6 U6 B6
      refine hK.out _ _ (U6.below (Below.refl _ _) (Nat.le_refl _)) (fun _ => ?_)
      clear hK K
      (try simp only [Act.put, List.setIfInBounds_toArray, List.set_cons_zero, List.set_cons_succ])
      refine wpAnyH_ready (rs := [8]) (by kernel_rfl) (by simp) ?_
      refine AllReadyH.cons rfl (fun K hK => ?_) AllReadyH.nil
      go_simp
      refine hK.out _ _ (U6.below (Below.refl _ _) (Nat.le_refl _)) (fun _ => ?_)
      clear hK K
      (try simp only [Act.put, List.setIfInBounds_toArray, List.set_cons_zero, List.set_cons_succ])
      refine wpAnyH_ready (rs := [9]) (by kernel_rfl) (by simp) ?_
      refine AllReadyH.cons rfl (fun K hK => ?_) AllReadyH.nil
      go_simp
      refine hK.out _ _ (U6.below (Below.refl _ _) (Nat.le_refl _)) (fun _ => ?_)
      clear hK K
      (try simp only [Act.put, List.setIfInBounds_toArray, List.set_cons_zero, List.set_cons_succ])
      refine wpAnyH_done (by kernel_rfl) ?_ _
      go_wp2_with fail
      refine bodyPost_ret (res_cell_tmp2 rfl rfl rfl rfl B6 Try.underlying37 rfl HIX.out) rfl ⟨rfl, ?_⟩
      exact U6.below HBX (by omega)

set_option maxRecDepth 100000 in
set_option maxHeartbeats 4000000 in
theorem fin_att (g : Nat) (size : Nat) (rest : List Int) (e : Int) (X : Array Value) (enc : Bool) (w : World) (h : Rdr lo w g rest e) (hX : X.size = 67) (hX1 : ∀ v ∈ X, v.oneCell' = true) (hs : rest.length ≤ size) (hs1 : size ≤ 100000000) :
    Calls Try.prog 58 #[.agg #[.pointer (some ⟨g, 0, none⟩), .int .i64 size], .agg X, .bool enc] w (Fin w (finX e enc X (flatP (zAt.parts))) (finU e enc ((size : Int) - rest.length)) (finE e enc)) := by
  obtain ⟨L, rfl⟩ : ∃ L : List Value, X = L.toArray := ⟨X.toList, by simp⟩
  obtain ⟨Z, hZ⟩ : ∃ Z, Z = flatP (zAt.parts) := ⟨_, rfl⟩
  have hsz : Z.size = 67 := by rw [hZ]; rfl
  obtain ⟨hzz, hst⟩ := zero_array (P := Try.prog) (t := 45) (n := 67) Z (by rw [hZ]; kernel_rfl) hsz (by rw [hZ]; kernel_rfl)
  have HZ1 : Hid (∀ v ∈ Z, v.oneCell' = true) := fun v hv => (Array.all_eq_true_iff_forall_mem.1 (show Z.all (·.oneCell') = true by rw [hZ]; kernel_rfl)) v hv
  rw [← hZ]
  clear hZ
  have hba := (((Below.refl w.heap.size w).alloc (Nat.le_refl _) (.cells #[.pointer (some ⟨g, 0, none⟩), .int .i64 size] 86)).alloc (by simp) (.cells L.toArray 45)).alloc (by simp; omega) (.cells Z 45)
  have hR0 := h.below hba
  have DE := Lib.hid (err_any g rest e _ hR0)
  have HR0 := Lib.hid hR0; clear hR0 h
  have B0 : Hid (Blk (((w.alloc (.cells #[.pointer (some ⟨g, 0, none⟩), .int .i64 size] 86)).alloc (.cells L.toArray 45)).alloc (.cells Z 45)) w.heap.size #[.pointer (some ⟨g, 0, none⟩), .int .i64 size]) := ((Blk.new rfl).alloc _).alloc _
  have B1 : Hid (Blk (((w.alloc (.cells #[.pointer (some ⟨g, 0, none⟩), .int .i64 size] 86)).alloc (.cells L.toArray 45)).alloc (.cells Z 45)) (w.heap.size + 1) L.toArray) := (Blk.new (by simp)).alloc _
  have B2 : Hid (Blk (((w.alloc (.cells #[.pointer (some ⟨g, 0, none⟩), .int .i64 size] 86)).alloc (.cells L.toArray 45)).alloc (.cells Z 45)) (w.heap.size + 2) Z) := Blk.new (by simp)
  have HBA := Lib.hid hba; clear hba
  have hiX : (Try.prog.info? 45).map (·.size) = some L.toArray.size := by rw [hX]; kernel_rfl
  have HIX := Lib.hid hiX
  have HIZ : Hid ((Try.prog.info? 45).map (·.size) = some Z.size) := by show _ = _; rw [hsz]; kernel_rfl
  unfold finX finU finE
  clear hiX
  by_cases he : e = 0
  case neg =>
    have hne : (e != 0) = true := by simpa using he
    have heq : (e == 0) = false := by simpa using he
    simp only [ne_eq, he, not_false_eq_true, if_true, if_false]
    clear he
    have B4 : Hid (Blk ((((w.alloc (.cells #[.pointer (some ⟨g, 0, none⟩), .int .i64 size] 86)).alloc (.cells L.toArray 45)).alloc (.cells Z 45)).alloc (.cells Z 45)) (w.heap.size + 3) Z) := Blk.new (by simp)
    have B5 := Lib.hid (B2.out.alloc (.cells Z 45))
    go_enter Try.func58, Try.ntmps58
    go_wp2_with (first
      | (go_at_call 83; refine DE.out.mono ?_; rintro en w1 ⟨rfl, rfl⟩)
      | ((with_reducible refine at_load (.tmp 10) ?_); refine wpList_load_g 45 (.tmp 10) rfl (w.heap.size + 3) rfl Z _ B4.out Try.underlying45 rfl HIZ.out rfl ?_)
      | ((with_reducible refine at_store (.tmp 6) ?_); refine wpList_store_blk rfl 45 (.tmp 6) _ rfl (w.heap.size + 2) Z rfl rfl Z B5.out rfl HIZ.out HZ1.out ?_; intro w6 U6 B6))
    refine bodyPost_ret (res_cell_tmp2 rfl rfl rfl rfl B6 Try.underlying45 rfl HIZ.out) rfl ⟨rfl, ?_⟩
    exact U6.below (HBA.out.alloc (by simp; omega) _) (by omega)
  case pos =>
    subst he
    simp only [ne_eq, not_true_eq_false, if_false]
    cases enc
    case false =>
      simp only [Bool.false_eq_true, if_false, show ((2 : Int) = 0) = False by simp]
      have B4 : Hid (Blk ((((w.alloc (.cells #[.pointer (some ⟨g, 0, none⟩), .int .i64 size] 86)).alloc (.cells L.toArray 45)).alloc (.cells Z 45)).alloc (.cells Z 45)) (w.heap.size + 3) Z) := Blk.new (by simp)
      have B5 := Lib.hid (B2.out.alloc (.cells Z 45))
      go_enter Try.func58, Try.ntmps58
      go_wp2_with (first
        | (go_at_call 83; refine DE.out.mono ?_; rintro en w1 ⟨rfl, rfl⟩)
        | ((with_reducible refine at_load (.tmp 10) ?_); refine wpList_load_g 45 (.tmp 10) rfl (w.heap.size + 3) rfl Z _ B4.out Try.underlying45 rfl HIZ.out rfl ?_)
        | ((with_reducible refine at_store (.tmp 6) ?_); refine wpList_store_blk rfl 45 (.tmp 6) _ rfl (w.heap.size + 2) Z rfl rfl Z B5.out rfl HIZ.out HZ1.out ?_; intro w6 U6 B6))
      refine bodyPost_ret (res_cell_tmp2 rfl rfl rfl rfl B6 Try.underlying45 rfl HIZ.out) rfl ⟨rfl, ?_⟩
      exact U6.below (HBA.out.alloc (by simp; omega) _) (by omega)
    case true =>
      simp only [if_true]
      go_enter Try.func58, Try.ntmps58
      go_wp2_with (go_at_call 83; refine DE.out.mono ?_; rintro en w1 ⟨rfl, rfl⟩)
      clear DE hzz hst
      obtain ⟨u, hu⟩ : ∃ u, (((w.alloc (.cells #[.pointer (some ⟨g, 0, none⟩), .int .i64 size] 86)).alloc (.cells L.toArray 45)).alloc (.cells Z 45)) = u := ⟨_, rfl⟩
      rw [hu] at B0 B1 B2 HR0 HBA ⊢
      clear hu
      have HX := HR0.out.drew
      have HBX := Below.drewN (n := 1) HBA.out
      change Below w.heap.size w u.drew at HBX
      have b0 : Blk u.drew w.heap.size #[.pointer (some ⟨g, 0, none⟩), .int .i64 size] := B0.out
      have b1 : Blk u.drew (w.heap.size + 1) L.toArray := B1.out
      have b2 : Blk u.drew (w.heap.size + 2) Z := B2.out
      obtain ⟨x, hx⟩ : ∃ x, u.drew = x := ⟨_, rfl⟩
      rw [hx] at HX HBX b0 b1 b2
      refine wp_region_held_drew (S := fun u' => Below (w.heap.size + 2) x u') (by kernel_rfl) (by rw [hx]; exact Below.refl _ _) (fun _ => ?_)
      rw [hx]
      clear hx
      have r1 : x.rangeAt (w.heap.size + 1) 0 L := by simpa using b1.range
      have k0 := b0.cell 0
      have k1 := b0.cell 1
      have hsub : IntKind.i64.wrap ((size : Int) - (rest.length : Nat)) = (size : Int) - (rest.length : Nat) := IntWalk.i64_in _ (by omega)
      have HSUB := Lib.hid hsub; clear hsub
      (try simp only [Act.put, List.setIfInBounds_toArray, List.set_cons_zero, List.set_cons_succ])
      refine held_load 0 rfl (by kernel_rfl) (by kernel_rfl) (by kernel_rfl) (fun _ _ _ _ h => h) rfl 45 (.tmp 4) rfl (w.heap.size + 1) 0 rfl L _ (fun u' hu => Below.rng hu (by omega) r1) Try.underlying45 rfl (by simpa using HIX.out) (Below.refl _ _) ?_
      (try simp only [Act.put, List.setIfInBounds_toArray, List.set_cons_zero, List.set_cons_succ])
      refine wpAnyH_take (i := 1) (v := .pointer (some ⟨w.heap.size, 1, none⟩)) rfl (by kernel_rfl) (by kernel_rfl) (by kernel_rfl) (fun _ _ _ h => h) (Or.inl ⟨by rfl, fun wz hz => ?_⟩) (Below.refl _ _) ?_
      · go_simp
      (try simp only [Act.put, List.setIfInBounds_toArray, List.set_cons_zero, List.set_cons_succ])
      refine held_load1 2 rfl (by kernel_rfl) (by kernel_rfl) (by kernel_rfl) (fun _ _ _ _ h => h) rfl 3 (.tmp 25) rfl w.heap.size 1 rfl _ _ (fun u' hu => (hu.cell (p := ⟨w.heap.size, 1, none⟩) (by simp only; omega)).trans k1) Try.underlying3 rfl (Below.refl _ _) ?_
      (try simp only [Act.put, List.setIfInBounds_toArray, List.set_cons_zero, List.set_cons_succ])
      refine wpAnyH_take (i := 3) (v := .pointer (some ⟨w.heap.size, 0, none⟩)) rfl (by kernel_rfl) (by kernel_rfl) (by kernel_rfl) (fun _ _ _ h => h) (Or.inl ⟨by rfl, fun wz hz => ?_⟩) (Below.refl _ _) ?_
      · go_simp
      (try simp only [Act.put, List.setIfInBounds_toArray, List.set_cons_zero, List.set_cons_succ])
      refine held_load1 4 rfl (by kernel_rfl) (by kernel_rfl) (by kernel_rfl) (fun _ _ _ _ h => h) rfl 84 (.tmp 27) rfl w.heap.size 0 rfl _ _ (fun u' hu => (hu.cell (p := ⟨w.heap.size, 0, none⟩) (by simp only; omega)).trans k0) Try.underlying84 rfl (Below.refl _ _) ?_
      (try simp only [Act.put, List.setIfInBounds_toArray, List.set_cons_zero, List.set_cons_succ])
      refine wpAnyH_ready (rs := [5]) (by kernel_rfl) (by simp) ?_
      refine AllReadyH.cons rfl (fun K hK => ?_) AllReadyH.nil
      go_simp
      refine (rest_any g rest 0 _ HX).mono ?_
      rintro e wa ⟨rfl, rfl⟩
      refine hK.out _ _ (Below.refl _ _) (fun _ => ?_)
      clear hK K
      (try simp only [Act.put, List.setIfInBounds_toArray, List.set_cons_zero, List.set_cons_succ])
      refine wpAnyH_take (i := 6) (v := .int .i64 ((size : Int) - (rest.length : Nat))) rfl (by kernel_rfl) (by kernel_rfl) (by kernel_rfl) (fun _ _ _ h => h) (Or.inl ⟨by rfl, fun wz hz => ?_⟩) (Below.refl _ _) ?_
      · have hsub := HSUB.out
        go_simp
      (try simp only [Act.put, List.setIfInBounds_toArray, List.set_cons_zero, List.set_cons_succ])
      refine wpAnyH_ready (rs := [7]) (by kernel_rfl) (by simp) ?_
      refine AllReadyH.cons rfl (fun K hK => ?_) AllReadyH.nil
      rw [if_pos (by rfl)]
      refine wp_store_blk 45 (.tmp 6) (.tmp 24) rfl (w.heap.size + 2) L.toArray rfl rfl Z b2 (by rw [hsz, hX]) HIX.out hX1 ?_
      intro w6 U6 B6
      refine hK.out _ _ (U6.below (Below.refl _ _) (Nat.le_refl _)) (fun _ => ?_)
      clear hK K
      (try simp only [Act.put, List.setIfInBounds_toArray, List.set_cons_zero, List.set_cons_succ])
      refine wpAnyH_ready (rs := [8]) (by kernel_rfl) (by simp) ?_
      refine AllReadyH.cons rfl (fun K hK => ?_) AllReadyH.nil
      go_simp
      refine hK.out _ _ (U6.below (Below.refl _ _) (Nat.le_refl _)) (fun _ => ?_)
      clear hK K
      (try simp only [Act.put, List.setIfInBounds_toArray, List.set_cons_zero, List.set_cons_succ])
      refine wpAnyH_ready (rs := [9]) (by kernel_rfl) (by simp) ?_
      refine AllReadyH.cons rfl (fun K hK => ?_) AllReadyH.nil
      go_simp
      refine hK.out _ _ (U6.below (Below.refl _ _) (Nat.le_refl _)) (fun _ => ?_)
      clear hK K
      (try simp only [Act.put, List.setIfInBounds_toArray, List.set_cons_zero, List.set_cons_succ])
      refine wpAnyH_done (by kernel_rfl) ?_ _
      go_wp2_with fail
      refine bodyPost_ret (res_cell_tmp2 rfl rfl rfl rfl B6 Try.underlying45 rfl HIX.out) rfl ⟨rfl, ?_⟩
      exact U6.below HBX (by omega)

set_option maxRecDepth 100000 in
set_option maxHeartbeats 4000000 in
theorem fin_sla (g : Nat) (size : Nat) (rest : List Int) (e : Int) (X : Array Value) (enc : Bool) (w : World) (h : Rdr lo w g rest e) (hX : X.size = 70) (hX1 : ∀ v ∈ X, v.oneCell' = true) (hs : rest.length ≤ size) (hs1 : size ≤ 100000000) :
    Calls Try.prog 63 #[.agg #[.pointer (some ⟨g, 0, none⟩), .int .i64 size], .agg X, .bool enc] w (Fin w (finX e enc X (flatP ([zCl.cells, zCl.cells]))) (finU e enc ((size : Int) - rest.length)) (finE e enc)) := by
  obtain ⟨L, rfl⟩ : ∃ L : List Value, X = L.toArray := ⟨X.toList, by simp⟩
  obtain ⟨Z, hZ⟩ : ∃ Z, Z = flatP ([zCl.cells, zCl.cells]) := ⟨_, rfl⟩
  have hsz : Z.size = 70 := by rw [hZ]; rfl
  obtain ⟨hzz, hst⟩ := zero_array (P := Try.prog) (t := 56) (n := 70) Z (by rw [hZ]; kernel_rfl) hsz (by rw [hZ]; kernel_rfl)
  have HZ1 : Hid (∀ v ∈ Z, v.oneCell' = true) := fun v hv => (Array.all_eq_true_iff_forall_mem.1 (show Z.all (·.oneCell') = true by rw [hZ]; kernel_rfl)) v hv
  rw [← hZ]
  clear hZ
  have hba := (((Below.refl w.heap.size w).alloc (Nat.le_refl _) (.cells #[.pointer (some ⟨g, 0, none⟩), .int .i64 size] 86)).alloc (by simp) (.cells L.toArray 56)).alloc (by simp; omega) (.cells Z 56)
  have hR0 := h.below hba
  have DE := Lib.hid (err_any g rest e _ hR0)
  have HR0 := Lib.hid hR0; clear hR0 h
  have B0 : Hid (Blk (((w.alloc (.cells #[.pointer (some ⟨g, 0, none⟩), .int .i64 size] 86)).alloc (.cells L.toArray 56)).alloc (.cells Z 56)) w.heap.size #[.pointer (some ⟨g, 0, none⟩), .int .i64 size]) := ((Blk.new rfl).alloc _).alloc _
  have B1 : Hid (Blk (((w.alloc (.cells #[.pointer (some ⟨g, 0, none⟩), .int .i64 size] 86)).alloc (.cells L.toArray 56)).alloc (.cells Z 56)) (w.heap.size + 1) L.toArray) := (Blk.new (by simp)).alloc _
  have B2 : Hid (Blk (((w.alloc (.cells #[.pointer (some ⟨g, 0, none⟩), .int .i64 size] 86)).alloc (.cells L.toArray 56)).alloc (.cells Z 56)) (w.heap.size + 2) Z) := Blk.new (by simp)
  have HBA := Lib.hid hba; clear hba
  have hiX : (Try.prog.info? 56).map (·.size) = some L.toArray.size := by rw [hX]; kernel_rfl
  have HIX := Lib.hid hiX
  have HIZ : Hid ((Try.prog.info? 56).map (·.size) = some Z.size) := by show _ = _; rw [hsz]; kernel_rfl
  unfold finX finU finE
  clear hiX
  by_cases he : e = 0
  case neg =>
    have hne : (e != 0) = true := by simpa using he
    have heq : (e == 0) = false := by simpa using he
    simp only [ne_eq, he, not_false_eq_true, if_true, if_false]
    clear he
    have B4 : Hid (Blk ((((w.alloc (.cells #[.pointer (some ⟨g, 0, none⟩), .int .i64 size] 86)).alloc (.cells L.toArray 56)).alloc (.cells Z 56)).alloc (.cells Z 56)) (w.heap.size + 3) Z) := Blk.new (by simp)
    have B5 := Lib.hid (B2.out.alloc (.cells Z 56))
    go_enter Try.func63, Try.ntmps63
    go_wp2_with (first
      | (go_at_call 83; refine DE.out.mono ?_; rintro en w1 ⟨rfl, rfl⟩)
      | ((with_reducible refine at_load (.tmp 10) ?_); refine wpList_load_g 56 (.tmp 10) rfl (w.heap.size + 3) rfl Z _ B4.out Try.underlying56 rfl HIZ.out rfl ?_)
      | ((with_reducible refine at_store (.tmp 6) ?_); refine wpList_store_blk rfl 56 (.tmp 6) _ rfl (w.heap.size + 2) Z rfl rfl Z B5.out rfl HIZ.out HZ1.out ?_; intro w6 U6 B6))
    refine bodyPost_ret (res_cell_tmp2 rfl rfl rfl rfl B6 Try.underlying56 rfl HIZ.out) rfl ⟨rfl, ?_⟩
    exact U6.below (HBA.out.alloc (by simp; omega) _) (by omega)
  case pos =>
    subst he
    simp only [ne_eq, not_true_eq_false, if_false]
    cases enc
    case false =>
      simp only [Bool.false_eq_true, if_false, show ((2 : Int) = 0) = False by simp]
      have B4 : Hid (Blk ((((w.alloc (.cells #[.pointer (some ⟨g, 0, none⟩), .int .i64 size] 86)).alloc (.cells L.toArray 56)).alloc (.cells Z 56)).alloc (.cells Z 56)) (w.heap.size + 3) Z) := Blk.new (by simp)
      have B5 := Lib.hid (B2.out.alloc (.cells Z 56))
      go_enter Try.func63, Try.ntmps63
      go_wp2_with (first
        | (go_at_call 83; refine DE.out.mono ?_; rintro en w1 ⟨rfl, rfl⟩)
        | ((with_reducible refine at_load (.tmp 10) ?_); refine wpList_load_g 56 (.tmp 10) rfl (w.heap.size + 3) rfl Z _ B4.out Try.underlying56 rfl HIZ.out rfl ?_)
        | ((with_reducible refine at_store (.tmp 6) ?_); refine wpList_store_blk rfl 56 (.tmp 6) _ rfl (w.heap.size + 2) Z rfl rfl Z B5.out rfl HIZ.out HZ1.out ?_; intro w6 U6 B6))
      refine bodyPost_ret (res_cell_tmp2 rfl rfl rfl rfl B6 Try.underlying56 rfl HIZ.out) rfl ⟨rfl, ?_⟩
      exact U6.below (HBA.out.alloc (by simp; omega) _) (by omega)
    case true =>
      simp only [if_true]
      go_enter Try.func63, Try.ntmps63
      go_wp2_with (go_at_call 83; refine DE.out.mono ?_; rintro en w1 ⟨rfl, rfl⟩)
      clear DE hzz hst
      obtain ⟨u, hu⟩ : ∃ u, (((w.alloc (.cells #[.pointer (some ⟨g, 0, none⟩), .int .i64 size] 86)).alloc (.cells L.toArray 56)).alloc (.cells Z 56)) = u := ⟨_, rfl⟩
      rw [hu] at B0 B1 B2 HR0 HBA ⊢
      clear hu
      have HX := HR0.out.drew
      have HBX := Below.drewN (n := 1) HBA.out
      change Below w.heap.size w u.drew at HBX
      have b0 : Blk u.drew w.heap.size #[.pointer (some ⟨g, 0, none⟩), .int .i64 size] := B0.out
      have b1 : Blk u.drew (w.heap.size + 1) L.toArray := B1.out
      have b2 : Blk u.drew (w.heap.size + 2) Z := B2.out
      obtain ⟨x, hx⟩ : ∃ x, u.drew = x := ⟨_, rfl⟩
      rw [hx] at HX HBX b0 b1 b2
      refine wp_region_held_drew (S := fun u' => Below (w.heap.size + 2) x u') (by kernel_rfl) (by rw [hx]; exact Below.refl _ _) (fun _ => ?_)
      rw [hx]
      clear hx
      have r1 : x.rangeAt (w.heap.size + 1) 0 L := by simpa using b1.range
      have k0 := b0.cell 0
      have k1 := b0.cell 1
      have hsub : IntKind.i64.wrap ((size : Int) - (rest.length : Nat)) = (size : Int) - (rest.length : Nat) := IntWalk.i64_in _ (by omega)
      have HSUB := Lib.hid hsub; clear hsub
      (try simp only [Act.put, List.setIfInBounds_toArray, List.set_cons_zero, List.set_cons_succ])
      refine held_load 0 rfl (by kernel_rfl) (by kernel_rfl) (by kernel_rfl) (fun _ _ _ _ h => h) rfl 56 (.tmp 4) rfl (w.heap.size + 1) 0 rfl L _ (fun u' hu => Below.rng hu (by omega) r1) Try.underlying56 rfl (by simpa using HIX.out) (Below.refl _ _) ?_
      (try simp only [Act.put, List.setIfInBounds_toArray, List.set_cons_zero, List.set_cons_succ])
      refine wpAnyH_take (i := 1) (v := .pointer (some ⟨w.heap.size, 1, none⟩)) rfl (by kernel_rfl) (by kernel_rfl) (by kernel_rfl) (fun _ _ _ h => h) (Or.inl ⟨by rfl, fun wz hz => ?_⟩) (Below.refl _ _) ?_
      · go_simp
      (try simp only [Act.put, List.setIfInBounds_toArray, List.set_cons_zero, List.set_cons_succ])
      refine held_load1 2 rfl (by kernel_rfl) (by kernel_rfl) (by kernel_rfl) (fun _ _ _ _ h => h) rfl 3 (.tmp 25) rfl w.heap.size 1 rfl _ _ (fun u' hu => (hu.cell (p := ⟨w.heap.size, 1, none⟩) (by simp only; omega)).trans k1) Try.underlying3 rfl (Below.refl _ _) ?_
      (try simp only [Act.put, List.setIfInBounds_toArray, List.set_cons_zero, List.set_cons_succ])
      refine wpAnyH_take (i := 3) (v := .pointer (some ⟨w.heap.size, 0, none⟩)) rfl (by kernel_rfl) (by kernel_rfl) (by kernel_rfl) (fun _ _ _ h => h) (Or.inl ⟨by rfl, fun wz hz => ?_⟩) (Below.refl _ _) ?_
      · go_simp
      (try simp only [Act.put, List.setIfInBounds_toArray, List.set_cons_zero, List.set_cons_succ])
      refine held_load1 4 rfl (by kernel_rfl) (by kernel_rfl) (by kernel_rfl) (fun _ _ _ _ h => h) rfl 84 (.tmp 27) rfl w.heap.size 0 rfl _ _ (fun u' hu => (hu.cell (p := ⟨w.heap.size, 0, none⟩) (by simp only; omega)).trans k0) Try.underlying84 rfl (Below.refl _ _) ?_
      (try simp only [Act.put, List.setIfInBounds_toArray, List.set_cons_zero, List.set_cons_succ])
      refine wpAnyH_ready (rs := [5]) (by kernel_rfl) (by simp) ?_
      refine AllReadyH.cons rfl (fun K hK => ?_) AllReadyH.nil
      go_simp
      refine (rest_any g rest 0 _ HX).mono ?_
      rintro e wa ⟨rfl, rfl⟩
      refine hK.out _ _ (Below.refl _ _) (fun _ => ?_)
      clear hK K
      (try simp only [Act.put, List.setIfInBounds_toArray, List.set_cons_zero, List.set_cons_succ])
      refine wpAnyH_take (i := 6) (v := .int .i64 ((size : Int) - (rest.length : Nat))) rfl (by kernel_rfl) (by kernel_rfl) (by kernel_rfl) (fun _ _ _ h => h) (Or.inl ⟨by rfl, fun wz hz => ?_⟩) (Below.refl _ _) ?_
      · have hsub := HSUB.out
        go_simp
      (try simp only [Act.put, List.setIfInBounds_toArray, List.set_cons_zero, List.set_cons_succ])
      refine wpAnyH_ready (rs := [7]) (by kernel_rfl) (by simp) ?_
      refine AllReadyH.cons rfl (fun K hK => ?_) AllReadyH.nil
      rw [if_pos (by rfl)]
      refine wp_store_blk 56 (.tmp 6) (.tmp 24) rfl (w.heap.size + 2) L.toArray rfl rfl Z b2 (by rw [hsz, hX]) HIX.out hX1 ?_
      intro w6 U6 B6
      refine hK.out _ _ (U6.below (Below.refl _ _) (Nat.le_refl _)) (fun _ => ?_)
      clear hK K
      (try simp only [Act.put, List.setIfInBounds_toArray, List.set_cons_zero, List.set_cons_succ])
      refine wpAnyH_ready (rs := [8]) (by kernel_rfl) (by simp) ?_
      refine AllReadyH.cons rfl (fun K hK => ?_) AllReadyH.nil
      go_simp
      refine hK.out _ _ (U6.below (Below.refl _ _) (Nat.le_refl _)) (fun _ => ?_)
      clear hK K
      (try simp only [Act.put, List.setIfInBounds_toArray, List.set_cons_zero, List.set_cons_succ])
      refine wpAnyH_ready (rs := [9]) (by kernel_rfl) (by simp) ?_
      refine AllReadyH.cons rfl (fun K hK => ?_) AllReadyH.nil
      go_simp
      refine hK.out _ _ (U6.below (Below.refl _ _) (Nat.le_refl _)) (fun _ => ?_)
      clear hK K
      (try simp only [Act.put, List.setIfInBounds_toArray, List.set_cons_zero, List.set_cons_succ])
      refine wpAnyH_done (by kernel_rfl) ?_ _
      go_wp2_with fail
      refine bodyPost_ret (res_cell_tmp2 rfl rfl rfl rfl B6 Try.underlying56 rfl HIX.out) rfl ⟨rfl, ?_⟩
      exact U6.below HBX (by omega)

set_option maxRecDepth 100000 in
set_option maxHeartbeats 4000000 in
theorem fin_tab (g : Nat) (size : Nat) (rest : List Int) (e : Int) (X : Array Value) (enc : Bool) (w : World) (h : Rdr lo w g rest e) (hX : X.size = 34) (hX1 : ∀ v ∈ X, v.oneCell' = true) (hs : rest.length ≤ size) (hs1 : size ≤ 100000000) :
    Calls Try.prog 67 #[.agg #[.pointer (some ⟨g, 0, none⟩), .int .i64 size], .agg X, .bool enc] w (Fin w (finX e enc X (flatP (zTb.parts))) (finU e enc ((size : Int) - rest.length)) (finE e enc)) := by
  obtain ⟨L, rfl⟩ : ∃ L : List Value, X = L.toArray := ⟨X.toList, by simp⟩
  obtain ⟨Z, hZ⟩ : ∃ Z, Z = flatP (zTb.parts) := ⟨_, rfl⟩
  have hsz : Z.size = 34 := by rw [hZ]; rfl
  obtain ⟨hzz, hst⟩ := zero_array (P := Try.prog) (t := 64) (n := 34) Z (by rw [hZ]; kernel_rfl) hsz (by rw [hZ]; kernel_rfl)
  have HZ1 : Hid (∀ v ∈ Z, v.oneCell' = true) := fun v hv => (Array.all_eq_true_iff_forall_mem.1 (show Z.all (·.oneCell') = true by rw [hZ]; kernel_rfl)) v hv
  rw [← hZ]
  clear hZ
  have hba := (((Below.refl w.heap.size w).alloc (Nat.le_refl _) (.cells #[.pointer (some ⟨g, 0, none⟩), .int .i64 size] 86)).alloc (by simp) (.cells L.toArray 64)).alloc (by simp; omega) (.cells Z 64)
  have hR0 := h.below hba
  have DE := Lib.hid (err_any g rest e _ hR0)
  have HR0 := Lib.hid hR0; clear hR0 h
  have B0 : Hid (Blk (((w.alloc (.cells #[.pointer (some ⟨g, 0, none⟩), .int .i64 size] 86)).alloc (.cells L.toArray 64)).alloc (.cells Z 64)) w.heap.size #[.pointer (some ⟨g, 0, none⟩), .int .i64 size]) := ((Blk.new rfl).alloc _).alloc _
  have B1 : Hid (Blk (((w.alloc (.cells #[.pointer (some ⟨g, 0, none⟩), .int .i64 size] 86)).alloc (.cells L.toArray 64)).alloc (.cells Z 64)) (w.heap.size + 1) L.toArray) := (Blk.new (by simp)).alloc _
  have B2 : Hid (Blk (((w.alloc (.cells #[.pointer (some ⟨g, 0, none⟩), .int .i64 size] 86)).alloc (.cells L.toArray 64)).alloc (.cells Z 64)) (w.heap.size + 2) Z) := Blk.new (by simp)
  have HBA := Lib.hid hba; clear hba
  have hiX : (Try.prog.info? 64).map (·.size) = some L.toArray.size := by rw [hX]; kernel_rfl
  have HIX := Lib.hid hiX
  have HIZ : Hid ((Try.prog.info? 64).map (·.size) = some Z.size) := by show _ = _; rw [hsz]; kernel_rfl
  unfold finX finU finE
  clear hiX
  by_cases he : e = 0
  case neg =>
    have hne : (e != 0) = true := by simpa using he
    have heq : (e == 0) = false := by simpa using he
    simp only [ne_eq, he, not_false_eq_true, if_true, if_false]
    clear he
    have B4 : Hid (Blk ((((w.alloc (.cells #[.pointer (some ⟨g, 0, none⟩), .int .i64 size] 86)).alloc (.cells L.toArray 64)).alloc (.cells Z 64)).alloc (.cells Z 64)) (w.heap.size + 3) Z) := Blk.new (by simp)
    have B5 := Lib.hid (B2.out.alloc (.cells Z 64))
    go_enter Try.func67, Try.ntmps67
    go_wp2_with (first
      | (go_at_call 83; refine DE.out.mono ?_; rintro en w1 ⟨rfl, rfl⟩)
      | ((with_reducible refine at_load (.tmp 10) ?_); refine wpList_load_g 64 (.tmp 10) rfl (w.heap.size + 3) rfl Z _ B4.out Try.underlying64 rfl HIZ.out rfl ?_)
      | ((with_reducible refine at_store (.tmp 6) ?_); refine wpList_store_blk rfl 64 (.tmp 6) _ rfl (w.heap.size + 2) Z rfl rfl Z B5.out rfl HIZ.out HZ1.out ?_; intro w6 U6 B6))
    refine bodyPost_ret (res_cell_tmp2 rfl rfl rfl rfl B6 Try.underlying64 rfl HIZ.out) rfl ⟨rfl, ?_⟩
    exact U6.below (HBA.out.alloc (by simp; omega) _) (by omega)
  case pos =>
    subst he
    simp only [ne_eq, not_true_eq_false, if_false]
    cases enc
    case false =>
      simp only [Bool.false_eq_true, if_false, show ((2 : Int) = 0) = False by simp]
      have B4 : Hid (Blk ((((w.alloc (.cells #[.pointer (some ⟨g, 0, none⟩), .int .i64 size] 86)).alloc (.cells L.toArray 64)).alloc (.cells Z 64)).alloc (.cells Z 64)) (w.heap.size + 3) Z) := Blk.new (by simp)
      have B5 := Lib.hid (B2.out.alloc (.cells Z 64))
      go_enter Try.func67, Try.ntmps67
      go_wp2_with (first
        | (go_at_call 83; refine DE.out.mono ?_; rintro en w1 ⟨rfl, rfl⟩)
        | ((with_reducible refine at_load (.tmp 10) ?_); refine wpList_load_g 64 (.tmp 10) rfl (w.heap.size + 3) rfl Z _ B4.out Try.underlying64 rfl HIZ.out rfl ?_)
        | ((with_reducible refine at_store (.tmp 6) ?_); refine wpList_store_blk rfl 64 (.tmp 6) _ rfl (w.heap.size + 2) Z rfl rfl Z B5.out rfl HIZ.out HZ1.out ?_; intro w6 U6 B6))
      refine bodyPost_ret (res_cell_tmp2 rfl rfl rfl rfl B6 Try.underlying64 rfl HIZ.out) rfl ⟨rfl, ?_⟩
      exact U6.below (HBA.out.alloc (by simp; omega) _) (by omega)
    case true =>
      simp only [if_true]
      go_enter Try.func67, Try.ntmps67
      go_wp2_with (go_at_call 83; refine DE.out.mono ?_; rintro en w1 ⟨rfl, rfl⟩)
      clear DE hzz hst
      obtain ⟨u, hu⟩ : ∃ u, (((w.alloc (.cells #[.pointer (some ⟨g, 0, none⟩), .int .i64 size] 86)).alloc (.cells L.toArray 64)).alloc (.cells Z 64)) = u := ⟨_, rfl⟩
      rw [hu] at B0 B1 B2 HR0 HBA ⊢
      clear hu
      have HX := HR0.out.drew
      have HBX := Below.drewN (n := 1) HBA.out
      change Below w.heap.size w u.drew at HBX
      have b0 : Blk u.drew w.heap.size #[.pointer (some ⟨g, 0, none⟩), .int .i64 size] := B0.out
      have b1 : Blk u.drew (w.heap.size + 1) L.toArray := B1.out
      have b2 : Blk u.drew (w.heap.size + 2) Z := B2.out
      obtain ⟨x, hx⟩ : ∃ x, u.drew = x := ⟨_, rfl⟩
      rw [hx] at HX HBX b0 b1 b2
      refine wp_region_held_drew (S := fun u' => Below (w.heap.size + 2) x u') (by kernel_rfl) (by rw [hx]; exact Below.refl _ _) (fun _ => ?_)
      rw [hx]
      clear hx
      have r1 : x.rangeAt (w.heap.size + 1) 0 L := by simpa using b1.range
      have k0 := b0.cell 0
      have k1 := b0.cell 1
      have hsub : IntKind.i64.wrap ((size : Int) - (rest.length : Nat)) = (size : Int) - (rest.length : Nat) := IntWalk.i64_in _ (by omega)
      have HSUB := Lib.hid hsub; clear hsub
      (try simp only [Act.put, List.setIfInBounds_toArray, List.set_cons_zero, List.set_cons_succ])
      refine held_load 0 rfl (by kernel_rfl) (by kernel_rfl) (by kernel_rfl) (fun _ _ _ _ h => h) rfl 64 (.tmp 4) rfl (w.heap.size + 1) 0 rfl L _ (fun u' hu => Below.rng hu (by omega) r1) Try.underlying64 rfl (by simpa using HIX.out) (Below.refl _ _) ?_
      (try simp only [Act.put, List.setIfInBounds_toArray, List.set_cons_zero, List.set_cons_succ])
      refine wpAnyH_take (i := 1) (v := .pointer (some ⟨w.heap.size, 1, none⟩)) rfl (by kernel_rfl) (by kernel_rfl) (by kernel_rfl) (fun _ _ _ h => h) (Or.inl ⟨by rfl, fun wz hz => ?_⟩) (Below.refl _ _) ?_
      · go_simp
      (try simp only [Act.put, List.setIfInBounds_toArray, List.set_cons_zero, List.set_cons_succ])
      refine held_load1 2 rfl (by kernel_rfl) (by kernel_rfl) (by kernel_rfl) (fun _ _ _ _ h => h) rfl 3 (.tmp 25) rfl w.heap.size 1 rfl _ _ (fun u' hu => (hu.cell (p := ⟨w.heap.size, 1, none⟩) (by simp only; omega)).trans k1) Try.underlying3 rfl (Below.refl _ _) ?_
      (try simp only [Act.put, List.setIfInBounds_toArray, List.set_cons_zero, List.set_cons_succ])
      refine wpAnyH_take (i := 3) (v := .pointer (some ⟨w.heap.size, 0, none⟩)) rfl (by kernel_rfl) (by kernel_rfl) (by kernel_rfl) (fun _ _ _ h => h) (Or.inl ⟨by rfl, fun wz hz => ?_⟩) (Below.refl _ _) ?_
      · go_simp
      (try simp only [Act.put, List.setIfInBounds_toArray, List.set_cons_zero, List.set_cons_succ])
      refine held_load1 4 rfl (by kernel_rfl) (by kernel_rfl) (by kernel_rfl) (fun _ _ _ _ h => h) rfl 84 (.tmp 27) rfl w.heap.size 0 rfl _ _ (fun u' hu => (hu.cell (p := ⟨w.heap.size, 0, none⟩) (by simp only; omega)).trans k0) Try.underlying84 rfl (Below.refl _ _) ?_
      (try simp only [Act.put, List.setIfInBounds_toArray, List.set_cons_zero, List.set_cons_succ])
      refine wpAnyH_ready (rs := [5]) (by kernel_rfl) (by simp) ?_
      refine AllReadyH.cons rfl (fun K hK => ?_) AllReadyH.nil
      go_simp
      refine (rest_any g rest 0 _ HX).mono ?_
      rintro e wa ⟨rfl, rfl⟩
      refine hK.out _ _ (Below.refl _ _) (fun _ => ?_)
      clear hK K
      (try simp only [Act.put, List.setIfInBounds_toArray, List.set_cons_zero, List.set_cons_succ])
      refine wpAnyH_take (i := 6) (v := .int .i64 ((size : Int) - (rest.length : Nat))) rfl (by kernel_rfl) (by kernel_rfl) (by kernel_rfl) (fun _ _ _ h => h) (Or.inl ⟨by rfl, fun wz hz => ?_⟩) (Below.refl _ _) ?_
      · have hsub := HSUB.out
        go_simp
      (try simp only [Act.put, List.setIfInBounds_toArray, List.set_cons_zero, List.set_cons_succ])
      refine wpAnyH_ready (rs := [7]) (by kernel_rfl) (by simp) ?_
      refine AllReadyH.cons rfl (fun K hK => ?_) AllReadyH.nil
      rw [if_pos (by rfl)]
      refine wp_store_blk 64 (.tmp 6) (.tmp 24) rfl (w.heap.size + 2) L.toArray rfl rfl Z b2 (by rw [hsz, hX]) HIX.out hX1 ?_
      intro w6 U6 B6
      refine hK.out _ _ (U6.below (Below.refl _ _) (Nat.le_refl _)) (fun _ => ?_)
      clear hK K
      (try simp only [Act.put, List.setIfInBounds_toArray, List.set_cons_zero, List.set_cons_succ])
      refine wpAnyH_ready (rs := [8]) (by kernel_rfl) (by simp) ?_
      refine AllReadyH.cons rfl (fun K hK => ?_) AllReadyH.nil
      go_simp
      refine hK.out _ _ (U6.below (Below.refl _ _) (Nat.le_refl _)) (fun _ => ?_)
      clear hK K
      (try simp only [Act.put, List.setIfInBounds_toArray, List.set_cons_zero, List.set_cons_succ])
      refine wpAnyH_ready (rs := [9]) (by kernel_rfl) (by simp) ?_
      refine AllReadyH.cons rfl (fun K hK => ?_) AllReadyH.nil
      go_simp
      refine hK.out _ _ (U6.below (Below.refl _ _) (Nat.le_refl _)) (fun _ => ?_)
      clear hK K
      (try simp only [Act.put, List.setIfInBounds_toArray, List.set_cons_zero, List.set_cons_succ])
      refine wpAnyH_done (by kernel_rfl) ?_ _
      go_wp2_with fail
      refine bodyPost_ret (res_cell_tmp2 rfl rfl rfl rfl B6 Try.underlying64 rfl HIX.out) rfl ⟨rfl, ?_⟩
      exact U6.below HBX (by omega)

set_option maxRecDepth 100000 in
set_option maxHeartbeats 4000000 in
theorem fin_ver (g : Nat) (size : Nat) (rest : List Int) (e : Int) (X : Array Value) (enc : Bool) (w : World) (h : Rdr lo w g rest e) (hX : X.size = 34) (hX1 : ∀ v ∈ X, v.oneCell' = true) (hs : rest.length ≤ size) (hs1 : size ≤ 100000000) :
    Calls Try.prog 69 #[.agg #[.pointer (some ⟨g, 0, none⟩), .int .i64 size], .agg X, .bool enc] w (Fin w (finX e enc X (flatP (zVd.parts))) (finU e enc ((size : Int) - rest.length)) (finE e enc)) := by
  obtain ⟨L, rfl⟩ : ∃ L : List Value, X = L.toArray := ⟨X.toList, by simp⟩
  obtain ⟨Z, hZ⟩ : ∃ Z, Z = flatP (zVd.parts) := ⟨_, rfl⟩
  have hsz : Z.size = 34 := by rw [hZ]; rfl
  obtain ⟨hzz, hst⟩ := zero_array (P := Try.prog) (t := 68) (n := 34) Z (by rw [hZ]; kernel_rfl) hsz (by rw [hZ]; kernel_rfl)
  have HZ1 : Hid (∀ v ∈ Z, v.oneCell' = true) := fun v hv => (Array.all_eq_true_iff_forall_mem.1 (show Z.all (·.oneCell') = true by rw [hZ]; kernel_rfl)) v hv
  rw [← hZ]
  clear hZ
  have hba := (((Below.refl w.heap.size w).alloc (Nat.le_refl _) (.cells #[.pointer (some ⟨g, 0, none⟩), .int .i64 size] 86)).alloc (by simp) (.cells L.toArray 68)).alloc (by simp; omega) (.cells Z 68)
  have hR0 := h.below hba
  have DE := Lib.hid (err_any g rest e _ hR0)
  have HR0 := Lib.hid hR0; clear hR0 h
  have B0 : Hid (Blk (((w.alloc (.cells #[.pointer (some ⟨g, 0, none⟩), .int .i64 size] 86)).alloc (.cells L.toArray 68)).alloc (.cells Z 68)) w.heap.size #[.pointer (some ⟨g, 0, none⟩), .int .i64 size]) := ((Blk.new rfl).alloc _).alloc _
  have B1 : Hid (Blk (((w.alloc (.cells #[.pointer (some ⟨g, 0, none⟩), .int .i64 size] 86)).alloc (.cells L.toArray 68)).alloc (.cells Z 68)) (w.heap.size + 1) L.toArray) := (Blk.new (by simp)).alloc _
  have B2 : Hid (Blk (((w.alloc (.cells #[.pointer (some ⟨g, 0, none⟩), .int .i64 size] 86)).alloc (.cells L.toArray 68)).alloc (.cells Z 68)) (w.heap.size + 2) Z) := Blk.new (by simp)
  have HBA := Lib.hid hba; clear hba
  have hiX : (Try.prog.info? 68).map (·.size) = some L.toArray.size := by rw [hX]; kernel_rfl
  have HIX := Lib.hid hiX
  have HIZ : Hid ((Try.prog.info? 68).map (·.size) = some Z.size) := by show _ = _; rw [hsz]; kernel_rfl
  unfold finX finU finE
  clear hiX
  by_cases he : e = 0
  case neg =>
    have hne : (e != 0) = true := by simpa using he
    have heq : (e == 0) = false := by simpa using he
    simp only [ne_eq, he, not_false_eq_true, if_true, if_false]
    clear he
    have B4 : Hid (Blk ((((w.alloc (.cells #[.pointer (some ⟨g, 0, none⟩), .int .i64 size] 86)).alloc (.cells L.toArray 68)).alloc (.cells Z 68)).alloc (.cells Z 68)) (w.heap.size + 3) Z) := Blk.new (by simp)
    have B5 := Lib.hid (B2.out.alloc (.cells Z 68))
    go_enter Try.func69, Try.ntmps69
    go_wp2_with (first
      | (go_at_call 83; refine DE.out.mono ?_; rintro en w1 ⟨rfl, rfl⟩)
      | ((with_reducible refine at_load (.tmp 10) ?_); refine wpList_load_g 68 (.tmp 10) rfl (w.heap.size + 3) rfl Z _ B4.out Try.underlying68 rfl HIZ.out rfl ?_)
      | ((with_reducible refine at_store (.tmp 6) ?_); refine wpList_store_blk rfl 68 (.tmp 6) _ rfl (w.heap.size + 2) Z rfl rfl Z B5.out rfl HIZ.out HZ1.out ?_; intro w6 U6 B6))
    refine bodyPost_ret (res_cell_tmp2 rfl rfl rfl rfl B6 Try.underlying68 rfl HIZ.out) rfl ⟨rfl, ?_⟩
    exact U6.below (HBA.out.alloc (by simp; omega) _) (by omega)
  case pos =>
    subst he
    simp only [ne_eq, not_true_eq_false, if_false]
    cases enc
    case false =>
      simp only [Bool.false_eq_true, if_false, show ((2 : Int) = 0) = False by simp]
      have B4 : Hid (Blk ((((w.alloc (.cells #[.pointer (some ⟨g, 0, none⟩), .int .i64 size] 86)).alloc (.cells L.toArray 68)).alloc (.cells Z 68)).alloc (.cells Z 68)) (w.heap.size + 3) Z) := Blk.new (by simp)
      have B5 := Lib.hid (B2.out.alloc (.cells Z 68))
      go_enter Try.func69, Try.ntmps69
      go_wp2_with (first
        | (go_at_call 83; refine DE.out.mono ?_; rintro en w1 ⟨rfl, rfl⟩)
        | ((with_reducible refine at_load (.tmp 10) ?_); refine wpList_load_g 68 (.tmp 10) rfl (w.heap.size + 3) rfl Z _ B4.out Try.underlying68 rfl HIZ.out rfl ?_)
        | ((with_reducible refine at_store (.tmp 6) ?_); refine wpList_store_blk rfl 68 (.tmp 6) _ rfl (w.heap.size + 2) Z rfl rfl Z B5.out rfl HIZ.out HZ1.out ?_; intro w6 U6 B6))
      refine bodyPost_ret (res_cell_tmp2 rfl rfl rfl rfl B6 Try.underlying68 rfl HIZ.out) rfl ⟨rfl, ?_⟩
      exact U6.below (HBA.out.alloc (by simp; omega) _) (by omega)
    case true =>
      simp only [if_true]
      go_enter Try.func69, Try.ntmps69
      go_wp2_with (go_at_call 83; refine DE.out.mono ?_; rintro en w1 ⟨rfl, rfl⟩)
      clear DE hzz hst
      obtain ⟨u, hu⟩ : ∃ u, (((w.alloc (.cells #[.pointer (some ⟨g, 0, none⟩), .int .i64 size] 86)).alloc (.cells L.toArray 68)).alloc (.cells Z 68)) = u := ⟨_, rfl⟩
      rw [hu] at B0 B1 B2 HR0 HBA ⊢
      clear hu
      have HX := HR0.out.drew
      have HBX := Below.drewN (n := 1) HBA.out
      change Below w.heap.size w u.drew at HBX
      have b0 : Blk u.drew w.heap.size #[.pointer (some ⟨g, 0, none⟩), .int .i64 size] := B0.out
      have b1 : Blk u.drew (w.heap.size + 1) L.toArray := B1.out
      have b2 : Blk u.drew (w.heap.size + 2) Z := B2.out
      obtain ⟨x, hx⟩ : ∃ x, u.drew = x := ⟨_, rfl⟩
      rw [hx] at HX HBX b0 b1 b2
      refine wp_region_held_drew (S := fun u' => Below (w.heap.size + 2) x u') (by kernel_rfl) (by rw [hx]; exact Below.refl _ _) (fun _ => ?_)
      rw [hx]
      clear hx
      have r1 : x.rangeAt (w.heap.size + 1) 0 L := by simpa using b1.range
      have k0 := b0.cell 0
      have k1 := b0.cell 1
      have hsub : IntKind.i64.wrap ((size : Int) - (rest.length : Nat)) = (size : Int) - (rest.length : Nat) := IntWalk.i64_in _ (by omega)
      have HSUB := Lib.hid hsub; clear hsub
      (try simp only [Act.put, List.setIfInBounds_toArray, List.set_cons_zero, List.set_cons_succ])
      refine held_load 0 rfl (by kernel_rfl) (by kernel_rfl) (by kernel_rfl) (fun _ _ _ _ h => h) rfl 68 (.tmp 4) rfl (w.heap.size + 1) 0 rfl L _ (fun u' hu => Below.rng hu (by omega) r1) Try.underlying68 rfl (by simpa using HIX.out) (Below.refl _ _) ?_
      (try simp only [Act.put, List.setIfInBounds_toArray, List.set_cons_zero, List.set_cons_succ])
      refine wpAnyH_take (i := 1) (v := .pointer (some ⟨w.heap.size, 1, none⟩)) rfl (by kernel_rfl) (by kernel_rfl) (by kernel_rfl) (fun _ _ _ h => h) (Or.inl ⟨by rfl, fun wz hz => ?_⟩) (Below.refl _ _) ?_
      · go_simp
      (try simp only [Act.put, List.setIfInBounds_toArray, List.set_cons_zero, List.set_cons_succ])
      refine held_load1 2 rfl (by kernel_rfl) (by kernel_rfl) (by kernel_rfl) (fun _ _ _ _ h => h) rfl 3 (.tmp 25) rfl w.heap.size 1 rfl _ _ (fun u' hu => (hu.cell (p := ⟨w.heap.size, 1, none⟩) (by simp only; omega)).trans k1) Try.underlying3 rfl (Below.refl _ _) ?_
      (try simp only [Act.put, List.setIfInBounds_toArray, List.set_cons_zero, List.set_cons_succ])
      refine wpAnyH_take (i := 3) (v := .pointer (some ⟨w.heap.size, 0, none⟩)) rfl (by kernel_rfl) (by kernel_rfl) (by kernel_rfl) (fun _ _ _ h => h) (Or.inl ⟨by rfl, fun wz hz => ?_⟩) (Below.refl _ _) ?_
      · go_simp
      (try simp only [Act.put, List.setIfInBounds_toArray, List.set_cons_zero, List.set_cons_succ])
      refine held_load1 4 rfl (by kernel_rfl) (by kernel_rfl) (by kernel_rfl) (fun _ _ _ _ h => h) rfl 84 (.tmp 27) rfl w.heap.size 0 rfl _ _ (fun u' hu => (hu.cell (p := ⟨w.heap.size, 0, none⟩) (by simp only; omega)).trans k0) Try.underlying84 rfl (Below.refl _ _) ?_
      (try simp only [Act.put, List.setIfInBounds_toArray, List.set_cons_zero, List.set_cons_succ])
      refine wpAnyH_ready (rs := [5]) (by kernel_rfl) (by simp) ?_
      refine AllReadyH.cons rfl (fun K hK => ?_) AllReadyH.nil
      go_simp
      refine (rest_any g rest 0 _ HX).mono ?_
      rintro e wa ⟨rfl, rfl⟩
      refine hK.out _ _ (Below.refl _ _) (fun _ => ?_)
      clear hK K
      (try simp only [Act.put, List.setIfInBounds_toArray, List.set_cons_zero, List.set_cons_succ])
      refine wpAnyH_take (i := 6) (v := .int .i64 ((size : Int) - (rest.length : Nat))) rfl (by kernel_rfl) (by kernel_rfl) (by kernel_rfl) (fun _ _ _ h => h) (Or.inl ⟨by rfl, fun wz hz => ?_⟩) (Below.refl _ _) ?_
      · have hsub := HSUB.out
        go_simp
      (try simp only [Act.put, List.setIfInBounds_toArray, List.set_cons_zero, List.set_cons_succ])
      refine wpAnyH_ready (rs := [7]) (by kernel_rfl) (by simp) ?_
      refine AllReadyH.cons rfl (fun K hK => ?_) AllReadyH.nil
      rw [if_pos (by rfl)]
      refine wp_store_blk 68 (.tmp 6) (.tmp 24) rfl (w.heap.size + 2) L.toArray rfl rfl Z b2 (by rw [hsz, hX]) HIX.out hX1 ?_
      intro w6 U6 B6
      refine hK.out _ _ (U6.below (Below.refl _ _) (Nat.le_refl _)) (fun _ => ?_)
      clear hK K
      (try simp only [Act.put, List.setIfInBounds_toArray, List.set_cons_zero, List.set_cons_succ])
      refine wpAnyH_ready (rs := [8]) (by kernel_rfl) (by simp) ?_
      refine AllReadyH.cons rfl (fun K hK => ?_) AllReadyH.nil
      go_simp
      refine hK.out _ _ (U6.below (Below.refl _ _) (Nat.le_refl _)) (fun _ => ?_)
      clear hK K
      (try simp only [Act.put, List.setIfInBounds_toArray, List.set_cons_zero, List.set_cons_succ])
      refine wpAnyH_ready (rs := [9]) (by kernel_rfl) (by simp) ?_
      refine AllReadyH.cons rfl (fun K hK => ?_) AllReadyH.nil
      go_simp
      refine hK.out _ _ (U6.below (Below.refl _ _) (Nat.le_refl _)) (fun _ => ?_)
      clear hK K
      (try simp only [Act.put, List.setIfInBounds_toArray, List.set_cons_zero, List.set_cons_succ])
      refine wpAnyH_done (by kernel_rfl) ?_ _
      go_wp2_with fail
      refine bodyPost_ret (res_cell_tmp2 rfl rfl rfl rfl B6 Try.underlying68 rfl HIX.out) rfl ⟨rfl, ?_⟩
      exact U6.below HBX (by omega)

end Go.Proofs.Ytgcgjnjbhdhhgaa
