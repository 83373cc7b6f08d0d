/- The reader's Checkpoint. -/
import Derived.Test.YtmnojgdfbhdkhaaCdY
set_option linter.unusedVariables false
namespace Go.Proofs.Ytmnojgdfbhdkhaa
open Go.RowKit
variable {lo : Nat}

/-- A checkpoint's cells. -/
def cpV (n : Int) (xs : List Int) : Array Value := (Value.int .u64 n :: xs.map (Value.int .u8)).toArray
theorem cpV_app (n : Int) (xs : List Int) : #[Value.int .u64 n] ++ bytesV xs = cpV n xs := by simp [cpV, bytesV]
theorem cpV_set (n m : Int) (xs : List Int) : (cpV n xs).setIfInBounds 0 (.int .u64 m) = #[.int .u64 m] ++ bytesV xs := by simp [cpV, bytesV]
theorem cpV_zero (n : Int) (xs : List Int) : (cpV n xs)[0]? = some (.int .u64 n) := by simp [cpV]
theorem cpV_size {n : Int} {xs : List Int} (h : IsBytes 32 xs) : (cpV n xs).size = 33 := by simp [cpV, h.1]
theorem cpV_one (n : Int) (xs : List Int) : ∀ v ∈ cpV n xs, v.oneCell' = true := by
  intro v hv
  simp only [cpV, List.mem_toArray, List.mem_cons, List.mem_map] at hv
  rcases hv with rfl | ⟨x, _, rfl⟩ <;> rfl

theorem setCells_low {w : World} {b : Nat} : ∀ (vs : List Value) (o k : Nat), k < o → (w.setCells b o vs).cell? ⟨b, k, none⟩ = w.cell? ⟨b, k, none⟩
  | [], o, k, _ => rfl
  | v :: r, o, k, h => by
    rw [World.setCells, setCells_low r (o + 1) k (by omega)]
    exact World.cell?_setCell_other w ⟨b, o, none⟩ ⟨b, k, none⟩ v (by intro e; cases e; omega)

/-- A part of a block that is known whole is stored: up to its end. -/
theorem wpList_store_end {P : Program} {ops : Array Oper} {rest : List Oper} {op : Oper} {a : Act} {w : World} {Q : Exit → Act → World → Prop} (hgd : op.guard = none) (ty : TypeId) (x y : Operand) (ho : op.op = .store ty x y)
    (b : Nat) (c0 : Array Value) (cs' : Array Value) (hx : a.eval x = .pointer (some ⟨b, c0.size, none⟩)) (hy : a.eval y = .agg cs') (cs : Array Value) (hB : Blk w b (c0 ++ cs))
    (hs : cs.size = cs'.size) (hi : (P.info? ty).map (·.size) = some cs'.size) (h1 : ∀ v ∈ cs', v.oneCell' = true)
    (h : ∀ w', Upd b w w' → Blk w' b (c0 ++ cs') → wpList P ops Q rest (a.put op.dst undef) w') : wpList P ops Q (op :: rest) a w := by
  have hth : w.there b c0.size cs'.size := fun j hj => ⟨by rw [hB.cell]; simp [hs]; omega, hB.free _⟩
  refine wpList_store_mid hgd ty x y ho b c0.size cs' hx hy hth hi (Array.all_eq_true_iff_forall_mem.2 h1) ?_
  obtain ⟨c, h2, h3, h4⟩ := setCells_blk (w := w) (b := b) cs'.toList c0.size (c0 ++ cs) hB
  refine h _ h4 ?_
  have hr := World.rangeAt_setCells_same w b c0.size cs'.toList (by simpa using hth)
  have : c = c0 ++ cs' := by
    apply Array.ext_getElem?
    intro i
    by_cases hi0 : i < c0.size
    · have := setCells_low (w := w) (b := b) cs'.toList c0.size i hi0
      rw [h2.cell, hB.cell] at this
      rw [this, Array.getElem?_append_left hi0, Array.getElem?_append_left hi0]
    · by_cases hi : i < c0.size + cs'.size
      · have := hr (i - c0.size) cs'[i - c0.size] (by simp [show i - c0.size < cs'.size by omega])
        rw [show c0.size + (i - c0.size) = i by omega, h2.cell] at this
        rw [this, Array.getElem?_append_right (by omega)]
        simp [show i - c0.size < cs'.size by omega]
      · rw [Array.getElem?_eq_none (by rw [h3, Array.size_append]; omega), Array.getElem?_eq_none (by rw [Array.size_append]; omega)]
  exact this ▸ h2

theorem ruR_rng {rest : List Int} {e most : Int} (h : ∀ x ∈ rest, 0 ≤ x ∧ x ≤ 255) : ∀ x ∈ ruR rest e most, 0 ≤ x ∧ x ≤ 255 := by
  unfold ruR
  split
  · exact h
  · split
    · exact h
    · split
      · exact h
      · exact fun x hx => h x (List.mem_of_mem_drop hx)

def cpN (rest : List Int) (e : Int) : Int := ruV rest e 18446744073709551615
def cpR1 (rest : List Int) (e : Int) : List Int := ruR rest e 18446744073709551615
def cpE1 (rest : List Int) (e : Int) : Int := ruE rest e 18446744073709551615
/-- Checkpoint: its error, its value, what is left. -/
def cpE (rest : List Int) (e : Int) : Int := tkE (cpR1 rest e) (cpE1 rest e) 32
def cpX (rest : List Int) (e : Int) : Array Value := if cpE rest e = 0 then cpV (cpN rest e) (wV (cpR1 rest e) (cpE1 rest e)) else cpV 0 zeroR
def cpR (rest : List Int) (e : Int) : List Int := if cpE rest e = 0 then tkR (cpR1 rest e) (cpE1 rest e) 32 else rest

set_option maxRecDepth 100000 in
set_option maxHeartbeats 8000000 in
theorem check_any (g : Nat) (rest : List Int) (e : Int) (w : World) (h : Rdr lo w g rest e) :
    Calls Try.prog 101 #[.pointer (some ⟨g, 0, none⟩)] w (Reads lo w g (.agg (cpX rest e)) (cpR rest e) (cpE rest e)) := by
  have hglt := h.lt
  obtain ⟨Z, hZ⟩ : ∃ Z, Z = cpV 0 zeroR := ⟨_, rfl⟩
  have hsz : Z.size = 33 := by rw [hZ]; exact cpV_size zeroR_is
  obtain ⟨hz33, hst⟩ := zero_array (P := Try.prog) (t := 26) (n := 33) Z (by rw [hZ]; kernel_rfl) hsz (by rw [hZ]; kernel_rfl)
  have HZ := Lib.hid hZ; clear hZ
  have hba := ((Below.refl w.heap.size w).alloc (Nat.le_refl _) (.cells Z 26)).alloc (by simp) (.cells Z 26)
  have D1 := Lib.hid (uint_any g rest e 18446744073709551615 _ (h.below hba) (by omega) (by omega))
  have B2 : Hid (Blk ((w.alloc (.cells Z 26)).alloc (.cells Z 26)) w.heap.size Z) := (Blk.new rfl).alloc _
  have B4 : Hid (Blk ((w.alloc (.cells Z 26)).alloc (.cells Z 26)) (w.heap.size + 1) Z) := Blk.new (by simp)
  have HBA := Lib.hid hba; clear hba
  obtain ⟨a, l, c, hB, hY, hF⟩ := h
  have hrng := hY.rng
  obtain ⟨c0, c1, c2⟩ := Rdr.two hB
  have HY := Lib.hid hY; clear hY hB
  have HF := Lib.hid hF; clear hF
  have HW := Lib.hid (fun e1 => wV_is (rest := ruR rest e 18446744073709551615) (e := e1) (ruR_rng hrng))
  unfold cpX cpR cpE cpN cpR1 cpE1
  generalize ruV rest e 18446744073709551615 = n at *
  generalize ruR rest e 18446744073709551615 = r1 at *
  generalize ruE rest e 18446744073709551615 = e1 at *
  have DR := Lib.hid (fun w' (h : Rdr lo w' g r1 e1) => root_any g r1 e1 w' h)
  have HWX := Lib.hid (HW.out e1); clear HW
  generalize wV r1 e1 = xs at *
  generalize tkR r1 e1 32 = r2 at *
  generalize tkE r1 e1 32 = e2 at *
  have hX0 : (bytesV xs).size = 32 := bytesV_size HWX.out.1
  have hX1 := bytesV_one xs
  have hi32 : (Try.prog.info? 24).map (·.size) = some (bytesV xs).size := by rw [hX0]; kernel_rfl
  have hi33 : (Try.prog.info? 26).map (·.size) = some (cpV n xs).size := by rw [cpV_size HWX.out]; kernel_rfl
  have h33 := Lib.hid (cpV_one n xs)
  have hZ0 : (Z.setIfInBounds 0 (.int .u64 n)) = #[.int .u64 n] ++ bytesV zeroR := by rw [HZ.out]; exact cpV_set _ _ _
  have HZ0 := Lib.hid hZ0; clear hZ0
  have hz0 : Hid (Z[0]? = some (.int .u64 0)) := by show _ = _; rw [HZ.out]; exact cpV_zero _ _
  have HCP : Hid (#[.int .u64 n] ++ bytesV xs = cpV n xs) := cpV_app _ _
  obtain ⟨X, HX⟩ : ∃ X, bytesV xs = X := ⟨_, rfl⟩
  rw [HX] at hX0 hX1 hi32 DR HCP
  have HXE := Lib.hid HX; clear HX
  have HX1 := Lib.hid hX1; clear hX1
  obtain ⟨Y, HY33⟩ : ∃ Y, cpV n xs = Y := ⟨_, rfl⟩
  rw [HY33] at HCP hi33 h33 ⊢
  have HYE := Lib.hid HY33; clear HY33
  have HZS : Hid ((bytesV zeroR).size = 32) := bytesV_size zeroR_is.1
  have hzi : (Try.prog.info? 26).map (·.size) = some Z.size := by rw [hsz]; kernel_rfl
  have HZ1 := Lib.hid (show ∀ v ∈ Z, v.oneCell' = true by rw [HZ.out]; exact cpV_one _ _)
  have hYs : Z.size = Y.size := by rw [hsz, ← HYE.out, cpV_size HWX.out]
  by_cases he2 : e2 = 0
  case pos =>
    rw [if_pos he2, if_pos he2]
    subst he2
    go_enter Try.func101, Try.ntmps101
    go_wp2_with (first
    | (go_at_call 76; refine D1.out.mono ?_; rintro en w1 ⟨rfl, hr1, hg1⟩
       have b2 := B2.out.grown hg1 (by simp; omega)
       have b4 := B4.out.grown hg1 (by simp; omega)
       have k0 := (b4.cell 0).trans hz0.out
       have k1 := b4.free
       have hw1 : Below (w.heap.size + 1) w1 (w1.setCell ⟨w.heap.size + 1, 0, none⟩ (.int .u64 n)) := (Below.refl (w.heap.size + 1) w1).setCell (p := ⟨w.heap.size + 1, 0, none⟩) (Nat.le_refl _) _
       have HR1 := Lib.hid (hr1.belowN hw1 (by omega)); clear hr1
       have hb4 := b4.setCell (j := 0) (v := .int .u64 n)
       rw [HZ0.out] at hb4
       have HB4 := Lib.hid hb4; clear hb4
       have HB2 := Lib.hid (b2.setCell_other (b' := w.heap.size + 1) (j := 0) (v := .int .u64 n) (by omega)); clear b2
       have HW1 := Lib.hid hw1; clear hw1 b4
       have HG1 := Lib.hid hg1; clear hg1)
    | (go_at_call 99; refine (DR.out _ HR1.out).mono ?_; rintro en w2 ⟨rfl, hr2, hg2⟩
       have HB42 := Lib.hid (HB4.out.grown hg2 (by simp; omega))
       have HB22 := Lib.hid (HB2.out.grown hg2 (by simp; omega))
       have HR2 := Lib.hid hr2; clear hr2
       have HG2 := Lib.hid hg2; clear hg2)
    | ((with_reducible refine at_store (.tmp 15) ?_); refine wpList_store_end rfl 24 _ _ rfl (w.heap.size + 1) #[.int .u64 n] X rfl rfl _ HB42.out (HZS.out.trans hX0.symm) hi32 HX1.out ?_; intro w5 U5 B5
       rw [HCP.out] at B5
       have hw5 : Below (w.heap.size + 1) w2 w5 := U5.below (Below.refl _ _) (Nat.le_refl _)
       have HB25 := Lib.hid (U5.blk HB22.out (by omega)); clear U5
       have hr5 := HR2.out.belowN hw5 (by omega)
       obtain ⟨a3, l3, c3, j0, j1, j2⟩ := two3 hr5
       have HR5 := Lib.hid hr5; clear hr5
       have HW5 := Lib.hid hw5; clear hw5
       have HB5 := Lib.hid B5; clear B5)
    | ((with_reducible refine at_load (.tmp 4) ?_); refine wpList_load_g 26 _ rfl (w.heap.size + 1) rfl Y _ HB5.out Try.underlying26 rfl hi33 rfl ?_)
    | ((with_reducible refine at_store (.tmp 2) ?_); refine wpList_store_blk rfl 26 _ _ rfl w.heap.size Y rfl rfl Z HB25.out hYs hi33 h33.out ?_; intro w6 U6 B6))
    have hlow : Below w.heap.size (w1.setCell ⟨w.heap.size + 1, 0, none⟩ (.int .u64 n)) (w1.setCell ⟨w.heap.size + 1, 0, none⟩ (.int .u64 n)) := Below.refl _ _
    have b6 : Below w.heap.size w5 w6 := U6.below (Below.refl _ _) (Nat.le_refl _)
    refine bodyPost_ret (res_cellR rfl rfl B6 Try.underlying26 rfl hi33) rfl ⟨rfl, ?_, ?_⟩
    · exact HR5.out.belowN b6 hglt
    · have g1 := grownBy_cut ((grownBy_of_below HBA.out).trans HG1.out) (HW1.out.mono (by omega))
      have g2 := g1.trans HG2.out
      exact grownBy_cut g2 ((HW5.out.mono (by omega)).trans b6)
  case neg =>
    rw [if_neg he2, if_neg he2]
    have hne : (e2 != 0) = true := by simpa using he2
    rw [← HZ.out]
    clear he2
    go_enter Try.func101, Try.ntmps101
    go_wp2_with (first
    | (go_at_call 76; refine D1.out.mono ?_; rintro en w1 ⟨rfl, hr1, hg1⟩
       have b2 := B2.out.grown hg1 (by simp; omega)
       have b4 := B4.out.grown hg1 (by simp; omega)
       have k0 := (b4.cell 0).trans hz0.out
       have k1 := b4.free
       have hw1 : Below (w.heap.size + 1) w1 (w1.setCell ⟨w.heap.size + 1, 0, none⟩ (.int .u64 n)) := (Below.refl (w.heap.size + 1) w1).setCell (p := ⟨w.heap.size + 1, 0, none⟩) (Nat.le_refl _) _
       have HR1 := Lib.hid (hr1.belowN hw1 (by omega)); clear hr1
       have hb4 := b4.setCell (j := 0) (v := .int .u64 n)
       rw [HZ0.out] at hb4
       have HB4 := Lib.hid hb4; clear hb4
       have HB2 := Lib.hid (b2.setCell_other (b' := w.heap.size + 1) (j := 0) (v := .int .u64 n) (by omega)); clear b2
       have HW1 := Lib.hid hw1; clear hw1 b4
       have HG1 := Lib.hid hg1; clear hg1)
    | (go_at_call 99; refine (DR.out _ HR1.out).mono ?_; rintro en w2 ⟨rfl, hr2, hg2⟩
       have HB42 := Lib.hid (HB4.out.grown hg2 (by simp; omega))
       have HB22 := Lib.hid (HB2.out.grown hg2 (by simp; omega))
       have HR2 := Lib.hid hr2; clear hr2
       have HG2 := Lib.hid hg2; clear hg2)
    | ((with_reducible refine at_store (.tmp 15) ?_); refine wpList_store_end rfl 24 _ _ rfl (w.heap.size + 1) #[.int .u64 n] X rfl rfl _ HB42.out (HZS.out.trans hX0.symm) hi32 HX1.out ?_; intro w5 U5 B5
       rw [HCP.out] at B5
       have hw5 : Below (w.heap.size + 1) w2 w5 := U5.below (Below.refl _ _) (Nat.le_refl _)
       have HB25 := Lib.hid (U5.blk HB22.out (by omega)); clear U5
       have hr5 := HR2.out.belowN hw5 (by omega)
       obtain ⟨a3, l3, c3, j0, j1, j2⟩ := two3 hr5
       have HR5 := Lib.hid hr5; clear hr5
       have HW5 := Lib.hid hw5; clear hw5
       have HB5 := Lib.hid B5; clear B5)
    | ((with_reducible refine at_store (.tmp 2) ?_); refine wpList_store_blk rfl 26 _ _ rfl w.heap.size Z rfl rfl Z (HB25.out.setCell_other (by omega)) rfl hzi HZ1.out ?_; intro w6 U6 B6))
    have b6 : Below w.heap.size (w5.setCell ⟨g, 0, none⟩ (.slice a l c)) w6 := U6.below (Below.refl _ _) (Nat.le_refl _)
    have g1 := grownBy_cut ((grownBy_of_below HBA.out).trans HG1.out) (HW1.out.mono (by omega))
    have g2 := g1.trans HG2.out
    have g3 := grownBy_cut g2 (HW5.out.mono (by omega))
    refine bodyPost_ret (res_cellR rfl rfl B6 Try.underlying26 rfl hzi) rfl ⟨rfl, ?_, ?_⟩
    · exact (HR5.out.setRest (HY.out.grownBy g3 (fun x hx h0 => (HF.out x hx h0).ne)) HF.out).belowN b6 hglt
    · exact grownBy_cut (g3.trans grownBy_set) b6

end Go.Proofs.Ytmnojgdfbhdkhaa
