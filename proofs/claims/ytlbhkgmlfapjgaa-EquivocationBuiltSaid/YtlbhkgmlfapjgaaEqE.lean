/- The code's Culprits. -/
import Derived.Test.YtlbhkgmlfapjgaaEqD
import Derived.Test.YtlbhkgmlfapjgaaCl
import Derived.Shelf.SlicesE.DeleteFunc
set_option linter.unusedVariables false

set_option linter.unusedSimpArgs false
namespace Go.Proofs.Ytlbhkgmlfapjgaa
open Go.RowKit Go.Sort

set_option maxRecDepth 100000

/-- What the closure returns where its variable holds a sorted list. -/
theorem clo_any (b : Nat) (v : Value) (m : List Int) (x : Int) (W : World) (hc : W.cell? ⟨b, 0, none⟩ = some v) (hI : Ints .i64 W v m) (hs : m.Pairwise (· ≤ ·)) (hl : m.length ≤ 100000) :
    FnGives Try.prog 30 #[.pointer (some ⟨b, 0, none⟩)] #[.int .i64 x] (.bool (decide (x ∉ m))) W := by
  show Calls Try.prog 30 #[.int .i64 x, .pointer (some ⟨b, 0, none⟩)] W _
  have HB : Hid (Calls Try.prog 31 #[v, .int .i64 x] W fun e w' => ∃ k : Int, e = .returned (.tuple #[.int .i64 k, .bool (decide (x ∈ m))]) ∧ ∃ q, w' = W.drewN q) := by
    obtain ⟨a, n, c, rfl, hln, hmx, hr⟩ := hI
    by_cases hn : n = 0
    · subst hn
      obtain rfl : m = [] := List.eq_nil_of_length_eq_zero hln
      refine (Try.slices_BinarySearch_int_empty a c x W).mono ?_
      rintro e w' ⟨rfl, rfl⟩
      exact ⟨0, rfl, 0, rfl⟩
    rcases hr with h0 | ⟨g, off, rfl, hg, hcc⟩
    · exact absurd h0 hn
    refine (Try.slices_BinarySearch_int g off n c m x W (by omega) (by omega) (fun j hj => hcc j (by omega)) (by rw [← hln, List.take_length]; exact hs)).mono ?_
    rintro e w' ⟨rfl, hq⟩
    rw [← hln, List.take_length, show m.contains x = decide (x ∈ m) from by rw [Bool.eq_iff_iff]; simp]
    exact ⟨_, rfl, hq⟩
  obtain ⟨a, n, c, rfl, _⟩ := hI
  have e : decide (x ∉ m) = !decide (x ∈ m) := by by_cases h : x ∈ m <;> simp [h]
  rw [e]
  obtain ⟨q, hq⟩ : ∃ q, decide (x ∈ m) = q := ⟨_, rfl⟩
  rw [hq] at HB ⊢
  clear hs hl e hq
  have hblt : b < W.heap.size := by
    rcases Nat.lt_or_ge b W.heap.size with h | h
    · exact h
    · rw [World.cell?] at hc; simp [Array.getElem?_eq_none h] at hc
  go_enter Try.func30, Try.ntmps30
  go_wp2_with (go_at_call 31; refine HB.out.mono ?_; rintro e w1 ⟨k, rfl, j, rfl⟩)
  go_ret
  exact ⟨rfl, j, rfl⟩

theorem sw_cell {w : World} {b blk off n : Nat} {dk : Array Int} {os : Array Obj} (o : Nat) (hb : b < w.heap.size) (hne : b ≠ blk) : (sortWorld (Value.int .i64) w blk off n dk os).cell? ⟨b, o, none⟩ = w.cell? ⟨b, o, none⟩ := by
  unfold sortWorld
  rw [cell?_grow _ _ _ (by show b < (putRow _ _ _ _ _).heap.size; rw [size_putRow]; exact hb), cell?_putRow_other _ _ blk off _ _ (Or.inl hne)]
  rfl

theorem sw_ints {w : World} {v : Value} {m : List Int} {blk off n : Nat} {dk : Array Int} {os : Array Obj} (h : Ints .i64 w v m) (ho : Off blk v) : Ints .i64 (sortWorld (Value.int .i64) w blk off n dk os) v m := by
  obtain ⟨a, l, c, rfl, hl, hm, hr⟩ := h
  refine ⟨a, l, c, rfl, hl, hm, ?_⟩
  by_cases h0 : l = 0
  · exact .inl h0
  rcases hr with h0' | ⟨b, o, rfl, hb, hc⟩
  · exact .inl h0'
  · have hne : b ≠ blk := ho _ _ _ rfl (by omega)
    refine .inr ⟨b, o, rfl, ?_, fun i hi => (sw_cell _ hb hne).trans (hc i hi)⟩
    unfold sortWorld
    show b < (_ ++ _ : Array Obj).size
    rw [Array.size_append]
    have : (putRow (Value.int .i64) (Sort.ahead w n) blk off dk).heap.size = w.heap.size := size_putRow ..
    omega

set_option maxHeartbeats 2000000 in
/-- slices.DeleteFunc with that closure. -/
theorem del_own {B : Nat} (b : Nat) (v2 : Value) (m : List Int) (v : Value) (l : List Int) (w : World) (hc : w.cell? ⟨b, 0, none⟩ = some v2) (hb : b < w.heap.size) (hI : Ints .i64 w v2 m) (hs : m.Pairwise (· ≤ ·)) (hm : m.length ≤ 100000)
    (h : OwnK .i64 3 w B v l) (hl : l.length ≤ 100000) (hne : ∀ g, v.ownBlock = some g → b ≠ g ∧ Off g v2) :
    Calls Try.prog 29 #[v, .func (.func 30) #[] #[.pointer (some ⟨b, 0, none⟩)]] w fun e w' => ∃ v', e = .returned v' ∧ OwnK .i64 3 w' B v' (l.filter (fun x => !decide (x ∉ m))) ∧ ∀ w0 : World, Below B w0 w → Below B w0 w' := by
  rcases h.2 with ⟨rfl, h0⟩ | ⟨g, cap, cur, rfl, hbg, hg, h1, h2, h3, h4⟩
  · obtain rfl : l = [] := List.eq_nil_of_length_eq_zero h0
    have HF := Lib.hid (Try.slices_IndexFunc_empty (α := Int) none 0 (.func (.func 30) #[] #[.pointer (some ⟨b, 0, none⟩)]) w)
    have HH := Lib.hid h
    clear h hI hs hm hne hc
    go_enter Try.func29, Try.ntmps29
    go_wp2_with (go_at_call 37; refine HF.out.mono ?_; rintro e w1 ⟨rfl, rfl⟩)
    go_ret
    exact ⟨_, rfl, HH.out, fun w0 hb => hb⟩
  · have ht : cur.toList.take l.length = l.map (Value.int .i64) := by rw [Nat.mul_one] at h4; exact h4
    obtain ⟨hbne, hoff⟩ := hne g rfl
    have eg : ∀ args w, (callFunc 30 args).run Try.prog w = .ok (.enter 30 args) w := enters_of Try.func30 (by kernel_rfl) rfl
    have hp : PredAt Try.prog 30 #[.pointer (some ⟨b, 0, none⟩)] (Value.int .i64) (fun x => decide (x ∉ m)) w :=
      fun W x hbl => clo_any b v2 m x W ((hbl.cell (p := ⟨b, 0, none⟩) hb).trans hc) (hI.below hbl) hs hm
    have hpo : PredOver Try.prog 30 #[.pointer (some ⟨b, 0, none⟩)] (Value.int .i64) (fun x => decide (x ∉ m)) g 0 l.toArray.size w :=
      fun n os dk x _ => clo_any b v2 m x _ ((sw_cell 0 hb hbne).trans hc) (sw_ints hI hoff) hs hm
    refine (Try.slices_DeleteFunc (Value.int .i64) (fun _ => rfl) (fun x => decide (x ∉ m)) 30 #[.pointer (some ⟨b, 0, none⟩)] eg 0 (fun w => by kernel_rfl) g 0 cap l.toArray w hp hpo (holds_of_blockI hg ht) (by simp; omega) (by simpa using h1)).mono ?_
    rintro e w' ⟨rfl, q, rfl⟩
    have hle := List.length_filter_le (fun x => !decide (x ∉ m)) l
    have hcut := Lib.ownsRow_putRow (q := q) (k := (l.filter fun x => !decide (x ∉ m)).length) (ys := (l.filter fun x => !decide (x ∉ m)) ++ List.replicate (l.length - (l.filter fun x => !decide (x ∉ m)).length) 0) h (by simp only [List.length_append, List.length_replicate]; omega) hle
    rw [List.take_left] at hcut
    exact ⟨_, rfl, hcut, fun w0 hbl => Lib.below_putRow hbl hbg⟩

theorem own_low {k : IntKind} {e : TypeId} {w : World} {B B' : Nat} {v : Value} {l : List Int} (h : OwnK k e w B v l) (hB : B' ≤ B) : OwnK k e w B' v l := by
  refine ⟨h.1, ?_⟩
  rcases h.2 with h' | ⟨g, cap, cur, h1, h2, h3⟩
  · exact .inl h'
  · exact .inr ⟨g, cap, cur, h1, Nat.le_trans hB h2, h3⟩

set_option maxHeartbeats 4000000 in
theorem cul_code (x y : ClD) (l m : List Int) (w : World) (hx : x.ok) (hy : y.ok) (h1 : IntsV w x.v l) (h2 : IntsV w y.v m) (hl : l.length ≤ 100000) (hm : m.length ≤ 100000) :
    Calls Try.prog 14 #[.agg (flatP [x.cells, y.cells])] w fun e w' => ∃ v', e = .returned v' ∧ OwnK .i64 3 w' w.heap.size v' (culI l m) ∧ Below w.heap.size w w' := by
  obtain ⟨X, hX⟩ : ∃ X, flatP [x.cells, y.cells] = X := ⟨_, rfl⟩
  have HP : Hid (∀ u, Blk u w.heap.size X → u.cell? ⟨w.heap.size, 34, none⟩ = some x.v ∧ u.cell? ⟨w.heap.size, 69, none⟩ = some y.v) := fun u hu => by
    rw [← hX] at hu
    obtain ⟨h1, h2⟩ := sl_at hu hx
    have e1 := (cl_at h1 hx).2.2.2
    have e2 := (cl_at h2 hy).2.2.2
    rw [Nat.zero_add] at e1
    exact ⟨e1, e2⟩
  rw [hX, ← culI_asc]
  have HBA := Lib.hid ((Below.refl w.heap.size w).alloc (Nat.le_refl _) (.cells X 31))
  have HBX : Hid (Blk (w.alloc (.cells X 31)) w.heap.size X) := Blk.new rfl
  have H1 := Lib.hid h1
  have H2 := Lib.hid h2
  have HL := Lib.hid hl
  have HM := Lib.hid hm
  have HLA := Lib.hid (ascL_len l)
  have HMA := Lib.hid (ascL_len m)
  have HMS : Hid ((ascL m).Pairwise (· ≤ ·)) := (ascL_sorted m).imp (fun h => Int.le_of_lt h)
  obtain ⟨xv, hxv⟩ : ∃ z, x.v = z := ⟨_, rfl⟩
  obtain ⟨yv, hyv⟩ : ∃ z, y.v = z := ⟨_, rfl⟩
  rw [hxv] at H1 HP
  rw [hyv] at H2 HP
  clear h1 h2 hl hm hX hxv hyv hx hy
  obtain ⟨a1, n1, c1, rfl⟩ := ints_shape' H1.out.1
  obtain ⟨a2, n2, c2, rfl⟩ := ints_shape' H2.out.1
  go_enter Try.func14, Try.ntmps14
  go_wp2_with (first
    | ((with_reducible refine at_load (.tmp 5) ?_); refine wpList_load_1 25 (.tmp 5) rfl w.heap.size 69 (.slice a2 n2 c2) (HP.out _ HBX.out).2 rfl _ Try.underlying25 rfl rfl ?_)
    | (go_at_call 28; have _t := HBA; refine (asc_any _ m _ ⟨H2.out.1.below HBA.out, H2.out.2⟩ HM.out).mono ?_; clear _t; rintro e w1 ⟨v1, rfl, ho1, hb1⟩; obtain ⟨va, vc, rfl⟩ := ho1.shapeL; have HO1 := Lib.hid ho1; have HB1 := Lib.hid (HBA.out.trans (hb1.mono HBA.out.size)); have HX1 := Lib.hid (HBX.out.call hb1); have hlt1 := HX1.out.lt; clear ho1 hb1 HBA HBX)
    | ((with_reducible refine at_load (.tmp 9) ?_); refine wpList_load_1 25 (.tmp 9) rfl w.heap.size 34 (.slice a1 n1 c1) (HP.out _ (HX1.out.alloc _)).1 rfl _ Try.underlying25 rfl rfl ?_)
    | (go_at_call 28; have hba := HB1.out.alloc HB1.out.size (.cells #[.slice va (ascL m).length vc] 25); refine (asc_any _ l _ ⟨H1.out.1.below hba, H1.out.2⟩ HL.out).mono ?_; rintro e w2 ⟨v2, rfl, ho2, hb2⟩; obtain ⟨wa, wc, rfl⟩ := ho2.shapeL; have HO2 := Lib.hid (own_low ho2 hba.size); have HON := Lib.hid (fun n e => (ho2.lt n e).1); have HB2 := Lib.hid (hba.trans (hb2.mono hba.size)); have HV2 : Hid (Blk w2 w1.heap.size #[.slice va (ascL m).length vc]) := Lib.hid ((Blk.new rfl).call hb2); have HI2 := Lib.hid (((HO1.out.ints (by have := HMA.out; have := HM.out; unfold maxLen; omega)).below ((Below.refl w1.heap.size w1).alloc (Nat.le_refl _) (.cells #[.slice va (ascL m).length vc] 25))).below hb2); clear hba ho2 hb2)
    | (go_at_call 29; refine (del_own (B := w.heap.size) w1.heap.size (.slice va (ascL m).length vc) (ascL m) (.slice wa (ascL l).length wc) (ascL l) w2 (HV2.out.cell 0) HV2.out.lt HI2.out HMS.out (by have := HMA.out; have := HM.out; omega) HO2.out (by have := HLA.out; have := HL.out; omega) (fun g e => by have h1 := HON.out g e; simp at h1; exact ⟨by omega, fun z l' c' e' _ => by have h2 := (HO1.out.lo z l' c' e').2; omega⟩)).mono ?_; rintro e w3 ⟨v3, rfl, ho3, hb3⟩; have HO3 := Lib.hid ho3; have HB3 := Lib.hid (hb3 w HB2.out); clear ho3 hb3)
    | fail)
  go_ret
  exact ⟨v3, rfl, HO3.out, HB3.out⟩
end Go.Proofs.Ytlbhkgmlfapjgaa
