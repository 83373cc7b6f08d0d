/- Several texts as one: OpenS, ScC, ScB, El2, ScA, L6o, OpenP. -/
import Derived.Test.YtmnojgdfbhdkhaaOpen
import Derived.Test.YtmnojgdfbhdkhaaY1
import Derived.ChangeSlices
import Derived.ChangeArms
import Derived.Test.YtmnojgdfbhdkhaaY7
import Derived.Test.YtmnojgdfbhdkhaaY8
import Derived.Test.YtmnojgdfbhdkhaaY3
import Derived.Test.YtmnojgdfbhdkhaaY2
import Derived.Test.YtmnojgdfbhdkhaaY9
import Derived.Test.YtmnojgdfbhdkhaaY5
import Derived.Test.YtmnojgdfbhdkhaaCdK
namespace Go.Proofs.Ytmnojgdfbhdkhaa

/-! OpenS -/
section
set_option linter.unusedVariables false
set_option maxRecDepth 100000
open Go.RowKit Go.ChangeShapes Go.WideShapes

section
variable {H : Type} {enc : TypeId × Value → H} {w : World} {base : Nat} {sp : Nat → Bool} {held : Bool}

theorem trod_field {P : Program} {t ty : TypeId} {fs : Array Field} {fuel : Nat} {cs : List Value} {x : DataW H × List MemPlace} (ht : P.underlying t = some (.struct fs)) (h : DataW.trod enc P w base sp held fuel t cs = some x) (i : Nat) (f : Field) (o n : Nat) (hf : fs[i]? = some f)
    (h1 : f.type = ty) (h2 : f.offset = o) (h3 : P.cellsOf ty = n) : ∃ m y, DataW.trod enc P w base sp held m ty ((cs.drop o).take n) = some y := by
  obtain ⟨xs, m, _, _, _, hlen, hall⟩ := DataW.trod_struct ht h
  have := hall i f hf
  have hi : i < xs.length := by rw [hlen]; exact (Array.getElem?_eq_some_iff.1 hf).1
  rw [h1, h2, h3, List.getElem?_eq_getElem hi] at this
  exact ⟨m, _, this⟩

theorem trod_len {P : Program} {t : TypeId} {fs : Array Field} {fuel : Nat} {cs : List Value} {x : DataW H × List MemPlace} (ht : P.underlying t = some (.struct fs)) (h : DataW.trod enc P w base sp held fuel t cs = some x) {n : Nat} (hn : P.cellsOf t = n) : cs.length = n := by
  obtain ⟨xs, m, _, _, hl, _⟩ := DataW.trod_struct ht h
  rw [hl, hn]

theorem cut_at {α : Type} (cs : List α) (o n m : Nat) (h : o + n = m) : cs.drop o = (cs.drop o).take n ++ cs.drop m := by
  rw [← h, ← List.drop_drop, List.take_append_drop]

theorem trod_bytes32 {t : TypeId} {fuel : Nat} {cs : List Value} {x : DataW H × List MemPlace} (ht : Try.prog.underlying t = some (.array 32 5)) (hct : Try.prog.cellsOf t = 32) (h : DataW.trod enc Try.prog w base sp held fuel t cs = some x) : ∃ xs, IsBytes 32 xs ∧ cs = bytesL xs := by
  obtain ⟨xs, h1, h2, h3⟩ := ints_of_trod ht Try.underlying5 (by kernel_rfl) hct h
  exact ⟨xs, ⟨h2, h3⟩, h1⟩

theorem trod_wide {fuel : Nat} {cs : List Value} {x : DataW H × List MemPlace} (h : DataW.trod enc Try.prog w base sp held fuel 30 cs = some x) : ∃ n, W256 n ∧ cs = wideL n := by
  obtain ⟨xs, h1, h2, h3⟩ := ints_of_trod Try.underlying30 Try.underlying22 (by kernel_rfl) (by kernel_rfl) h
  match xs, h2 with
  | [x0, x1, x2, x3], _ =>
    have r0 := wf_u64 (h3 x0 (by simp))
    have r1 := wf_u64 (h3 x1 (by simp))
    have r2 := wf_u64 (h3 x2 (by simp))
    have r3 := wf_u64 (h3 x3 (by simp))
    refine ⟨x0 + x1 * 18446744073709551616 + x2 * 340282366920938463463374607431768211456 + x3 * 6277101735386680763835789423207666416102355444464034512896, ?_, ?_⟩
    · unfold W256; omega
    · rw [h1]
      simp only [wideL, l0, l1, l2, l3, List.map_cons, List.map_nil, List.cons.injEq, Value.int.injEq, true_and, and_true]
      refine ⟨?_, ?_, ?_, ?_⟩ <;> omega

theorem trod_u64 {fuel : Nat} {cs : List Value} {x : DataW H × List MemPlace} (h : DataW.trod enc Try.prog w base sp held fuel 22 cs = some x) : ∃ n : Int, (0 ≤ n ∧ n ≤ 18446744073709551615) ∧ cs = [.int .u64 n] := by
  obtain ⟨n, h1, _, h2⟩ := DataW.trod_int Try.underlying22 h
  exact ⟨n, wf_u64 h2, h1⟩

theorem trod_cp {fuel : Nat} {cs : List Value} {x : DataW H × List MemPlace} (h : DataW.trod enc Try.prog w base sp held fuel 26 cs = some x) : ∃ c : CpD, c.ok ∧ cs = c.cells := by
  have hl : cs.length = 33 := trod_len Try.underlying26 h (by kernel_rfl)
  obtain ⟨_, _, h0⟩ := trod_field Try.underlying26 h 0 _ 0 1 rfl rfl rfl (by kernel_rfl)
  obtain ⟨_, _, h1⟩ := trod_field Try.underlying26 h 1 _ 1 32 rfl rfl rfl (by kernel_rfl)
  obtain ⟨n, hn, e0⟩ := trod_u64 h0
  obtain ⟨r, hr, e1⟩ := trod_bytes32 Try.underlying24 (by kernel_rfl) h1
  refine ⟨⟨n, r⟩, ⟨hn.1, hn.2, hr⟩, ?_⟩
  have e : cs = cs.drop 0 := rfl
  rw [e, cut_at cs 0 1 1 rfl, cut_at cs 1 32 33 rfl, List.drop_eq_nil_of_le (i := 33) (by omega), e0, e1]
  simp [CpD.cells]

theorem open_struct {t : TypeId} {r : Reach} {base' : Nat} {fs : Array Field} {v : Value} {d : DataW H} {p : List MemPlace} (ht : Try.prog.underlying t = some (.struct fs)) (hv : Value.okWide Try.prog w r base' t v) (h : DataW.Trod enc Try.prog w base sp held t v d p) :
    ∃ cs fuel, v = .agg cs ∧ DataW.trod enc Try.prog w base sp held fuel t cs.toList = some (d, p) := by
  obtain ⟨cs, rfl, _⟩ := okWide_struct ht hv
  obtain ⟨fuel, hf⟩ := h
  exact ⟨cs, fuel, rfl, hf⟩

theorem trod_ints {t e : TypeId} {k : IntKind} {fuel : Nat} {cs : List Value} {x : DataW H × List MemPlace} (ht : Try.prog.underlying t = some (.slice e)) (he : Try.prog.underlying e = some (.int k)) (hc : Try.prog.cellsOf e = 1)
    (h : DataW.trod enc Try.prog w base sp held fuel t cs = some x) : ∃ v l, Ints k w v l ∧ cs = [v] ∧ ∀ n ∈ l, (Lit.int k n).wf = true := by
  rcases open_ints ht he hc h with ⟨hcs, _⟩ | ⟨x, l, c, zs, hcs, _, hl, hm, hz, _, hcell, hwz⟩
  · exact ⟨_, [], ⟨none, 0, 0, rfl, rfl, Nat.zero_le _, .inl rfl⟩, hcs, by simp⟩
  · have hll : l ≤ zs.length := by rw [hz]; split <;> omega
    refine ⟨_, zs.take l, ⟨_, _, _, rfl, by simp; omega, by omega, ?_⟩, hcs, fun n hn => hwz n (List.mem_of_mem_take hn)⟩
    by_cases h0 : l = 0
    · exact .inl h0
    · obtain ⟨b, off, rfl, hc'⟩ := Go.ints_at hcell (by omega)
      refine .inr ⟨b, off, rfl, cell_lt (hc' 0 (by omega)), fun i hi => ?_⟩
      rw [hc' i (by omega)]
      simp [List.getD, hi]

theorem trod_claim {fuel : Nat} {cs : List Value} {x : DataW H × List MemPlace} (hf : DataW.trod enc Try.prog w base sp held fuel 37 cs = some x) : ∃ (x : ClD) (l : List Int), x.ok ∧ IntsV w x.v l ∧ cs = x.cells := by
  have hl : cs.length = 35 := trod_len Try.underlying37 hf (by kernel_rfl)
  obtain ⟨_, _, h0⟩ := trod_field Try.underlying37 hf 0 _ 0 1 rfl rfl rfl (by kernel_rfl)
  obtain ⟨_, _, h1⟩ := trod_field Try.underlying37 hf 1 _ 1 1 rfl rfl rfl (by kernel_rfl)
  obtain ⟨_, _, h2⟩ := trod_field Try.underlying37 hf 2 _ 2 32 rfl rfl rfl (by kernel_rfl)
  obtain ⟨_, _, h3⟩ := trod_field Try.underlying37 hf 3 _ 34 1 rfl rfl rfl (by kernel_rfl)
  obtain ⟨s1, k1, e1⟩ := trod_u64 h0
  obtain ⟨s2, k2, e2⟩ := trod_u64 h1
  obtain ⟨r1, kr1, er1⟩ := trod_bytes32 Try.underlying24 (by kernel_rfl) h2
  obtain ⟨v, l, hi, ev, hw⟩ := trod_ints Try.underlying33 Try.underlying3 (by kernel_rfl) h3
  refine ⟨⟨s1, s2, r1, v⟩, l, ⟨k1, k2, kr1⟩, ⟨hi, fun x hx => wf_i64 (hw x hx)⟩, ?_⟩
  have e : cs = cs.drop 0 := rfl
  rw [e, cut_at cs 0 1 1 rfl, cut_at cs 1 1 2 rfl, cut_at cs 2 32 34 rfl, cut_at cs 34 1 35 rfl, List.drop_eq_nil_of_le (i := 35) (by omega), e1, e2, er1, ev]
  simp [ClD.cells, ClD.parts]

end
end

/-! ScC -/
section
set_option linter.unusedVariables false
set_option linter.unusedSimpArgs false
open Go.RowKit


set_option maxRecDepth 100000 in
set_option maxHeartbeats 8000000 in
theorem rn_2 (P : Value → Prop) (X : Array Value) (d : OpD) (w : World) (hX : OpIn P w X d) (hsm : SmallD d) (hk : d.k = 2) : Calls Try.prog 18 #[.agg X] w (EncF w (fldE d) (fldB d)) := by
  obtain ⟨v1, v2, v3, v4, eX, ok, ⟨i1, _⟩, ⟨i2, _⟩, ⟨i3, _⟩, ⟨i4, _⟩⟩ := hX
  have OO := Lib.hid (op_offs ok v1 v2 v3 v4)
  obtain ⟨PK, hPK⟩ : ∃ PK, Hid (d.parts v1 v2 v3 v4 = PK) := ⟨_, rfl⟩
  rw [hPK.out] at OO
  have HB0 := Lib.hid ((Below.refl w.heap.size w).alloc (Nat.le_refl _) (.cells X 48))
  have G1 : Hid (Blk (w.alloc (.cells X 48)) w.heap.size (flatP PK)) := (Blk.new rfl).to (by rw [eX, hPK.out])
  obtain ⟨ok1, ok2, ok3, ok4, ok5, ok6, ok7, ok8, ok9⟩ := ok
  obtain ⟨sm1, sm2, sm3, sm4⟩ := hsm
  have hk0 : PK[0]? = some [.int .i64 d.k] := by rw [← hPK.out]; rfl
  have hE : fldE d = 0 := by unfold fldE; simp [hk]
  have hBy : fldB d = d.b.enc := by unfold fldB; simp [hk]
  have D : Hid (∀ u, Below w.heap.size w u → Calls Try.prog 27 #[.slice none 0 0, .agg (d.b.parts.flatten).toArray] u (AppF u (fldB d))) := fun u hu => by
    rw [hBy]; exact rblk_new d.b u ok2
  have hl : (d.b.parts.flatten).length = 238 := BkD.len238 ok2
  have hpk : Hid (PK[1]? = some (d.b.parts.flatten)) := by show _ = _; rw [← hPK.out]; rfl
  rw [hk] at hk0
  rw [hE]
  clear hE hBy hk eX i1 i2 i3 i4 ok1 ok2 ok3 ok4 ok5 ok6 ok7 ok8 ok9 sm1 sm2 sm3 sm4
  generalize d.b.parts.flatten = L at *
  have HIL : Hid ((Try.prog.info? 32).map (·.size) = some L.length) := by show _ = _; rw [hl]; kernel_rfl
  obtain ⟨ys, hy⟩ : ∃ ys, fldB d = ys := ⟨_, rfl⟩
  rw [hy] at D
  rw [hy]
  clear hl hy
  go_enter Try.func18, Try.ntmps18
  go_wp2_with (first
    | ((with_reducible refine at_load (.tmp 4) ?_); refine wpList_load_1 3 (.tmp 4) rfl w.heap.size 0 (.int .i64 2) (G1.out.cellAt (k := 0) hk0 rfl) rfl _ Try.underlying3 rfl rfl ?_)
    | ((with_reducible refine at_load (.tmp 8) ?_); refine wpList_load_part 32 (.tmp 8) rfl w.heap.size _ 1 1 L G1.out hpk.out (by rw [OO.out]; rfl) rfl _ Try.underlying32 rfl HIL.out rfl ?_)
    | (go_at_call 27; refine (D.out _ HB0.out).mono ?_; rintro en w1 ⟨v', rfl, hy1, hb1⟩; have HY1 := Lib.hid hy1; have HB1 := Lib.hid (HB0.out.trans (hb1.mono HB0.out.size)); clear hy1 hb1))
  go_ret2
  exact ⟨v', rfl, ⟨by rw [if_pos rfl]; exact HY1.out.1, HY1.out.2.mono HB0.out.size⟩, HB1.out⟩

set_option maxRecDepth 100000 in
set_option maxHeartbeats 8000000 in
theorem rn_3 (P : Value → Prop) (X : Array Value) (d : OpD) (w : World) (hX : OpIn P w X d) (hsm : SmallD d) (hk : d.k = 3) : Calls Try.prog 18 #[.agg X] w (EncF w (fldE d) (fldB d)) := by
  obtain ⟨v1, v2, v3, v4, eX, ok, ⟨i1, _⟩, ⟨i2, _⟩, ⟨i3, _⟩, ⟨i4, _⟩⟩ := hX
  have OO := Lib.hid (op_offs ok v1 v2 v3 v4)
  obtain ⟨PK, hPK⟩ : ∃ PK, Hid (d.parts v1 v2 v3 v4 = PK) := ⟨_, rfl⟩
  rw [hPK.out] at OO
  have HB0 := Lib.hid ((Below.refl w.heap.size w).alloc (Nat.le_refl _) (.cells X 48))
  have G1 : Hid (Blk (w.alloc (.cells X 48)) w.heap.size (flatP PK)) := (Blk.new rfl).to (by rw [eX, hPK.out])
  obtain ⟨ok1, ok2, ok3, ok4, ok5, ok6, ok7, ok8, ok9⟩ := ok
  obtain ⟨sm1, sm2, sm3, sm4⟩ := hsm
  have hk0 : PK[0]? = some [.int .i64 d.k] := by rw [← hPK.out]; rfl
  have hE : fldE d = vlE d.a.l 1024 := by unfold fldE; simp [hk]
  have hBy : fldB d = uenc d.a.slot.toNat ++ (d.a.root ++ (d.a.cp.enc ++ lenc d.a.l)) := by unfold fldB; simp [hk]
  have D : Hid (∀ u, Below w.heap.size w u → Calls Try.prog 28 #[.agg ((d.a.d v1).parts.flatten).toArray] u (EncF u (fldE d) (fldB d))) := fun u hu => by
    rw [hBy, hE]; exact reatt_new _ _ _ _ _ u ok3.1 ok3.2.1 ok3.2.2 (i1.below hu) (by omega)
  have hl : ((d.a.d v1).parts.flatten).length = 67 := AtP.len ok3
  have hpk : Hid (PK[2]? = some ((d.a.d v1).parts.flatten)) := by show _ = _; rw [← hPK.out]; rfl
  rw [hk] at hk0
  clear hE hBy hk eX i1 i2 i3 i4 ok1 ok2 ok3 ok4 ok5 ok6 ok7 ok8 ok9 sm1 sm2 sm3 sm4
  generalize (d.a.d v1).parts.flatten = L at *
  have HIL : Hid ((Try.prog.info? 35).map (·.size) = some L.length) := by show _ = _; rw [hl]; kernel_rfl
  obtain ⟨E, hE⟩ : ∃ E, fldE d = E := ⟨_, rfl⟩
  obtain ⟨ys, hy⟩ : ∃ ys, fldB d = ys := ⟨_, rfl⟩
  rw [hE, hy] at D
  rw [hE, hy]
  clear hl hE hy
  go_enter Try.func18, Try.ntmps18
  go_wp2_with (first
    | ((with_reducible refine at_load (.tmp 4) ?_); refine wpList_load_1 3 (.tmp 4) rfl w.heap.size 0 (.int .i64 3) (G1.out.cellAt (k := 0) hk0 rfl) rfl _ Try.underlying3 rfl rfl ?_)
    | ((with_reducible refine at_load (.tmp 13) ?_); refine wpList_load_part 35 (.tmp 13) rfl w.heap.size _ 2 239 L G1.out hpk.out (by rw [OO.out]; rfl) rfl _ Try.underlying35 rfl HIL.out rfl ?_)
    | (go_at_call 28; refine (D.out _ HB0.out).mono ?_; rintro en w1 ⟨v', rfl, hy1, hb1⟩; have HY1 := Lib.hid hy1; have HB1 := Lib.hid (HB0.out.trans (hb1.mono HB0.out.size)); clear hy1 hb1))
  go_ret2
  exact ⟨v', rfl, ⟨HY1.out.1, HY1.out.2.mono HB0.out.size⟩, HB1.out⟩

set_option maxRecDepth 100000 in
set_option maxHeartbeats 8000000 in
theorem rn_4 (P : Value → Prop) (X : Array Value) (d : OpD) (w : World) (hX : OpIn P w X d) (hsm : SmallD d) (hk : d.k = 4) : Calls Try.prog 18 #[.agg X] w (EncF w (fldE d) (fldB d)) := by
  obtain ⟨v1, v2, v3, v4, eX, ok, ⟨i1, _⟩, ⟨i2, _⟩, ⟨i3, _⟩, ⟨i4, _⟩⟩ := hX
  have OO := Lib.hid (op_offs ok v1 v2 v3 v4)
  obtain ⟨PK, hPK⟩ : ∃ PK, Hid (d.parts v1 v2 v3 v4 = PK) := ⟨_, rfl⟩
  rw [hPK.out] at OO
  have HB0 := Lib.hid ((Below.refl w.heap.size w).alloc (Nat.le_refl _) (.cells X 48))
  have G1 : Hid (Blk (w.alloc (.cells X 48)) w.heap.size (flatP PK)) := (Blk.new rfl).to (by rw [eX, hPK.out])
  obtain ⟨ok1, ok2, ok3, ok4, ok5, ok6, ok7, ok8, ok9⟩ := ok
  obtain ⟨sm1, sm2, sm3, sm4⟩ := hsm
  have hk0 : PK[0]? = some [.int .i64 d.k] := by rw [← hPK.out]; rfl
  have hE : fldE d = vlsE [d.c1.l, d.c2.l] := by unfold fldE; simp [hk]
  have hBy : fldB d = (d.c1.d v2).enc d.c1.l ++ (d.c2.d v3).enc d.c2.l := by unfold fldB; simp [hk]; rfl
  have D : Hid (∀ u, Below w.heap.size w u → Calls Try.prog 29 #[.agg ([(d.c1.d v2).cells, (d.c2.d v3).cells].flatten).toArray] u (EncF u (fldE d) (fldB d))) := fun u hu => by
    rw [hBy, hE]; exact resla_new (d.c1.d v2) (d.c2.d v3) d.c1.l d.c2.l u ⟨ok4, i2.below hu, by omega⟩ ⟨ok5, i3.below hu, by omega⟩
  have hl : ([(d.c1.d v2).cells, (d.c2.d v3).cells].flatten).length = 70 := by simp [ClP.len ok4, ClP.len ok5]
  have hpk : Hid (PK[3]? = some ([(d.c1.d v2).cells, (d.c2.d v3).cells].flatten)) := by show _ = _; rw [← hPK.out]; rfl
  rw [hk] at hk0
  clear hE hBy hk eX i1 i2 i3 i4 ok1 ok2 ok3 ok4 ok5 ok6 ok7 ok8 ok9 sm1 sm2 sm3 sm4
  generalize [(d.c1.d v2).cells, (d.c2.d v3).cells].flatten = L at *
  have HIL : Hid ((Try.prog.info? 39).map (·.size) = some L.length) := by show _ = _; rw [hl]; kernel_rfl
  obtain ⟨E, hE⟩ : ∃ E, fldE d = E := ⟨_, rfl⟩
  obtain ⟨ys, hy⟩ : ∃ ys, fldB d = ys := ⟨_, rfl⟩
  rw [hE, hy] at D
  rw [hE, hy]
  clear hl hE hy
  go_enter Try.func18, Try.ntmps18
  go_wp2_with (first
    | ((with_reducible refine at_load (.tmp 4) ?_); refine wpList_load_1 3 (.tmp 4) rfl w.heap.size 0 (.int .i64 4) (G1.out.cellAt (k := 0) hk0 rfl) rfl _ Try.underlying3 rfl rfl ?_)
    | ((with_reducible refine at_load (.tmp 20) ?_); refine wpList_load_part 39 (.tmp 20) rfl w.heap.size _ 3 306 L G1.out hpk.out (by rw [OO.out]; rfl) rfl _ Try.underlying39 rfl HIL.out rfl ?_)
    | (go_at_call 29; refine (D.out _ HB0.out).mono ?_; rintro en w1 ⟨v', rfl, hy1, hb1⟩; have HY1 := Lib.hid hy1; have HB1 := Lib.hid (HB0.out.trans (hb1.mono HB0.out.size)); clear hy1 hb1))
  go_ret2
  exact ⟨v', rfl, ⟨HY1.out.1, HY1.out.2.mono HB0.out.size⟩, HB1.out⟩

set_option maxRecDepth 100000 in
set_option maxHeartbeats 8000000 in
theorem rn_5 (P : Value → Prop) (X : Array Value) (d : OpD) (w : World) (hX : OpIn P w X d) (hsm : SmallD d) (hk : d.k = 5) : Calls Try.prog 18 #[.agg X] w (EncF w (fldE d) (fldB d)) := by
  obtain ⟨v1, v2, v3, v4, eX, ok, ⟨i1, _⟩, ⟨i2, _⟩, ⟨i3, _⟩, ⟨i4, _⟩⟩ := hX
  have OO := Lib.hid (op_offs ok v1 v2 v3 v4)
  obtain ⟨PK, hPK⟩ : ∃ PK, Hid (d.parts v1 v2 v3 v4 = PK) := ⟨_, rfl⟩
  rw [hPK.out] at OO
  have HB0 := Lib.hid ((Below.refl w.heap.size w).alloc (Nat.le_refl _) (.cells X 48))
  have G1 : Hid (Blk (w.alloc (.cells X 48)) w.heap.size (flatP PK)) := (Blk.new rfl).to (by rw [eX, hPK.out])
  obtain ⟨ok1, ok2, ok3, ok4, ok5, ok6, ok7, ok8, ok9⟩ := ok
  obtain ⟨sm1, sm2, sm3, sm4⟩ := hsm
  have hk0 : PK[0]? = some [.int .i64 d.k] := by rw [← hPK.out]; rfl
  have hE : fldE d = (if 1024 < d.tl.length then 3 else 0) := by unfold fldE; simp [hk]
  have hBy : fldB d = d.tc.enc ++ tenc d.tl := by unfold fldB; simp [hk]
  have D : Hid (∀ u, Below w.heap.size w u → Calls Try.prog 30 #[.agg ([d.tc.cells, [v4]].flatten).toArray] u (EncF u (fldE d) (fldB d))) := fun u hu => by
    rw [hBy, hE]; exact retab_new _ _ _ u ok6 (i4.below hu) (by omega)
  have hl : ([d.tc.cells, [v4]].flatten).length = 34 := by simp [CpD.len ok6]
  have hpk : Hid (PK[4]? = some ([d.tc.cells, [v4]].flatten)) := by show _ = _; rw [← hPK.out]; rfl
  rw [hk] at hk0
  clear hE hBy hk eX i1 i2 i3 i4 ok1 ok2 ok3 ok4 ok5 ok6 ok7 ok8 ok9 sm1 sm2 sm3 sm4
  generalize [d.tc.cells, [v4]].flatten = L at *
  have HIL : Hid ((Try.prog.info? 42).map (·.size) = some L.length) := by show _ = _; rw [hl]; kernel_rfl
  obtain ⟨E, hE⟩ : ∃ E, fldE d = E := ⟨_, rfl⟩
  obtain ⟨ys, hy⟩ : ∃ ys, fldB d = ys := ⟨_, rfl⟩
  rw [hE, hy] at D
  rw [hE, hy]
  clear hl hE hy
  go_enter Try.func18, Try.ntmps18
  go_wp2_with (first
    | ((with_reducible refine at_load (.tmp 4) ?_); refine wpList_load_1 3 (.tmp 4) rfl w.heap.size 0 (.int .i64 5) (G1.out.cellAt (k := 0) hk0 rfl) rfl _ Try.underlying3 rfl rfl ?_)
    | ((with_reducible refine at_load (.tmp 27) ?_); refine wpList_load_part 42 (.tmp 27) rfl w.heap.size _ 4 376 L G1.out hpk.out (by rw [OO.out]; rfl) rfl _ Try.underlying42 rfl HIL.out rfl ?_)
    | (go_at_call 30; refine (D.out _ HB0.out).mono ?_; rintro en w1 ⟨v', rfl, hy1, hb1⟩; have HY1 := Lib.hid hy1; have HB1 := Lib.hid (HB0.out.trans (hb1.mono HB0.out.size)); clear hy1 hb1))
  go_ret2
  exact ⟨v', rfl, ⟨HY1.out.1, HY1.out.2.mono HB0.out.size⟩, HB1.out⟩

set_option maxRecDepth 100000 in
set_option maxHeartbeats 8000000 in
theorem rn_6 (P : Value → Prop) (X : Array Value) (d : OpD) (w : World) (hX : OpIn P w X d) (hsm : SmallD d) (hk : d.k = 6) : Calls Try.prog 18 #[.agg X] w (EncF w (fldE d) (fldB d)) := by
  obtain ⟨v1, v2, v3, v4, eX, ok, ⟨i1, _⟩, ⟨i2, _⟩, ⟨i3, _⟩, ⟨i4, _⟩⟩ := hX
  have OO := Lib.hid (op_offs ok v1 v2 v3 v4)
  obtain ⟨PK, hPK⟩ : ∃ PK, Hid (d.parts v1 v2 v3 v4 = PK) := ⟨_, rfl⟩
  rw [hPK.out] at OO
  have HB0 := Lib.hid ((Below.refl w.heap.size w).alloc (Nat.le_refl _) (.cells X 48))
  have G1 : Hid (Blk (w.alloc (.cells X 48)) w.heap.size (flatP PK)) := (Blk.new rfl).to (by rw [eX, hPK.out])
  obtain ⟨ok1, ok2, ok3, ok4, ok5, ok6, ok7, ok8, ok9⟩ := ok
  obtain ⟨sm1, sm2, sm3, sm4⟩ := hsm
  have hk0 : PK[0]? = some [.int .i64 d.k] := by rw [← hPK.out]; rfl
  have hE : fldE d = (if d.v.kind < 1 ∨ 4 < d.v.kind then 3 else 0) := by unfold fldE; simp [hk]
  have hBy : fldB d = d.v.enc := by unfold fldB; simp [hk]
  have D : Hid (∀ u, Below w.heap.size w u → Calls Try.prog 31 #[.agg (d.v.parts.flatten).toArray] u (EncF u (fldE d) (fldB d))) := fun u hu => by
    rw [hBy, hE]; exact revd_new _ u ok7
  have hl : (d.v.parts.flatten).length = 34 := VdD.len ok7
  have hpk : Hid (PK[5]? = some (d.v.parts.flatten)) := by show _ = _; rw [← hPK.out]; rfl
  rw [hk] at hk0
  clear hE hBy hk eX i1 i2 i3 i4 ok1 ok2 ok3 ok4 ok5 ok6 ok7 ok8 ok9 sm1 sm2 sm3 sm4
  generalize d.v.parts.flatten = L at *
  have HIL : Hid ((Try.prog.info? 46).map (·.size) = some L.length) := by show _ = _; rw [hl]; kernel_rfl
  obtain ⟨E, hE⟩ : ∃ E, fldE d = E := ⟨_, rfl⟩
  obtain ⟨ys, hy⟩ : ∃ ys, fldB d = ys := ⟨_, rfl⟩
  rw [hE, hy] at D
  rw [hE, hy]
  clear hl hE hy
  go_enter Try.func18, Try.ntmps18
  go_wp2_with (first
    | ((with_reducible refine at_load (.tmp 4) ?_); refine wpList_load_1 3 (.tmp 4) rfl w.heap.size 0 (.int .i64 6) (G1.out.cellAt (k := 0) hk0 rfl) rfl _ Try.underlying3 rfl rfl ?_)
    | ((with_reducible refine at_load (.tmp 34) ?_); refine wpList_load_part 46 (.tmp 34) rfl w.heap.size _ 5 410 L G1.out hpk.out (by rw [OO.out]; rfl) rfl _ Try.underlying46 rfl HIL.out rfl ?_)
    | (go_at_call 31; refine (D.out _ HB0.out).mono ?_; rintro en w1 ⟨v', rfl, hy1, hb1⟩; have HY1 := Lib.hid hy1; have HB1 := Lib.hid (HB0.out.trans (hb1.mono HB0.out.size)); clear hy1 hb1))
  go_ret2
  exact ⟨v', rfl, ⟨HY1.out.1, HY1.out.2.mono HB0.out.size⟩, HB1.out⟩

set_option maxRecDepth 100000 in
set_option maxHeartbeats 8000000 in
theorem rn_1 (P : Value → Prop) (X : Array Value) (d : OpD) (w : World) (hX : OpIn P w X d) (hsm : SmallD d) (hk : d.k = 1) : Calls Try.prog 18 #[.agg X] w (EncF w 0 (fldB d)) := by
  obtain ⟨v1, v2, v3, v4, eX, ok, ⟨i1, _⟩, ⟨i2, _⟩, ⟨i3, _⟩, ⟨i4, _⟩⟩ := hX
  have OO := Lib.hid (op_offs ok v1 v2 v3 v4)
  obtain ⟨PK, hPK⟩ : ∃ PK, Hid (d.parts v1 v2 v3 v4 = PK) := ⟨_, rfl⟩
  rw [hPK.out] at OO
  have HB0 := Lib.hid ((Below.refl w.heap.size w).alloc (Nat.le_refl _) (.cells X 48))
  have G1 : Hid (Blk (w.alloc (.cells X 48)) w.heap.size (flatP PK)) := (Blk.new rfl).to (by rw [eX, hPK.out])
  obtain ⟨ok1, ok2, ok3, ok4, ok5, ok6, ok7, ok8, ok9⟩ := ok
  obtain ⟨sm1, sm2, sm3, sm4⟩ := hsm
  have hk0 : PK[0]? = some [.int .i64 d.k] := by rw [← hPK.out]; rfl
  have hBy : fldB d = [] := by unfold fldB; simp [hk]
  rw [hBy]
  rw [hk] at hk0
  clear hBy hk
  clear eX i1 i2 i3 i4 ok1 ok2 ok3 ok4 ok5 ok6 ok7 ok8 ok9 sm1 sm2 sm3 sm4
  go_enter Try.func18, Try.ntmps18
  go_wp2_with (first
    | ((with_reducible refine at_load (.tmp 4) ?_); refine wpList_load_1 3 (.tmp 4) rfl w.heap.size 0 (.int .i64 1) (G1.out.cellAt (k := 0) hk0 rfl) rfl _ Try.underlying3 rfl rfl ?_)
    | fail)
  go_ret2
  exact ⟨_, rfl, ⟨byt_nil _, New.nil _⟩, HB0.out⟩

set_option maxRecDepth 100000 in
set_option maxHeartbeats 8000000 in
theorem rn_7 (P : Value → Prop) (X : Array Value) (d : OpD) (w : World) (hX : OpIn P w X d) (hsm : SmallD d) (hk : d.k = 7) : Calls Try.prog 18 #[.agg X] w (EncF w 0 (fldB d)) := by
  obtain ⟨v1, v2, v3, v4, eX, ok, ⟨i1, _⟩, ⟨i2, _⟩, ⟨i3, _⟩, ⟨i4, _⟩⟩ := hX
  have OO := Lib.hid (op_offs ok v1 v2 v3 v4)
  obtain ⟨PK, hPK⟩ : ∃ PK, Hid (d.parts v1 v2 v3 v4 = PK) := ⟨_, rfl⟩
  rw [hPK.out] at OO
  have HB0 := Lib.hid ((Below.refl w.heap.size w).alloc (Nat.le_refl _) (.cells X 48))
  have G1 : Hid (Blk (w.alloc (.cells X 48)) w.heap.size (flatP PK)) := (Blk.new rfl).to (by rw [eX, hPK.out])
  obtain ⟨ok1, ok2, ok3, ok4, ok5, ok6, ok7, ok8, ok9⟩ := ok
  obtain ⟨sm1, sm2, sm3, sm4⟩ := hsm
  have hk0 : PK[0]? = some [.int .i64 d.k] := by rw [← hPK.out]; rfl
  have hBy : fldB d = [] := by unfold fldB; simp [hk]
  rw [hBy]
  rw [hk] at hk0
  clear hBy hk
  clear eX i1 i2 i3 i4 ok1 ok2 ok3 ok4 ok5 ok6 ok7 ok8 ok9 sm1 sm2 sm3 sm4
  go_enter Try.func18, Try.ntmps18
  go_wp2_with (first
    | ((with_reducible refine at_load (.tmp 4) ?_); refine wpList_load_1 3 (.tmp 4) rfl w.heap.size 0 (.int .i64 7) (G1.out.cellAt (k := 0) hk0 rfl) rfl _ Try.underlying3 rfl rfl ?_)
    | fail)
  go_ret2
  exact ⟨_, rfl, ⟨byt_nil _, New.nil _⟩, HB0.out⟩

set_option maxRecDepth 100000 in
set_option maxHeartbeats 8000000 in
theorem rn_8 (P : Value → Prop) (X : Array Value) (d : OpD) (w : World) (hX : OpIn P w X d) (hsm : SmallD d) (hk : d.k = 8) : Calls Try.prog 18 #[.agg X] w (EncF w (fldE d) (fldB d)) := by
  obtain ⟨v1, v2, v3, v4, eX, ok, ⟨i1, _⟩, ⟨i2, _⟩, ⟨i3, _⟩, ⟨i4, _⟩⟩ := hX
  have OO := Lib.hid (op_offs ok v1 v2 v3 v4)
  obtain ⟨PK, hPK⟩ : ∃ PK, Hid (d.parts v1 v2 v3 v4 = PK) := ⟨_, rfl⟩
  rw [hPK.out] at OO
  have HB0 := Lib.hid ((Below.refl w.heap.size w).alloc (Nat.le_refl _) (.cells X 48))
  have G1 : Hid (Blk (w.alloc (.cells X 48)) w.heap.size (flatP PK)) := (Blk.new rfl).to (by rw [eX, hPK.out])
  obtain ⟨ok1, ok2, ok3, ok4, ok5, ok6, ok7, ok8, ok9⟩ := ok
  obtain ⟨sm1, sm2, sm3, sm4⟩ := hsm
  have hk0 : PK[0]? = some [.int .i64 d.k] := by rw [← hPK.out]; rfl
  have hE : fldE d = if d.w < 0 ∨ 32768 < d.w ∨ d.p < 0 ∨ 32768 < d.p then 3 else 0 := by unfold fldE; simp [hk]
  have hBy : fldB d = uenc d.w.toNat ++ uenc d.p.toNat := by unfold fldB; simp [hk]
  have hp6 : Hid (PK[6]? = some [.int .i64 d.w]) := by show _ = _; rw [← hPK.out]; rfl
  have hp7 : Hid (PK[7]? = some [.int .i64 d.p]) := by show _ = _; rw [← hPK.out]; rfl
  rw [hE, hBy]
  rw [hk] at hk0
  obtain ⟨x, hx⟩ : ∃ x, d.w = x := ⟨_, rfl⟩
  obtain ⟨y, hy9⟩ : ∃ y, d.p = y := ⟨_, rfl⟩
  rw [hx] at hp6
  rw [hy9] at hp7
  rw [hx, hy9]
  clear hE hBy hk eX i1 i2 i3 i4 ok1 ok2 ok3 ok4 ok5 ok6 ok7 ok8 ok9 sm1 sm2 sm3 sm4 hx hy9
  by_cases hbad : x < 0 ∨ 32768 < x ∨ y < 0 ∨ 32768 < y
  case pos =>
    rw [if_pos hbad]
    by_cases h1 : x < 0
    · clear hbad
      go_enter Try.func18, Try.ntmps18
      go_wp2_with (first
        | ((with_reducible refine at_load (.tmp 4) ?_); refine wpList_load_1 3 (.tmp 4) rfl w.heap.size 0 (.int .i64 8) (G1.out.cellAt (k := 0) hk0 (by rw [OO.out]; rfl)) rfl _ Try.underlying3 rfl rfl ?_)
        | ((with_reducible refine at_load (.tmp 41) ?_); refine wpList_load_1 3 (.tmp 41) rfl w.heap.size 444 (.int .i64 x) (G1.out.cellAt (k := 6) hp6.out (by rw [OO.out]; rfl)) rfl _ Try.underlying3 rfl rfl ?_)
        | ((with_reducible refine at_load (.tmp 45) ?_); refine wpList_load_1 3 (.tmp 45) rfl w.heap.size 444 (.int .i64 x) (G1.out.cellAt (k := 6) hp6.out (by rw [OO.out]; rfl)) rfl _ Try.underlying3 rfl rfl ?_)
        | ((with_reducible refine at_load (.tmp 50) ?_); refine wpList_load_1 3 (.tmp 50) rfl w.heap.size 445 (.int .i64 y) (G1.out.cellAt (k := 7) hp7.out (by rw [OO.out]; rfl)) rfl _ Try.underlying3 rfl rfl ?_)
        | ((with_reducible refine at_load (.tmp 55) ?_); refine wpList_load_1 3 (.tmp 55) rfl w.heap.size 445 (.int .i64 y) (G1.out.cellAt (k := 7) hp7.out (by rw [OO.out]; rfl)) rfl _ Try.underlying3 rfl rfl ?_)
        | fail)
      go_ret2
      exact ⟨_, rfl, ⟨byt_nil _, New.nil _⟩, HB0.out⟩
    by_cases h2 : 32768 < x
    · clear hbad
      go_enter Try.func18, Try.ntmps18
      go_wp2_with (first
        | ((with_reducible refine at_load (.tmp 4) ?_); refine wpList_load_1 3 (.tmp 4) rfl w.heap.size 0 (.int .i64 8) (G1.out.cellAt (k := 0) hk0 (by rw [OO.out]; rfl)) rfl _ Try.underlying3 rfl rfl ?_)
        | ((with_reducible refine at_load (.tmp 41) ?_); refine wpList_load_1 3 (.tmp 41) rfl w.heap.size 444 (.int .i64 x) (G1.out.cellAt (k := 6) hp6.out (by rw [OO.out]; rfl)) rfl _ Try.underlying3 rfl rfl ?_)
        | ((with_reducible refine at_load (.tmp 45) ?_); refine wpList_load_1 3 (.tmp 45) rfl w.heap.size 444 (.int .i64 x) (G1.out.cellAt (k := 6) hp6.out (by rw [OO.out]; rfl)) rfl _ Try.underlying3 rfl rfl ?_)
        | ((with_reducible refine at_load (.tmp 50) ?_); refine wpList_load_1 3 (.tmp 50) rfl w.heap.size 445 (.int .i64 y) (G1.out.cellAt (k := 7) hp7.out (by rw [OO.out]; rfl)) rfl _ Try.underlying3 rfl rfl ?_)
        | ((with_reducible refine at_load (.tmp 55) ?_); refine wpList_load_1 3 (.tmp 55) rfl w.heap.size 445 (.int .i64 y) (G1.out.cellAt (k := 7) hp7.out (by rw [OO.out]; rfl)) rfl _ Try.underlying3 rfl rfl ?_)
        | fail)
      go_ret2
      exact ⟨_, rfl, ⟨byt_nil _, New.nil _⟩, HB0.out⟩
    by_cases h3 : y < 0
    · clear hbad
      go_enter Try.func18, Try.ntmps18
      go_wp2_with (first
        | ((with_reducible refine at_load (.tmp 4) ?_); refine wpList_load_1 3 (.tmp 4) rfl w.heap.size 0 (.int .i64 8) (G1.out.cellAt (k := 0) hk0 (by rw [OO.out]; rfl)) rfl _ Try.underlying3 rfl rfl ?_)
        | ((with_reducible refine at_load (.tmp 41) ?_); refine wpList_load_1 3 (.tmp 41) rfl w.heap.size 444 (.int .i64 x) (G1.out.cellAt (k := 6) hp6.out (by rw [OO.out]; rfl)) rfl _ Try.underlying3 rfl rfl ?_)
        | ((with_reducible refine at_load (.tmp 45) ?_); refine wpList_load_1 3 (.tmp 45) rfl w.heap.size 444 (.int .i64 x) (G1.out.cellAt (k := 6) hp6.out (by rw [OO.out]; rfl)) rfl _ Try.underlying3 rfl rfl ?_)
        | ((with_reducible refine at_load (.tmp 50) ?_); refine wpList_load_1 3 (.tmp 50) rfl w.heap.size 445 (.int .i64 y) (G1.out.cellAt (k := 7) hp7.out (by rw [OO.out]; rfl)) rfl _ Try.underlying3 rfl rfl ?_)
        | ((with_reducible refine at_load (.tmp 55) ?_); refine wpList_load_1 3 (.tmp 55) rfl w.heap.size 445 (.int .i64 y) (G1.out.cellAt (k := 7) hp7.out (by rw [OO.out]; rfl)) rfl _ Try.underlying3 rfl rfl ?_)
        | fail)
      go_ret2
      exact ⟨_, rfl, ⟨byt_nil _, New.nil _⟩, HB0.out⟩
    have h4 : 32768 < y := by omega
    clear hbad
    go_enter Try.func18, Try.ntmps18
    go_wp2_with (first
      | ((with_reducible refine at_load (.tmp 4) ?_); refine wpList_load_1 3 (.tmp 4) rfl w.heap.size 0 (.int .i64 8) (G1.out.cellAt (k := 0) hk0 (by rw [OO.out]; rfl)) rfl _ Try.underlying3 rfl rfl ?_)
      | ((with_reducible refine at_load (.tmp 41) ?_); refine wpList_load_1 3 (.tmp 41) rfl w.heap.size 444 (.int .i64 x) (G1.out.cellAt (k := 6) hp6.out (by rw [OO.out]; rfl)) rfl _ Try.underlying3 rfl rfl ?_)
      | ((with_reducible refine at_load (.tmp 45) ?_); refine wpList_load_1 3 (.tmp 45) rfl w.heap.size 444 (.int .i64 x) (G1.out.cellAt (k := 6) hp6.out (by rw [OO.out]; rfl)) rfl _ Try.underlying3 rfl rfl ?_)
      | ((with_reducible refine at_load (.tmp 50) ?_); refine wpList_load_1 3 (.tmp 50) rfl w.heap.size 445 (.int .i64 y) (G1.out.cellAt (k := 7) hp7.out (by rw [OO.out]; rfl)) rfl _ Try.underlying3 rfl rfl ?_)
      | ((with_reducible refine at_load (.tmp 55) ?_); refine wpList_load_1 3 (.tmp 55) rfl w.heap.size 445 (.int .i64 y) (G1.out.cellAt (k := 7) hp7.out (by rw [OO.out]; rfl)) rfl _ Try.underlying3 rfl rfl ?_)
      | fail)
    go_ret2
    exact ⟨_, rfl, ⟨byt_nil _, New.nil _⟩, HB0.out⟩
  case neg =>
    rw [if_neg hbad]
    have h1 : ¬ x < 0 := by omega
    have h2 : ¬ 32768 < x := by omega
    have h3 : ¬ y < 0 := by omega
    have h4 : ¬ 32768 < y := by omega
    clear hbad
    go_enter Try.func18, Try.ntmps18
    go_wp2_with (first
      | ((with_reducible refine at_load (.tmp 4) ?_); refine wpList_load_1 3 (.tmp 4) rfl w.heap.size 0 (.int .i64 8) (G1.out.cellAt (k := 0) hk0 (by rw [OO.out]; rfl)) rfl _ Try.underlying3 rfl rfl ?_)
      | ((with_reducible refine at_load (.tmp 41) ?_); refine wpList_load_1 3 (.tmp 41) rfl w.heap.size 444 (.int .i64 x) (G1.out.cellAt (k := 6) hp6.out (by rw [OO.out]; rfl)) rfl _ Try.underlying3 rfl rfl ?_)
      | ((with_reducible refine at_load (.tmp 45) ?_); refine wpList_load_1 3 (.tmp 45) rfl w.heap.size 444 (.int .i64 x) (G1.out.cellAt (k := 6) hp6.out (by rw [OO.out]; rfl)) rfl _ Try.underlying3 rfl rfl ?_)
      | ((with_reducible refine at_load (.tmp 50) ?_); refine wpList_load_1 3 (.tmp 50) rfl w.heap.size 445 (.int .i64 y) (G1.out.cellAt (k := 7) hp7.out (by rw [OO.out]; rfl)) rfl _ Try.underlying3 rfl rfl ?_)
      | ((with_reducible refine at_load (.tmp 55) ?_); refine wpList_load_1 3 (.tmp 55) rfl w.heap.size 445 (.int .i64 y) (G1.out.cellAt (k := 7) hp7.out (by rw [OO.out]; rfl)) rfl _ Try.underlying3 rfl rfl ?_)
      | fail)
    obtain ⟨u, hu⟩ : ∃ u, (w.alloc (.cells X 48)).drew = u := ⟨_, rfl⟩
    have HBU : Hid (Below w.heap.size w u) := by rw [← hu]; exact Below.drewN (n := 1) HB0.out
    have GU : Hid (Blk u w.heap.size (flatP PK)) := by rw [← hu]; exact G1.out
    have HS : Hid (u.cell? ⟨w.heap.size, 444, none⟩ = some (.int .i64 x) ∧ u.cell? ⟨w.heap.size, 445, none⟩ = some (.int .i64 y)) := ⟨GU.out.cellAt (k := 6) hp6.out (by rw [OO.out]; rfl), GU.out.cellAt (k := 7) hp7.out (by rw [OO.out]; rfl)⟩
    have HLU := Lib.hid GU.out.lt
    refine wp_region_held_drew (S := fun u => u.cell? ⟨w.heap.size, 444, none⟩ = some (.int .i64 x) ∧ u.cell? ⟨w.heap.size, 445, none⟩ = some (.int .i64 y)) (by kernel_rfl) (by rw [hu]; exact HS.out) (fun _ => ?_)
    rw [hu]
    clear hu
    (try simp only [Act.put, List.setIfInBounds_toArray, List.set_cons_zero, List.set_cons_succ])
    refine wpAnyH_take (i := 0) (oi := ⟨some 59, _, _, _, _, _⟩) (v := .pointer (some ⟨w.heap.size, 444, none⟩)) rfl (by kernel_rfl) (by kernel_rfl) (by kernel_rfl) (fun _ _ _ h => h) (Or.inl ⟨by rfl, fun wz hz => ?_⟩) HS.out ?_
    · clear hz; go_simp; first | done | with_reducible rfl | rfl
    (try simp only [Act.put, List.setIfInBounds_toArray, List.set_cons_zero, List.set_cons_succ])
    refine held_load1 1 (oi := ⟨some 60, _, _, _, _, _⟩) rfl (by kernel_rfl) (by kernel_rfl) (by kernel_rfl) (fun _ _ _ _ h => h) rfl 3 (.tmp 59) rfl w.heap.size 444 rfl (.int .i64 x) _ (fun u' hu => hu.1) Try.underlying3 rfl HS.out ?_
    (try simp only [Act.put, List.setIfInBounds_toArray, List.set_cons_zero, List.set_cons_succ])
    refine wpAnyH_take (i := 2) (oi := ⟨some 61, _, _, _, _, _⟩) (v := .int .u64 x) rfl (by kernel_rfl) (by kernel_rfl) (by kernel_rfl) (fun _ _ _ h => h) (Or.inl ⟨by rfl, fun wz hz => ?_⟩) HS.out ?_
    · clear hz; go_simp; first | done | with_reducible rfl | (rw [IntKind.wrap_u64]; omega)
    (try simp only [Act.put, List.setIfInBounds_toArray, List.set_cons_zero, List.set_cons_succ])
    refine wpAnyH_take (i := 4) (oi := ⟨some 63, _, _, _, _, _⟩) (v := .pointer (some ⟨w.heap.size, 445, none⟩)) rfl (by kernel_rfl) (by kernel_rfl) (by kernel_rfl) (fun _ _ _ h => h) (Or.inl ⟨by rfl, fun wz hz => ?_⟩) HS.out ?_
    · clear hz; go_simp; first | done | with_reducible rfl | rfl
    (try simp only [Act.put, List.setIfInBounds_toArray, List.set_cons_zero, List.set_cons_succ])
    refine held_load1 5 (oi := ⟨some 64, _, _, _, _, _⟩) rfl (by kernel_rfl) (by kernel_rfl) (by kernel_rfl) (fun _ _ _ _ h => h) rfl 3 (.tmp 63) rfl w.heap.size 445 rfl (.int .i64 y) _ (fun u' hu => hu.2) Try.underlying3 rfl HS.out ?_
    (try simp only [Act.put, List.setIfInBounds_toArray, List.set_cons_zero, List.set_cons_succ])
    refine wpAnyH_take (i := 6) (oi := ⟨some 65, _, _, _, _, _⟩) (v := .int .u64 y) rfl (by kernel_rfl) (by kernel_rfl) (by kernel_rfl) (fun _ _ _ h => h) (Or.inl ⟨by rfl, fun wz hz => ?_⟩) HS.out ?_
    · clear hz; go_simp; first | done | with_reducible rfl | (rw [IntKind.wrap_u64]; omega)
    (try simp only [Act.put, List.setIfInBounds_toArray, List.set_cons_zero, List.set_cons_succ])
    refine wpAnyH_ready (rs := [3]) (by kernel_rfl) (by simp) ?_
    refine AllReadyH.cons rfl (fun K hK => ?_) AllReadyH.nil
    go_simp
    refine (ruint_any (.slice none 0 0) [] x u u.heap.size (Own.nil _ _) (Nat.le_refl _) (by omega) (by omega) (by simp)).mono ?_
    rintro en w1 ⟨v1, rfl, ho1, hb1, _⟩
    have HO1 := Lib.hid ho1
    have HB1 := Lib.hid (HBU.out.trans (hb1.mono HBU.out.size))
    have HSZ1 := Lib.hid hb1.size
    have HS1 : Hid (w1.cell? ⟨w.heap.size, 444, none⟩ = some (.int .i64 x) ∧ w1.cell? ⟨w.heap.size, 445, none⟩ = some (.int .i64 y)) := by
      refine ⟨?_, ?_⟩
      · rw [hb1.cell (p := ⟨w.heap.size, 444, none⟩) HLU.out]; exact HS.out.1
      · rw [hb1.cell (p := ⟨w.heap.size, 445, none⟩) HLU.out]; exact HS.out.2
    refine hK.out _ _ HS1.out (fun _ => ?_)
    clear hK K ho1 hb1
    (try simp only [Act.put, List.setIfInBounds_toArray, List.set_cons_zero, List.set_cons_succ])
    refine wpAnyH_ready (rs := [7]) (by kernel_rfl) (by simp) ?_
    refine AllReadyH.cons rfl (fun K hK => ?_) AllReadyH.nil
    go_simp
    have hlx := uenc_len10 (n := x.toNat) (by omega)
    have hly := uenc_len10 (n := y.toNat) (by omega)
    refine (ruint_any v1 ([] ++ uenc x.toNat) y w1 u.heap.size HO1.out HSZ1.out (by omega) (by omega) (by simp; omega)).mono ?_
    rintro en w2 ⟨v2, rfl, ho2, hb2, _⟩
    have HO2 := Lib.hid (by simpa using ho2 : Own w2 u.heap.size v2 (uenc x.toNat ++ uenc y.toNat))
    have HB2 := Lib.hid (HB1.out.trans (hb2.mono HBU.out.size))
    have HLE : Hid ((uenc x.toNat ++ uenc y.toNat).length ≤ 20) := by show _ ≤ _; rw [List.length_append]; omega
    have HRG : Hid (∀ z ∈ uenc x.toNat ++ uenc y.toNat, 0 ≤ z ∧ z ≤ 255) := fun z hz => by
      rcases List.mem_append.1 hz with h | h
      · exact uenc_byte _ z h
      · exact uenc_byte _ z h
    have HS2 : Hid (w2.cell? ⟨w.heap.size, 444, none⟩ = some (.int .i64 x) ∧ w2.cell? ⟨w.heap.size, 445, none⟩ = some (.int .i64 y)) := by
      refine ⟨?_, ?_⟩
      · rw [hb2.cell (p := ⟨w.heap.size, 444, none⟩) HLU.out]; exact HS1.out.1
      · rw [hb2.cell (p := ⟨w.heap.size, 445, none⟩) HLU.out]; exact HS1.out.2
    refine hK.out _ _ HS2.out (fun _ => ?_)
    clear hK K ho2 hb2
    (try simp only [Act.put, List.setIfInBounds_toArray, List.set_cons_zero, List.set_cons_succ])
    refine wpAnyH_ready (rs := [8]) (by kernel_rfl) (by simp) ?_
    refine AllReadyH.cons rfl (fun K hK => ?_) AllReadyH.nil
    go_simp
    refine hK.out _ _ (HS2.out) (fun _ => ?_)
    clear hK K
    (try simp only [Act.put, List.setIfInBounds_toArray, List.set_cons_zero, List.set_cons_succ])
    refine wpAnyH_ready (rs := [9]) (by kernel_rfl) (by simp) ?_
    refine AllReadyH.cons rfl (fun K hK => ?_) AllReadyH.nil
    go_simp
    refine hK.out _ _ (HS2.out) (fun _ => ?_)
    clear hK K
    (try simp only [Act.put, List.setIfInBounds_toArray, List.set_cons_zero, List.set_cons_succ])
    refine wpAnyH_done (by kernel_rfl) ?_ _
    clear hlx hly
    go_wp2_with fail
    go_ret2
    exact ⟨v2, rfl, ⟨by rw [if_pos rfl]; exact (HO2.out.byt (by have := HLE.out; unfold maxLen; omega) HRG.out), HO2.out.new HBU.out.size⟩, HB2.out⟩

theorem rn_any (P : Value → Prop) (X : Array Value) (d : OpD) (w : World) (hX : OpIn P w X d) (hsm : SmallD d) (h1 : 1 ≤ d.k) (h8 : d.k ≤ 8) : Calls Try.prog 18 #[.agg X] w (EncF w (fldE d) (fldB d)) := by
  obtain h | h | h | h | h | h | h | h : d.k = 1 ∨ d.k = 2 ∨ d.k = 3 ∨ d.k = 4 ∨ d.k = 5 ∨ d.k = 6 ∨ d.k = 7 ∨ d.k = 8 := by omega
  · have e : fldE d = 0 := by unfold fldE; simp [h]
    rw [e]; exact rn_1 P X d w hX hsm h
  · exact rn_2 P X d w hX hsm h
  · exact rn_3 P X d w hX hsm h
  · exact rn_4 P X d w hX hsm h
  · exact rn_5 P X d w hX hsm h
  · exact rn_6 P X d w hX hsm h
  · have e : fldE d = 0 := by unfold fldE; simp [h]
    rw [e]; exact rn_7 P X d w hX hsm h
  · exact rn_8 P X d w hX hsm h
end

/-! ScB -/
section
set_option linter.unusedVariables false
set_option linter.unusedSimpArgs false
open Go.RowKit

theorem opErr_fld {d : OpD} (h : opErr d = 0) : fldE d = 0 := by
  rw [opErr_code] at h
  by_cases he : fldE d = 0
  · exact he
  · rw [if_pos he] at h; exact absurd h he
theorem byt_grew {w w' : World} {a : Option Addr} {l c : Nat} {xs bs : List Int} {v v' : Value} {B : Nat} (h : Byt w (.slice a l c) xs) (hg : Grew w w' v v') (ho : Own w B v bs) (hoff : ∀ j, v.ownBlock = some j → Off j (.slice a l c)) : Byt w' (.slice a l c) xs :=
  ⟨h.ints.grownOff hg.1 fun j hj => hoff j hj, h.rng, h.fits⟩

set_option maxRecDepth 100000 in
set_option maxHeartbeats 8000000 in
theorem renc_ops (v : Value) (ds : List OpD) (w : World) (h : ElV OpIn 446 w v ds) (hG : GoodL ds) : Calls Try.prog 9 #[v] w (EncL w ds) := by
  obtain ⟨va, vc, rfl, hm⟩ := h.shape
  unfold maxLen at hm
  obtain ⟨n, hn⟩ : ∃ n, Hid (ds.length = n) := ⟨_, rfl⟩
  rw [hn.out] at h hm ⊢
  have H := Lib.hid h
  clear h
  by_cases hbig : 4096 < n
  · have HE : Hid (∀ u, Below w.heap.size w u → EncL w ds (.returned (.tuple #[.slice none 0 0, .int .i64 11])) u) := fun u hu => by
      unfold EncL; rw [hn.out, if_pos hbig]; exact EncR.err (by omega) hu
    go_enter Try.func9, Try.ntmps9
    go_wp2_with fail
    go_ret2
    exact HE.out _ (Below.refl _ _)
  have hn2 : ¬ (4096 : Int) < (n : Int) := by omega
  have HG := Lib.hid hG
  have HNB := Lib.hid hbig
  clear hG hbig
  go_enter Try.func9, Try.ntmps9
  go_wp2_with fail
  go_loopw [4, 5] (fun b i wr => ∃ k : Nat, k ≤ n ∧ i = .int .i64 k ∧ Own wr w.heap.size b (opsBy (ds.take k)) ∧ (∀ x ∈ opsBy (ds.take k), 0 ≤ x ∧ x ≤ 255) ∧ (∀ j (hj : j < ds.length), j < k → opErr ds[j] = 0) ∧ Below w.heap.size w wr) (fun _ i _ => n - (intOf i).toNat)
  case atStart => exact ⟨0, Nat.zero_le _, rfl, Own.nil _ _, by simp [opsBy], fun j _ hj => by omega, Below.refl _ w⟩
  case round =>
    obtain ⟨k, hk, rfl, how, hrg, hok, hb⟩ := hrel
    have hfit := HG.out.fits k (by rw [hn.out]; exact hk) hok
    have HFIT := Lib.hid hfit
    obtain ⟨ba, bl, bc, rfl⟩ := how.shape
    have hbl : (opsBy (ds.take k)).length = bl := by
      have := Ints.own how (by unfold maxLen; omega); obtain ⟨_, _, _, e, h9, _⟩ := this; cases e; exact h9
    have hbl2 : bl ≤ 1048576 := by omega
    have HOW := Lib.hid how
    have HRG := Lib.hid hrg
    have HOK := Lib.hid hok
    have HB := Lib.hid hb
    have HBL := Lib.hid hbl
    by_cases hlt : k < n
    · have hkd : k < ds.length := by rw [hn.out]; exact hlt
      obtain ⟨xb, xo, X, e, hl, hxl, hr, hX, hX0, hX1⟩ := (H.out.below opE hb).at opE hkd
      subst e
      have HR := Lib.hid hr
      have HIX : Hid ((Try.prog.info? 48).map (·.size) = some X.toList.length) := by show _ = _; rw [Array.length_toList, hX0]; exact info_op
      obtain ⟨d, hd0⟩ : ∃ d, ds[k] = d := ⟨_, rfl⟩
      have hd := Lib.hid hd0
      clear hd0
      rw [hd.out] at hX
      have hsm := HG.out.small d (hd.out ▸ List.getElem_mem hkd)
      have DV : Hid (∀ u, Below wr.heap.size wr u → Calls Try.prog 11 #[.agg X] u (VoR u d)) := fun u hu => vo_any _ X d u (opE.below hX hu) hsm
      unfold VoR at DV
      have DF : Hid (opErr d = 0 → ∀ u, Below wr.heap.size wr u → Calls Try.prog 18 #[.agg X] u (EncF u 0 (fldB d))) := fun h u hu => by
        have hf := opErr_fld h
        have := rn_any _ X d u (opE.below hX hu) hsm (fldE_kind hf).1 (fldE_kind hf).2
        rwa [hf] at this
      have HKC : Hid (opErr d = 0 → 1 ≤ d.k ∧ d.k ≤ 8) := fun h => fldE_kind (opErr_fld h)
      have hkc0 : X.toList[0]? = some (.int .i64 d.k) := by
        obtain ⟨v1, v2, v3, v4, eX, _⟩ := hX
        rw [eX]; rfl
      have eXL : X.toList.toArray = X := by simp
      obtain ⟨XL, hXL⟩ : ∃ L, X.toList = L := ⟨_, rfl⟩
      rw [hXL] at HR HIX eXL hkc0
      have EXL := Lib.hid eXL
      obtain ⟨E, hE⟩ : ∃ E, Hid (opErr d = E) := ⟨_, rfl⟩
      rw [hE.out] at DV DF HKC
      have HKL := Lib.hid hkc0
      have HXLT := Lib.hid hxl
      clear hkc0
      clear how hrg hok hb hbl hxl hr hX hX0 hX1 hl hsm eXL hXL hfit
      by_cases he : E = 0
      case neg =>
        have HE : Hid (∀ u, Below w.heap.size w u → EncL w ds (.returned (.tuple #[.slice none 0 0, .int .i64 E])) u) := fun u hu => by
          have e1 : opsErr ds = E := by
            rw [opsErr_at hkd HOK.out (by rw [hd.out, hE.out]; exact he), hd.out, hE.out]
          unfold EncL; rw [hn.out, if_neg HNB.out, e1]; exact EncR.err he hu
        have hne : (E != 0) = true := by simpa using he
        clear he
        go_wp2_with (first
          | ((with_reducible refine at_load (.tmp 20) ?_); refine wpList_load_mid rfl 48 (.tmp 20) rfl xb (xo + k * 446) rfl XL _ HR.out Try.underlying48 rfl HIX.out ?_; rw [EXL.out])
          | (go_at_call 11; refine (DV.out _ (Below.refl _ _)).mono ?_; rintro en w3 ⟨rfl, hb3⟩; have HB3 := Lib.hid (HB.out.trans (hb3.mono HB.out.size)); clear hb3))
        go_ret2
        exact HE.out _ HB3.out
      case pos =>
        subst he
        have hok2 : ∀ j (hj : j < ds.length), j < k + 1 → opErr ds[j] = 0 := fun j hj hj2 => by
          by_cases hjk : j = k
          · subst hjk; rw [hd.out]; exact hE.out
          · exact HOK.out j hj (by omega)
        have hnx := opsBy_next (ds := ds) hkd
        rw [hd.out] at hnx
        have hf2 := HG.out.fits (k + 1) (by rw [hn.out]; exact hlt) hok2
        have HNX := Lib.hid hnx
        have HOK2 := Lib.hid hok2
        have hyl : (opBy d).length ≤ 1048576 := by rw [hnx, List.length_append] at hf2; omega
        have HYL := Lib.hid hyl
        obtain ⟨K, hK⟩ : ∃ K, Hid (d.k = K) := ⟨_, rfl⟩
        have hkr := HKC.out rfl
        rw [hK.out] at HKL hkr
        have HBY : Hid (opBy d = uenc K.toNat ++ fldB d) := by show _ = _; unfold opBy; rw [hK.out]
        have hcellK : Hid (∀ u, Below wr.heap.size wr u → u.cell? ⟨xb, xo + k * 446, none⟩ = some (.int .i64 K)) := fun u hu => by
          have := (Below.rng hu HXLT.out HR.out) 0 _ HKL.out
          simpa using this
        clear hok2 hnx hf2 hyl
        go_wp2_with (first
          | ((with_reducible refine at_load (.tmp 29) ?_); refine wpList_load_mid rfl 48 (.tmp 29) rfl xb (xo + k * 446) rfl XL _ (Below.rng HW3.out HXLT.out HR.out) Try.underlying48 rfl HIX.out ?_; rw [EXL.out])
          | ((with_reducible refine at_load (.tmp 20) ?_); refine wpList_load_mid rfl 48 (.tmp 20) rfl xb (xo + k * 446) rfl XL _ HR.out Try.underlying48 rfl HIX.out ?_; rw [EXL.out])
          | (go_at_call 11; refine (DV.out _ (Below.refl _ _)).mono ?_; rintro en w3 ⟨rfl, hb3⟩; have HW3 := Lib.hid hb3; have HB3 := Lib.hid (HB.out.trans (hb3.mono HB.out.size)); clear hb3)
          | (go_at_call 18; refine (DF.out (by trivial) _ HW3.out).mono ?_; rintro en w4 ⟨v4, rfl, ⟨hy4, hn4⟩, hb4⟩; rw [if_pos rfl] at hy4; obtain ⟨ya, yl, yc, rfl⟩ := hy4.shape; have HY4 := Lib.hid hy4; have HN4 := Lib.hid hn4; have HW4 := Lib.hid (belT HW3.out hb4); have HB4 := Lib.hid (HB3.out.trans (hb4.mono HB3.out.size)); have hck := hcellK.out _ (belT HW3.out hb4); have hxl4 : xb < w4.heap.size := (Nat.lt_of_lt_of_le HXLT.out (belT HW3.out hb4).size); clear hy4 hn4 hb4)
          | ((with_reducible refine at_load (.tmp 38) ?_); refine wpList_load_1 3 (.tmp 38) rfl xb (xo + k * 446) (.int .i64 K) hck rfl _ Try.underlying3 rfl rfl ?_)
          | (go_at_call 19; refine (ruint_any (.slice ba bl bc) (opsBy (ds.take k)) K w4 w.heap.size (HOW.out.call HW4.out) HB4.out.size (by omega) (by omega) (by have := HFIT.out; omega)).mono ?_; rintro en w5 ⟨v5, rfl, ho5, hb5, hg5⟩; have HO5 := Lib.hid ho5; have HB5 := Lib.hid (HB4.out.trans hb5); have HY5 := Lib.hid (byt_grew HY4.out hg5 (HOW.out.call HW4.out) (fun j hj => HN4.out.off (Nat.lt_of_lt_of_le (HOW.out.lt j hj).2 HW3.out.size))); clear ho5 hb5 hg5)
          | ((with_reducible refine at_app _ _ ?_); refine wpList_appAt _ _ rfl rfl w.heap.size v5 (opsBy (ds.take k) ++ uenc K.toNat) rfl HO5.out _ (fldB d) rfl HY5.out (by have h1 := HYL.out; rw [HBY.out, List.length_append] at h1; have := HFIT.out; rw [List.length_append]; omega) HB5.out.size ?_
             intro v6 w6 ho6 hg6 hn6
             have HO6 := Lib.hid ho6
             have HB6 := Lib.hid (Below.own HB5.out hg6 HO5.out (Nat.le_refl _) HB5.out.size)
             clear ho6 hg6 hn6))
        go_roundw
        case rel =>
          refine ⟨k + 1, hlt, by go_num, by rw [HNX.out, HBY.out, ← List.append_assoc]; exact HO6.out, fun x hx => ?_, HOK2.out, HB6.out⟩
          rw [HNX.out] at hx
          rw [HBY.out] at hx
          rcases List.mem_append.1 hx with h | h
          · exact HRG.out x h
          · rcases List.mem_append.1 h with h | h
            · exact uenc_byte _ x h
            · exact HY4.out.rng x h
        case measure => simp [intOf]; omega
    · obtain rfl : k = n := by omega
      have hle : ¬ (1048576 : Int) < (bl : Int) := by omega
      have HE : Hid (EncL w ds (.returned (.tuple #[.slice ba bl bc, .int .i64 0])) wr) := by
        have e1 : opsErr ds = 0 := opsErr_zero fun j hj => hok j hj (by rw [hn.out] at hj; exact hj)
        unfold EncL; rw [hn.out, if_neg HNB.out, e1]
        have e2 : ds.take k = ds := by rw [← hn.out]; exact List.take_length
        rw [e2] at how hrg hfit
        exact ⟨_, rfl, by rw [if_pos rfl]; exact how.byt (by unfold maxLen; omega) hrg, hb⟩
      clear how hrg hok hb hbl hfit
      go_wp2_with fail
      go_ret2
      exact HE.out
end

/-! El2 -/
section
set_option linter.unusedVariables false
set_option linter.unusedSimpArgs false
open Go.RowKit

theorem foldl_shift : ∀ (xs : List Value) (o n : Nat) (Z : Array Value), (xs.zipIdx n).foldl (fun cs x => cs.setIfInBounds (o + x.2) x.1) Z = (xs.zipIdx (o + n)).foldl (fun cs x => cs.setIfInBounds x.2 x.1) Z
  | [], _, _, _ => rfl
  | x :: xs, o, n, Z => by
    rw [List.zipIdx_cons, List.zipIdx_cons, List.foldl_cons, List.foldl_cons, foldl_shift xs o (n + 1), Nat.add_assoc]

theorem fold_two {X Y W : Array Value} {sz : Nat} (hX : X.size = sz) (hY : Y.size = sz) (hW : W.size = 2 * sz) :
    Array.foldl (fun cs x => cs.setIfInBounds (sz + x.2) x.1) (Array.foldl (fun cs x => cs.setIfInBounds x.2 x.1) W X.zipIdx 0 sz) Y.zipIdx 0 sz = X ++ Y ∧ (Array.foldl (fun cs x => cs.setIfInBounds x.2 x.1) W X.zipIdx 0 sz).size = 2 * sz := by
  have eX : Array.foldl (fun cs x => cs.setIfInBounds x.2 x.1) W X.zipIdx 0 sz = (X.toList.zipIdx 0).foldl (fun cs x => cs.setIfInBounds x.2 x.1) W := by
    have e : sz = X.zipIdx.size := by rw [Array.size_zipIdx, hX]
    rw [e, ← Array.foldl_toList, Array.toList_zipIdx]
  have eY : ∀ W' : Array Value, Array.foldl (fun cs x => cs.setIfInBounds (sz + x.2) x.1) W' Y.zipIdx 0 sz = (Y.toList.zipIdx sz).foldl (fun cs x => cs.setIfInBounds x.2 x.1) W' := fun W' => by
    have e : Array.foldl (fun cs x => cs.setIfInBounds (sz + x.2) x.1) W' Y.zipIdx 0 sz = Array.foldl (fun cs x => cs.setIfInBounds (sz + x.2) x.1) W' Y.zipIdx 0 Y.zipIdx.size := by rw [Array.size_zipIdx, hY]
    rw [e, ← Array.foldl_toList, Array.toList_zipIdx, foldl_shift]; rfl
  have hs : ∀ (l : List (Value × Nat)) (W' : Array Value), (l.foldl (fun cs x => cs.setIfInBounds x.2 x.1) W').size = W'.size := by
    intro l
    induction l with
    | nil => intro W'; rfl
    | cons x r ih => intro W'; rw [List.foldl_cons, ih]; simp
  have h1 : ((X.toList.zipIdx 0).foldl (fun cs x => cs.setIfInBounds x.2 x.1) W).size = 2 * sz := by rw [hs, hW]
  refine ⟨?_, by rw [eX, h1]⟩
  rw [eX, eY]
  apply Array.ext_getElem?
  intro i
  rw [foldl_laidE Y.toList sz _ i (by rw [h1, Array.length_toList]; omega), Array.length_toList, hY]
  by_cases c : sz ≤ i ∧ i < sz + sz
  · rw [if_pos c, Array.getElem?_append_right (by omega), hX]; simp
  · rw [if_neg c, foldl_laidE X.toList 0 W i (by rw [Array.length_toList]; omega), Array.length_toList, hX]
    by_cases c2 : i < sz
    · rw [if_pos (by omega), Array.getElem?_append_left (by omega)]; simp
    · rw [if_neg (by omega), Array.getElem?_eq_none (by omega), Array.getElem?_eq_none (by rw [Array.size_append]; omega)]

theorem buildEl2 {P : Program} {t e : TypeId} {Z X Y : Array Value} {sz : Nat} (ht : P.underlying t = some (.slice e)) (hz : ∀ w, (zeroValue e).run P w = .ok (.agg Z) w) (hi : (P.info? e).map (·.size) = some sz) (hZ : Z.size = sz) (hX : X.size = sz) (hY : Y.size = sz) (h0 : 0 < sz) (h24 : sz ≤ 8000000) (u : World) :
    (Instr.buildSlice t 2 #[(0, .agg X), (1, .agg Y)]).run P u = .ok (.slice (some ⟨u.heap.size, 0, none⟩) 2 2) (u.alloc (.cells (X ++ Y) e)) := by
  obtain ⟨i, hi1, hi2⟩ : ∃ i, P.info? e = some i ∧ i.size = sz := by
    cases h : P.info? e with
    | none => simp [h] at hi
    | some i => exact ⟨i, rfl, by simpa [h] using hi⟩
  have hso : ∀ w, (sizeOf e).run P w = .ok sz w := fun w => by simp [sizeOf, typeInfo, hi1, hi2]
  simp [Instr.buildSlice, Instr.fill, go_sem, hz, hX, hY, hZ, Value.cells, run_underlying ht, hso]
  obtain ⟨e1, e2⟩ := fold_two (W := Array.map (fun x => Z[x % sz]!) (Array.range (2 * sz))) hX hY (by simp)
  rw [if_neg (by omega), if_neg (by omega), if_neg (by omega), e1, e2, if_neg (by omega)]
  simp [go_sem]
end

/-! ScA -/
section
set_option linter.unusedVariables false
set_option linter.unusedSimpArgs false
open Go.RowKit

/-- Two operations in a new row. -/
theorem elV_two {P Q : Value → Prop} {w : World} {X Y : Array Value} {d e : OpD} (hX : OpIn P w X d) (hY : OpIn Q w Y e) (t : TypeId) :
    ElV OpIn 446 (w.alloc (.cells (X ++ Y) t)) (.slice (some ⟨w.heap.size, 0, none⟩) 2 2) [d, e] := by
  have hb := (Below.refl w.heap.size w).alloc (Nat.le_refl _) (.cells (X ++ Y) t)
  have hB : Blk (w.alloc (.cells (X ++ Y) t)) w.heap.size (X ++ Y) := Blk.new rfl
  refine ⟨_, _, rfl, by unfold maxLen; simp, .inr ⟨_, 0, rfl, hB.lt, [X, Y], ?_, rfl, fun p hp => ?_⟩⟩
  · have e : (X ++ Y).toList = rowsL [X, Y] := by simp [rowsL]
    rw [← e]; exact hB.range
  · simp only [List.zip_cons_cons, List.zip_nil_left, List.mem_cons, List.not_mem_nil, or_false] at hp
    rcases hp with rfl | rfl
    · exact opE.mono (opE.below hX hb) fun _ _ => trivial
    · exact opE.mono (opE.below hY hb) fun _ _ => trivial

def tickD : OpD := kOp 1
def crashD : OpD := { kOp 8 with w := 2, p := 5 }
def bytes4 : List Int := [1, 8, 2, 5]
theorem by_tick : opBy tickD = [1] := by decide +kernel
theorem by_crash : opBy crashD = [8, 2, 5] := by decide +kernel
theorem err_tick : opErr tickD = 0 := by
  rw [opErr_code, if_neg (by simp [fldE, tickD, kOp]), if_pos ((keep_wo _).2 (show SameD tickD (keepD tickD) from SameD.rfl' _))]
theorem err_crash : opErr crashD = 0 := by
  rw [opErr_code, if_neg (by simp [fldE, crashD, kOp]), if_pos ((keep_wo _).2 (show SameD crashD (keepD crashD) from SameD.rfl' _))]
theorem crash_ok : crashD.ok := by
  have := kOp_ok (k := 8) (by unfold i64R; omega)
  exact ⟨this.1, this.2.1, this.2.2.1, this.2.2.2.1, this.2.2.2.2.1, this.2.2.2.2.2.1, this.2.2.2.2.2.2.1, by show i64R 2; unfold i64R; omega, by show i64R 5; unfold i64R; omega⟩
theorem crash_in (w : World) : OpIn (fun _ => True) w (flatP (crashD.parts nilV nilV nilV nilV)) crashD :=
  ⟨nilV, nilV, nilV, nilV, rfl, crash_ok, ⟨intsV_nil _, trivial⟩, ⟨intsV_nil _, trivial⟩, ⟨intsV_nil _, trivial⟩, ⟨numsV_nil _, trivial⟩⟩
theorem tick_in (w : World) : OpIn (fun _ => True) w (flatP (tickD.parts nilV nilV nilV nilV)) tickD := opE.mono (kOp_in (k := 1) (by unfold i64R; omega) 0 w) fun _ _ => trivial
theorem good_two : GoodL [tickD, crashD] where
  small := by
    intro d hd
    simp only [List.mem_cons, List.not_mem_nil, or_false] at hd
    rcases hd with rfl | rfl
    · exact ⟨by show (0 : Nat) ≤ _; omega, by show (0 : Nat) ≤ _; omega, by show (0 : Nat) ≤ _; omega, by show (0 : Nat) ≤ _; omega⟩
    · exact ⟨by show (0 : Nat) ≤ _; omega, by show (0 : Nat) ≤ _; omega, by show (0 : Nat) ≤ _; omega, by show (0 : Nat) ≤ _; omega⟩
  fits := by
    intro k hk _
    match k, hk with
    | 0, _ => simp [opsBy]
    | 1, _ => simp [opsBy, by_tick]
    | 2, _ => simp [opsBy, by_tick, by_crash]
theorem err_two : opsErr [tickD, crashD] = 0 := by
  rw [opsErr, if_neg (by rw [err_tick]; simp), opsErr, if_neg (by rw [err_crash]; simp), opsErr]
theorem by_two : opsBy [tickD, crashD] = bytes4 := by simp [opsBy, by_tick, by_crash, bytes4]
set_option maxRecDepth 1000000 in
theorem dop4 : (dopT bytes4).2 = (4, 0) ∧ (dopT bytes4).1.length = 2 ∧ ((dopT bytes4).1[1]?.map (·.p)) = some 5 := by
  refine ⟨by decide +kernel, by decide +kernel, by decide +kernel⟩
set_option maxRecDepth 1000000 in
theorem bz_crash (w : World) : (Instr.build 48 #[(0, .int .i64 8), (6, .int .i64 2), (7, .int .i64 5)]).run Try.prog w = .ok (.agg (flatP (crashD.parts nilV nilV nilV nilV))) w := by kernel_rfl
set_option maxRecDepth 1000000 in
theorem bz_tick (w : World) : (Instr.build 48 #[(0, .int .i64 1)]).run Try.prog w = .ok (.agg (flatP (tickD.parts nilV nilV nilV nilV))) w := by kernel_rfl

theorem list_two {α : Type} {l : List α} (h : l.length = 2) : ∃ a b, l = [a, b] := by
  match l, h with
  | [a, b], _ => exact ⟨a, b, rfl⟩

set_option maxRecDepth 100000 in
set_option maxHeartbeats 1000000 in
theorem awake6 (w : World) : Calls Try.prog 7 #[] w fun e w' => e = .returned (.bool true) ∧ Below w.heap.size w w' := by
  have hX1 := (tick_in w).size
  have hX2 := (crash_in w).size
  have HV := Lib.hid (elV_two (tick_in w) (crash_in w) 48)
  have BT := Lib.hid bz_tick
  have BC := Lib.hid bz_crash
  obtain ⟨X1, h1⟩ : ∃ X, flatP (tickD.parts nilV nilV nilV nilV) = X := ⟨_, rfl⟩
  obtain ⟨X2, h2⟩ : ∃ X, flatP (crashD.parts nilV nilV nilV nilV) = X := ⟨_, rfl⟩
  rw [h1] at hX1 HV BT
  rw [h2] at hX2 HV BC
  clear h1 h2
  have BB := Lib.hid (fun u => buildEl2 (P := Try.prog) Try.underlying56 zop_run info_op (OpD.size (kOp_ok (k := 0) (by unfold i64R; omega)) _ _ _ _) hX1 hX2 (by omega) (by omega) u)
  have DE : Hid (Calls Try.prog 8 #[.slice (some ⟨w.heap.size, 0, none⟩) 2 2] (w.alloc (.cells (X1 ++ X2) 48)) (EncR (w.alloc (.cells (X1 ++ X2) 48)) 0 bytes4)) := by
    have := enc_any _ _ _ HV.out good_two
    unfold EncL at this
    rw [if_neg (by simp), err_two, by_two] at this
    exact this
  obtain ⟨T, hT⟩ : ∃ T, dopT bytes4 = T := ⟨_, rfl⟩
  obtain ⟨d1, d2, d3⟩ := dop4
  have DD : Hid (∀ v u, Byt u v bytes4 → Calls Try.prog 12 #[v] u (DecR u T)) := fun v u h => by rw [← hT]; exact sdec_any v bytes4 u h (by decide)
  rw [hT] at d1 d2 d3
  clear hT
  obtain ⟨T1, T2⟩ := T
  simp only at d1 d2 d3
  subst d1
  obtain ⟨y1, y2, rfl⟩ := list_two d2
  have hp := Lib.hid (by simpa using d3 : y2.p = 5)
  clear d2 d3
  unfold DecR at DD
  have HB0 := Lib.hid ((Below.refl w.heap.size w).alloc (Nat.le_refl _) (.cells (X1 ++ X2) 48))
  obtain ⟨S4, HS4⟩ : ∃ S4, Hid (strOfNums bytes4 = S4) := ⟨_, rfl⟩
  clear hX1 hX2 HV
  go_enter Try.func7, Try.ntmps7
  go_wp2_with (first
    | ((with_reducible refine at_build (some 6) ?_); refine wpList_build rfl 48 _ rfl #[(0, .int .i64 1)] (by simp [Act.eval]) (.agg X1) (BT.out _) ?_)
    | ((with_reducible refine at_build (some 7) ?_); refine wpList_build rfl 48 _ rfl #[(0, .int .i64 8), (6, .int .i64 2), (7, .int .i64 5)] (by simp [Act.eval]) (.agg X2) (BC.out _) ?_)
    | ((with_reducible refine at_buildSliceE (some 8) ?_); refine wpList_buildSliceE rfl 56 2 _ rfl #[(0, .agg X1), (1, .agg X2)] (by simp [Act.eval, Act.put]) _ (BB.out _) ?_)
    | (go_at_call 8; refine DE.out.mono ?_; rintro en w1 ⟨v1, rfl, hy1, hb1⟩; rw [if_pos rfl] at hy1; obtain ⟨a1, l1, c1, rfl⟩ := hy1.shape; have HY1 := Lib.hid hy1; have HB1 := Lib.hid (HB0.out.trans (hb1.mono HB0.out.size)); clear hy1 hb1)
    | (go_at_call 12; refine (DD.out _ _ HY1.out).mono ?_; rintro en w2 ⟨v2, rfl, hv2, hb2⟩; have HV2 := Lib.hid (by simpa using hv2 : ElV OpIn 446 w2 v2 [y1, y2]); have HY2 := Lib.hid (HY1.out.below hb2); have HB2 := Lib.hid (HB1.out.trans (hb2.mono HB1.out.size)); clear hv2 hb2; obtain ⟨a2, c2, rfl, _⟩ := HV2.out.shape; obtain ⟨xb, xo, Y, e9, hl9, hxl, hr, hYO, hY0, hY1⟩ := HV2.out.at opE (i := 1) (by simp); subst e9; have hcell := (by
        obtain ⟨v1', v2', v3', v4', eY, ok, _⟩ := hYO
        have h1 := hr 445 (.int .i64 5) (by
          rw [eY, flatP, ← hp.out]
          have h2 := op_offs ok v1' v2' v3' v4' 7
          have h3 := flatP_split (ps := y2.parts v1' v2' v3' v4') (k := 7) (p := [.int .i64 y2.p]) rfl
          have h4 : ((y2.parts v1' v2' v3' v4').take 7).flatten.length = 445 := h2
          show (y2.parts v1' v2' v3' v4').flatten[445]? = _
          rw [h3, List.getElem?_append_right (by omega), h4]; rfl)
        exact h1 : w2.cell? ⟨xb, xo + 1 * 446 + 445, none⟩ = some (.int .i64 5)); have HCELL := Lib.hid hcell; have hc1 : (convert 51 9 (.slice a1 l1 c1)).run Try.prog w2 = .ok (.string S4) w2 := (by rw [← HS4.out]; exact conv_any HY2.out); have hc2 : ∀ t, (convert 51 9 (.slice (some ⟨w2.heap.size, 0, none⟩) 4 4)).run Try.prog (w2.alloc (.cells #[.int .u8 1, .int .u8 8, .int .u8 2, .int .u8 5] t)) = .ok (.string S4) (w2.alloc (.cells #[.int .u8 1, .int .u8 8, .int .u8 2, .int .u8 5] t)) := (by intro t; rw [← HS4.out]; exact conv_any (Byt.of_blk (xs := bytes4) (Blk.new rfl) (by unfold maxLen bytes4; simp) (by simp [bytes4]))); have hxb := hxl; have hcl := hcell; clear hr hYO hY0 hY1 hl9 hcell hxl HCELL))
  go_ret
  exact ⟨rfl, HB2.out.alloc HB2.out.size _⟩
end

/-! L6o -/
section
set_option linter.unusedVariables false
set_option linter.unusedSimpArgs false
open Go.RowKit

/-! ### Light -/
def LightD (d : OpD) : Prop := d.a.l.length ≤ 100 ∧ d.c1.l.length ≤ 100 ∧ d.c2.l.length ≤ 100 ∧ d.tl.length ≤ 100
def OpD.parts13 (x : OpD) (v1 v2 v3 v4 : Value) : List (List Value) :=
  [[.int .i64 x.k], x.b.parts.flatten, [.int .u64 x.a.slot] ++ (bytesL x.a.root ++ x.a.cp.cells), [v1], [.int .u64 x.c1.source, .int .u64 x.c1.target] ++ bytesL x.c1.root, [v2], [.int .u64 x.c2.source, .int .u64 x.c2.target] ++ bytesL x.c2.root, [v3], x.tc.cells, [v4], x.v.parts.flatten, [.int .i64 x.w], [.int .i64 x.p]]
theorem parts13_eq (x : OpD) (v1 v2 v3 v4 : Value) : flatP (x.parts v1 v2 v3 v4) = flatP (x.parts13 v1 v2 v3 v4) := by
  simp [flatP, OpD.parts, OpD.parts13, AtP.d, AtD.parts, ClP.d, ClD.cells, ClD.parts]
theorem op_offs13 {x : OpD} (h : x.ok) (v1 v2 v3 v4 : Value) (k : Nat) : offP (x.parts13 v1 v2 v3 v4) k = ([1, 238, 66, 1, 34, 1, 34, 1, 33, 1, 34, 1, 1].take k).sum := by
  refine offs_of ?_ k
  obtain ⟨_, h1, h2, h3, h4, h5, h6, _⟩ := h
  have e1 : (bytesL x.a.root).length = 32 := bytesL_len h2.2.1
  have e2 : x.a.cp.cells.length = 33 := CpD.len h2.2.2
  have e3 : (bytesL x.c1.root).length = 32 := bytesL_len h3.2.2
  have e4 : (bytesL x.c2.root).length = 32 := bytesL_len h4.2.2
  simp only [OpD.parts13, List.map_cons, List.map_nil, BkD.len238 h1, VdD.len h6, CpD.len h5, List.length_append, List.length_cons, List.length_nil, e1, e2, e3, e4]

set_option maxRecDepth 100000 in
set_option maxHeartbeats 8000000 in
theorem light_any (P : Value → Prop) (X : Array Value) (d : OpD) (w : World) (hX : OpIn P w X d) : Calls Try.prog 6 #[.agg X] w (Tells w (LightD d)) := by
  have HB0 := Lib.hid ((Below.refl w.heap.size w).alloc (Nat.le_refl _) (.cells X 48))
  obtain ⟨v1, v2, v3, v4, eX, ok, ⟨⟨⟨a1, l1, c1, rfl, hl1, _⟩, _⟩, _⟩, ⟨⟨⟨a2, l2, c2, rfl, hl2, _⟩, _⟩, _⟩, ⟨⟨⟨a3, l3, c3, rfl, hl3, _⟩, _⟩, _⟩, ⟨⟨⟨a4, l4, c4, rfl, hl4, _⟩, _⟩, _⟩⟩ := hX
  have E : Hid (LightD d ↔ (l1 ≤ 100 ∧ l2 ≤ 100 ∧ l3 ≤ 100 ∧ l4 ≤ 100)) := by show _ ↔ _; unfold LightD; rw [hl1, hl2, hl3, hl4]
  clear hl1 hl2 hl3 hl4
  have OO := Lib.hid (op_offs13 ok (.slice a1 l1 c1) (.slice a2 l2 c2) (.slice a3 l3 c3) (.slice a4 l4 c4))
  have G : Hid (Blk (w.alloc (.cells X 48)) w.heap.size (flatP (d.parts13 (.slice a1 l1 c1) (.slice a2 l2 c2) (.slice a3 l3 c3) (.slice a4 l4 c4)))) := (Blk.new rfl).to (by rw [eX, parts13_eq])
  have k1 : (w.alloc (.cells X 48)).cell? ⟨w.heap.size, 305, none⟩ = some (.slice a1 l1 c1) := G.out.cellAt (k := 3) rfl (by rw [OO.out]; rfl)
  have k2 : (w.alloc (.cells X 48)).cell? ⟨w.heap.size, 340, none⟩ = some (.slice a2 l2 c2) := G.out.cellAt (k := 5) rfl (by rw [OO.out]; rfl)
  have k3 : (w.alloc (.cells X 48)).cell? ⟨w.heap.size, 375, none⟩ = some (.slice a3 l3 c3) := G.out.cellAt (k := 7) rfl (by rw [OO.out]; rfl)
  have k4 : (w.alloc (.cells X 48)).cell? ⟨w.heap.size, 409, none⟩ = some (.slice a4 l4 c4) := G.out.cellAt (k := 9) rfl (by rw [OO.out]; rfl)
  have K1 := Lib.hid k1; have K2 := Lib.hid k2; have K3 := Lib.hid k3; have K4 := Lib.hid k4
  clear k1 k2 k3 k4 OO G ok eX
  by_cases hq : l1 ≤ 100
  case neg =>
    have qN1 : ((l1 : Int) ≤ 100) = False := eq_false (by omega)
    have N1 := Lib.hid hq; clear hq
    go_enter Try.func6, Try.ntmps6
    go_wp2_with (first
      | ((with_reducible refine at_load (.tmp 4) ?_); refine wpList_load_1 33 (.tmp 4) rfl w.heap.size 305 (.slice a1 l1 c1) K1.out rfl _ Try.underlying33 rfl rfl ?_)
      | fail)
    go_ret
    exact tells_no (fun h0 => by have h := E.out.1 h0; exact N1.out h.1) HB0.out
  have qN1 : ((l1 : Int) ≤ 100) = True := eq_true (by omega)
  have N1 := Lib.hid hq; clear hq
  by_cases hq : l2 ≤ 100
  case neg =>
    have qN2 : ((l2 : Int) ≤ 100) = False := eq_false (by omega)
    have N2 := Lib.hid hq; clear hq
    go_enter Try.func6, Try.ntmps6
    go_wp2_with (first
      | ((with_reducible refine at_load (.tmp 4) ?_); refine wpList_load_1 33 (.tmp 4) rfl w.heap.size 305 (.slice a1 l1 c1) K1.out rfl _ Try.underlying33 rfl rfl ?_)
      | ((with_reducible refine at_load (.tmp 11) ?_); refine wpList_load_1 33 (.tmp 11) rfl w.heap.size 340 (.slice a2 l2 c2) K2.out rfl _ Try.underlying33 rfl rfl ?_)
      | fail)
    go_ret
    exact tells_no (fun h0 => by have h := E.out.1 h0; exact N2.out h.2.1) HB0.out
  have qN2 : ((l2 : Int) ≤ 100) = True := eq_true (by omega)
  have N2 := Lib.hid hq; clear hq
  by_cases hq : l3 ≤ 100
  case neg =>
    have qN3 : ((l3 : Int) ≤ 100) = False := eq_false (by omega)
    have N3 := Lib.hid hq; clear hq
    go_enter Try.func6, Try.ntmps6
    go_wp2_with (first
      | ((with_reducible refine at_load (.tmp 4) ?_); refine wpList_load_1 33 (.tmp 4) rfl w.heap.size 305 (.slice a1 l1 c1) K1.out rfl _ Try.underlying33 rfl rfl ?_)
      | ((with_reducible refine at_load (.tmp 11) ?_); refine wpList_load_1 33 (.tmp 11) rfl w.heap.size 340 (.slice a2 l2 c2) K2.out rfl _ Try.underlying33 rfl rfl ?_)
      | ((with_reducible refine at_load (.tmp 19) ?_); refine wpList_load_1 33 (.tmp 19) rfl w.heap.size 375 (.slice a3 l3 c3) K3.out rfl _ Try.underlying33 rfl rfl ?_)
      | fail)
    go_ret
    exact tells_no (fun h0 => by have h := E.out.1 h0; exact N3.out h.2.2.1) HB0.out
  have qN3 : ((l3 : Int) ≤ 100) = True := eq_true (by omega)
  have N3 := Lib.hid hq; clear hq
  by_cases hq : l4 ≤ 100
  case neg =>
    have qN4 : ((l4 : Int) ≤ 100) = False := eq_false (by omega)
    have N4 := Lib.hid hq; clear hq
    go_enter Try.func6, Try.ntmps6
    go_wp2_with (first
      | ((with_reducible refine at_load (.tmp 4) ?_); refine wpList_load_1 33 (.tmp 4) rfl w.heap.size 305 (.slice a1 l1 c1) K1.out rfl _ Try.underlying33 rfl rfl ?_)
      | ((with_reducible refine at_load (.tmp 11) ?_); refine wpList_load_1 33 (.tmp 11) rfl w.heap.size 340 (.slice a2 l2 c2) K2.out rfl _ Try.underlying33 rfl rfl ?_)
      | ((with_reducible refine at_load (.tmp 19) ?_); refine wpList_load_1 33 (.tmp 19) rfl w.heap.size 375 (.slice a3 l3 c3) K3.out rfl _ Try.underlying33 rfl rfl ?_)
      | ((with_reducible refine at_load (.tmp 26) ?_); refine wpList_load_1 40 (.tmp 26) rfl w.heap.size 409 (.slice a4 l4 c4) K4.out rfl _ Try.underlying40 rfl rfl ?_)
      | fail)
    go_ret
    exact tells_no (fun h0 => by have h := E.out.1 h0; exact N4.out h.2.2.2) HB0.out
  have qN4 : ((l4 : Int) ≤ 100) = True := eq_true (by omega)
  have N4 := Lib.hid hq; clear hq
  go_enter Try.func6, Try.ntmps6
  go_wp2_with (first
    | ((with_reducible refine at_load (.tmp 4) ?_); refine wpList_load_1 33 (.tmp 4) rfl w.heap.size 305 (.slice a1 l1 c1) K1.out rfl _ Try.underlying33 rfl rfl ?_)
    | ((with_reducible refine at_load (.tmp 11) ?_); refine wpList_load_1 33 (.tmp 11) rfl w.heap.size 340 (.slice a2 l2 c2) K2.out rfl _ Try.underlying33 rfl rfl ?_)
    | ((with_reducible refine at_load (.tmp 19) ?_); refine wpList_load_1 33 (.tmp 19) rfl w.heap.size 375 (.slice a3 l3 c3) K3.out rfl _ Try.underlying33 rfl rfl ?_)
    | ((with_reducible refine at_load (.tmp 26) ?_); refine wpList_load_1 40 (.tmp 26) rfl w.heap.size 409 (.slice a4 l4 c4) K4.out rfl _ Try.underlying40 rfl rfl ?_)
    | fail)
  go_ret
  exact tells_yes (E.out.2 ⟨N1.out, N2.out, N3.out, N4.out⟩) HB0.out

/-! ### Small operations -/
theorem fldB_few {d : OpD} (h : d.ok) (ht : ∀ x ∈ d.tl, 0 ≤ x ∧ x ≤ 18446744073709551615) (hs : LightD d) (he : fldE d = 0) : (fldB d).length ≤ 5000 := by
  obtain ⟨_, ok2, ok3, ok4, ok5, ok6, ok7, ok8, ok9⟩ := h
  obtain ⟨s1, s2, s3, s4⟩ := hs
  unfold fldB
  unfold fldE at he
  have u10 : ∀ x : Int, 0 ≤ x ∧ x ≤ 18446744073709551615 → (uenc x.toNat).length ≤ 10 := fun x hx => uenc_len10 (by omega)
  by_cases h2 : d.k = 2
  · rw [if_pos h2]; have := (byt_encs ok2).2; omega
  rw [if_neg h2]
  by_cases h3 : d.k = 3
  · rw [if_pos h3] at he ⊢
    have a1 := u10 _ ok3.1
    have a2 := CpD.encl ok3.2.2
    have a3 := lenc_len he (Nat.le_refl _) (by omega)
    have a4 : d.a.root.length = 32 := ok3.2.1.1
    simp only [AtP.d] at a1 a2
    unfold lenc
    simp only [List.length_append]
    omega
  rw [if_neg h3] at he ⊢
  have cl : ∀ c : ClP, (c.d (.slice none 0 0)).ok → vlE c.l 1024 = 0 → c.l.length ≤ 100 → ((c.d (.slice none 0 0)).enc c.l).length ≤ 1200 := fun c hc hv hl => by
    have a1 := u10 _ hc.1
    have a2 := u10 _ hc.2.1
    have a3 := lenc_len hv (Nat.le_refl _) (by omega)
    have a4 : c.root.length = 32 := hc.2.2.1
    simp only [ClP.d] at a1 a2
    simp only [ClD.enc, ClP.d, lenc, List.length_append]
    omega
  by_cases h4 : d.k = 4
  · rw [if_pos h4] at he ⊢
    obtain ⟨e1, e2⟩ := vls_two he
    have a1 := cl _ ok4 e1 s2
    have a2 := cl _ ok5 e2 s3
    rw [List.length_append]; omega
  rw [if_neg h4] at he ⊢
  by_cases h5 : d.k = 5
  · rw [if_pos h5]
    have a1 := CpD.encl ok6
    have a2 := tenc_len ht (Nat.le_refl _) (by omega)
    unfold tenc
    rw [List.length_append]; omega
  rw [if_neg h5] at he ⊢
  by_cases h6 : d.k = 6
  · rw [if_pos h6] at he ⊢
    have hk : ¬ (d.v.kind < 1 ∨ 4 < d.v.kind) := fun h => by rw [if_pos h] at he; cases he
    have a1 := u10 _ ok7.1
    have a2 := u10 d.v.kind (by omega)
    have a3 : d.v.latest.length = 32 := ok7.2.2.1
    simp only [VdD.enc, List.length_append]
    omega
  rw [if_neg h6] at he ⊢
  by_cases h8 : d.k = 8
  · rw [if_pos h8] at he ⊢
    have hk : ¬ (d.w < 0 ∨ 32768 < d.w ∨ d.p < 0 ∨ 32768 < d.p) := fun h => by rw [if_pos h] at he; cases he
    have a1 := u10 d.w (by omega)
    have a2 := u10 d.p (by omega)
    rw [List.length_append]; omega
  rw [if_neg h8]
  simp
theorem light_small {d : OpD} (h : LightD d) : SmallD d := ⟨by have := h.1; omega, by have := h.2.1; omega, by have := h.2.2.1; omega, by have := h.2.2.2; omega⟩
theorem opBy_few {d : OpD} (h : d.ok) (ht : ∀ x ∈ d.tl, 0 ≤ x ∧ x ≤ 18446744073709551615) (hs : LightD d) (he : opErr d = 0) : (opBy d).length ≤ 5010 := by
  have hf := opErr_fld he
  have hk := fldE_kind hf
  have h1 := uenc_len10 (n := d.k.toNat) (by omega)
  have h2 := fldB_few h ht hs hf
  unfold opBy
  rw [List.length_append]; omega
theorem good_pair {P Q : Value → Prop} {w : World} {X Y : Array Value} {d e : OpD} (hX : OpIn P w X d) (hY : OpIn Q w Y e) (h1 : LightD d) (h2 : LightD e) : GoodL [d, e] where
  small := by
    intro x hx
    simp only [List.mem_cons, List.not_mem_nil, or_false] at hx
    rcases hx with rfl | rfl
    · exact light_small h1
    · exact light_small h2
  fits := by
    intro k hk hz
    have e1 : 0 < k → (opBy d).length ≤ 5010 := fun h => opBy_few hX.ok hX.tl h1 (hz 0 (by simp) h)
    have e2 : 1 < k → (opBy e).length ≤ 5010 := fun h => opBy_few hY.ok hY.tl h2 (hz 1 (by simp) h)
    match k, hk with
    | 0, _ => simp [opsBy]
    | 1, _ => simp [opsBy]; have := e1 (by omega); omega
    | 2, _ => simp [opsBy]; have := e1 (by omega); have := e2 (by omega); omega

/-! ### The law -/
set_option maxRecDepth 100000 in
set_option maxHeartbeats 8000000 in
theorem ops_no1 (X Y : Array Value) (d e : OpD) (w : World) (hX : OpIn (fun _ => True) w X d) (hY : OpIn (fun _ => True) w Y e) (hL1 : ¬ LightD d) (hL2 : True) :
    Calls Try.prog 3 #[.agg X, .agg Y] w fun en w' => en = .returned (.bool true) ∧ Below w.heap.size w w' := by
  have hX0 := hX.size
  have hY0 := hY.size
  have HIX : Hid ((Try.prog.info? 48).map (·.size) = some X.size) := by show _ = _; rw [hX0]; exact info_op
  have HIY : Hid ((Try.prog.info? 48).map (·.size) = some Y.size) := by show _ = _; rw [hY0]; exact info_op
  have HXI := Lib.hid (fun u (hu : Below w.heap.size w u) => opE.below hX hu)
  have HYI := Lib.hid (fun u (hu : Below w.heap.size w u) => opE.below hY hu)
  have HB0 := Lib.hid (((Below.refl w.heap.size w).alloc (Nat.le_refl _) (.cells X 48)).alloc (by simp) (.cells Y 48))
  have B0X : Hid (Blk ((w.alloc (.cells X 48)).alloc (.cells Y 48)) w.heap.size X) := (Blk.new rfl).alloc _
  have B0Y : Hid (Blk ((w.alloc (.cells X 48)).alloc (.cells Y 48)) (w.heap.size + 1) Y) := Blk.new (by simp)
  have DX : Hid (∀ u, Below w.heap.size w u → Calls Try.prog 6 #[.agg X] u fun en u' => en = .returned (.bool false) ∧ Below u.heap.size u u') := fun u hu => (light_any _ X d u (HXI.out u hu)).mono fun _ _ h => tells_false h hL1
  clear hX hY hX0 hY0
  go_enter Try.func3, Try.ntmps3
  go_wp2_with (first
    | ((with_reducible refine at_load (.tmp 2) ?_); refine wpList_load_g 48 (.tmp 2) rfl w.heap.size rfl X _ B0X.out Try.underlying48 rfl HIX.out rfl ?_)
    | (go_at_call 6; refine (DX.out _ HB0.out).mono ?_; rintro en u1 ⟨rfl, hb⟩; have K1X := Lib.hid (B0X.out.call hb); have HB1 := Lib.hid (HB0.out.trans (hb.mono HB0.out.size)); clear hb)
    | (go_at_call 7; refine (awake6 _).mono ?_; rintro en u9 ⟨rfl, hb9⟩))
  go_ret
  exact ⟨rfl, HB1.out.trans (hb9.mono HB1.out.size)⟩

set_option maxRecDepth 100000 in
set_option maxHeartbeats 8000000 in
theorem ops_no2 (X Y : Array Value) (d e : OpD) (w : World) (hX : OpIn (fun _ => True) w X d) (hY : OpIn (fun _ => True) w Y e) (hL1 : LightD d) (hL2 : ¬ LightD e) :
    Calls Try.prog 3 #[.agg X, .agg Y] w fun en w' => en = .returned (.bool true) ∧ Below w.heap.size w w' := by
  have hX0 := hX.size
  have hY0 := hY.size
  have HIX : Hid ((Try.prog.info? 48).map (·.size) = some X.size) := by show _ = _; rw [hX0]; exact info_op
  have HIY : Hid ((Try.prog.info? 48).map (·.size) = some Y.size) := by show _ = _; rw [hY0]; exact info_op
  have HXI := Lib.hid (fun u (hu : Below w.heap.size w u) => opE.below hX hu)
  have HYI := Lib.hid (fun u (hu : Below w.heap.size w u) => opE.below hY hu)
  have HB0 := Lib.hid (((Below.refl w.heap.size w).alloc (Nat.le_refl _) (.cells X 48)).alloc (by simp) (.cells Y 48))
  have B0X : Hid (Blk ((w.alloc (.cells X 48)).alloc (.cells Y 48)) w.heap.size X) := (Blk.new rfl).alloc _
  have B0Y : Hid (Blk ((w.alloc (.cells X 48)).alloc (.cells Y 48)) (w.heap.size + 1) Y) := Blk.new (by simp)
  have DX : Hid (∀ u, Below w.heap.size w u → Calls Try.prog 6 #[.agg X] u fun en u' => en = .returned (.bool true) ∧ Below u.heap.size u u') := fun u hu => (light_any _ X d u (HXI.out u hu)).mono fun _ _ h => tells_true h hL1
  have DY : Hid (∀ u, Below w.heap.size w u → Calls Try.prog 6 #[.agg Y] u fun en u' => en = .returned (.bool false) ∧ Below u.heap.size u u') := fun u hu => (light_any _ Y e u (HYI.out u hu)).mono fun _ _ h => tells_false h hL2
  clear hX hY hX0 hY0
  go_enter Try.func3, Try.ntmps3
  go_wp2_with (first
    | ((with_reducible refine at_load (.tmp 2) ?_); refine wpList_load_g 48 (.tmp 2) rfl w.heap.size rfl X _ B0X.out Try.underlying48 rfl HIX.out rfl ?_)
    | ((with_reducible refine at_load (.tmp 3) ?_); refine wpList_load_g 48 (.tmp 3) rfl (w.heap.size + 1) rfl Y _ K1Y.out Try.underlying48 rfl HIY.out rfl ?_)
    | (go_at_call 6; refine (DY.out _ HB1.out).mono ?_; rintro en u2 ⟨rfl, hb⟩; have K2X := Lib.hid (K1X.out.call hb); have HB2 := Lib.hid (HB1.out.trans (hb.mono HB1.out.size)); clear hb)
    | (go_at_call 6; refine (DX.out _ HB0.out).mono ?_; rintro en u1 ⟨rfl, hb⟩; have K1X := Lib.hid (B0X.out.call hb); have K1Y := Lib.hid (B0Y.out.call hb); have HB1 := Lib.hid (HB0.out.trans (hb.mono HB0.out.size)); clear hb)
    | (go_at_call 7; refine (awake6 _).mono ?_; rintro en u9 ⟨rfl, hb9⟩))
  go_ret
  exact ⟨rfl, HB2.out.trans (hb9.mono HB2.out.size)⟩

set_option maxRecDepth 100000 in
set_option maxHeartbeats 8000000 in
theorem ops_yes (X Y : Array Value) (d e : OpD) (w : World) (hX : OpIn (fun _ => True) w X d) (hY : OpIn (fun _ => True) w Y e) (hL1 : LightD d) (hL2 : LightD e) :
    Calls Try.prog 3 #[.agg X, .agg Y] w fun en w' => en = .returned (.bool true) ∧ Below w.heap.size w w' := by
  have hX0 := hX.size
  have hY0 := hY.size
  have HIX : Hid ((Try.prog.info? 48).map (·.size) = some X.size) := by show _ = _; rw [hX0]; exact info_op
  have HIY : Hid ((Try.prog.info? 48).map (·.size) = some Y.size) := by show _ = _; rw [hY0]; exact info_op
  have HXI := Lib.hid (fun u (hu : Below w.heap.size w u) => opE.below hX hu)
  have HYI := Lib.hid (fun u (hu : Below w.heap.size w u) => opE.below hY hu)
  have HB0 := Lib.hid (((Below.refl w.heap.size w).alloc (Nat.le_refl _) (.cells X 48)).alloc (by simp) (.cells Y 48))
  have B0X : Hid (Blk ((w.alloc (.cells X 48)).alloc (.cells Y 48)) w.heap.size X) := (Blk.new rfl).alloc _
  have B0Y : Hid (Blk ((w.alloc (.cells X 48)).alloc (.cells Y 48)) (w.heap.size + 1) Y) := Blk.new (by simp)
  have DX : Hid (∀ u, Below w.heap.size w u → Calls Try.prog 6 #[.agg X] u fun en u' => en = .returned (.bool true) ∧ Below u.heap.size u u') := fun u hu => (light_any _ X d u (HXI.out u hu)).mono fun _ _ h => tells_true h hL1
  have DY : Hid (∀ u, Below w.heap.size w u → Calls Try.prog 6 #[.agg Y] u fun en u' => en = .returned (.bool true) ∧ Below u.heap.size u u') := fun u hu => (light_any _ Y e u (HYI.out u hu)).mono fun _ _ h => tells_true h hL2
  have hG := good_pair hX hY hL1 hL2
  have BB := Lib.hid (fun u => buildEl2 (P := Try.prog) Try.underlying56 zop_run info_op (OpD.size (kOp_ok (k := 0) (by unfold i64R; omega)) _ _ _ _) hX0 hY0 (by omega) (by omega) u)
  obtain ⟨E, HE⟩ : ∃ E, opsErr [d, e] = E := ⟨_, rfl⟩
  obtain ⟨zs, HZ⟩ : ∃ zs, (if E = 0 then opsBy [d, e] else []) = zs := ⟨_, rfl⟩
  obtain ⟨St, HST⟩ : ∃ St, Hid (strOfNums zs = St) := ⟨_, rfl⟩
  obtain ⟨EV, HEV⟩ : ∃ E, opErr d = E := ⟨_, rfl⟩
  have DE : Hid (∀ u, Below w.heap.size w u → Calls Try.prog 8 #[.slice (some ⟨u.heap.size, 0, none⟩) 2 2] (u.alloc (.cells (X ++ Y) 48)) fun en u' => ∃ v, en = .returned (.tuple #[v, .int .i64 E]) ∧ Byt u' v zs ∧ Below (u.alloc (.cells (X ++ Y) 48)).heap.size (u.alloc (.cells (X ++ Y) 48)) u') := fun u hu => by
    have := enc_any _ _ _ (elV_two (HXI.out u hu) (HYI.out u hu) 48) hG
    unfold EncL EncR at this
    rw [if_neg (by simp), HE, HZ] at this
    exact this
  have DF : Hid (∀ u, Below w.heap.size w u → Calls Try.prog 9 #[.slice (some ⟨u.heap.size, 0, none⟩) 2 2] (u.alloc (.cells (X ++ Y) 48)) fun en u' => ∃ v, en = .returned (.tuple #[v, .int .i64 E]) ∧ Byt u' v zs ∧ Below (u.alloc (.cells (X ++ Y) 48)).heap.size (u.alloc (.cells (X ++ Y) 48)) u') := fun u hu => by
    have := renc_ops _ _ _ (elV_two (HXI.out u hu) (HYI.out u hu) 48) hG
    unfold EncL EncR at this
    rw [if_neg (by simp), HE, HZ] at this
    exact this
  have DV : Hid (∀ u, Below w.heap.size w u → Calls Try.prog 10 #[.agg X] u fun en u' => en = .returned (.int .i64 EV) ∧ Below u.heap.size u u') := fun u hu => by rw [← HEV]; exact val_any _ X d u (HXI.out u hu) (light_small hL1)
  have DW : Hid (∀ u, Below w.heap.size w u → Calls Try.prog 11 #[.agg X] u fun en u' => en = .returned (.int .i64 EV) ∧ Below u.heap.size u u') := fun u hu => by rw [← HEV]; exact vo_any _ X d u (HXI.out u hu) (light_small hL1)
  clear hX hY hX0 hY0 hG HE HZ HEV hL1 hL2
  go_enter Try.func3, Try.ntmps3
  go_wp2_with (first
    | ((with_reducible refine at_load (.tmp 2) ?_); refine wpList_load_g 48 (.tmp 2) rfl w.heap.size rfl X _ K3X.out Try.underlying48 rfl HIX.out rfl ?_)
    | ((with_reducible refine at_load (.tmp 2) ?_); refine wpList_load_g 48 (.tmp 2) rfl w.heap.size rfl X _ K2X.out Try.underlying48 rfl HIX.out rfl ?_)
    | ((with_reducible refine at_load (.tmp 2) ?_); refine wpList_load_g 48 (.tmp 2) rfl w.heap.size rfl X _ B0X.out Try.underlying48 rfl HIX.out rfl ?_)
    | ((with_reducible refine at_load (.tmp 3) ?_); refine wpList_load_g 48 (.tmp 3) rfl (w.heap.size + 1) rfl Y _ K3Y.out Try.underlying48 rfl HIY.out rfl ?_)
    | ((with_reducible refine at_load (.tmp 3) ?_); refine wpList_load_g 48 (.tmp 3) rfl (w.heap.size + 1) rfl Y _ K2Y.out Try.underlying48 rfl HIY.out rfl ?_)
    | ((with_reducible refine at_load (.tmp 3) ?_); refine wpList_load_g 48 (.tmp 3) rfl (w.heap.size + 1) rfl Y _ K1Y.out Try.underlying48 rfl HIY.out rfl ?_)
    | ((with_reducible refine at_buildSliceE (some 21) ?_); refine wpList_buildSliceE rfl 56 2 _ rfl #[(0, .agg X), (1, .agg Y)] (by simp [Act.eval, Act.put]) _ (BB.out _) ?_)
    | ((with_reducible refine at_buildSliceE (some 28) ?_); refine wpList_buildSliceE rfl 56 2 _ rfl #[(0, .agg X), (1, .agg Y)] (by simp [Act.eval, Act.put]) _ (BB.out _) ?_)
    | (go_at_call 6; refine (DY.out _ HB1.out).mono ?_; rintro en u2 ⟨rfl, hb⟩; have K2X := Lib.hid (K1X.out.call hb); have K2Y := Lib.hid (K1Y.out.call hb); have HB2 := Lib.hid (HB1.out.trans (hb.mono HB1.out.size)); clear hb)
    | (go_at_call 6; refine (DX.out _ HB0.out).mono ?_; rintro en u1 ⟨rfl, hb⟩; have K1X := Lib.hid (B0X.out.call hb); have K1Y := Lib.hid (B0Y.out.call hb); have HB1 := Lib.hid (HB0.out.trans (hb.mono HB0.out.size)); clear hb)
    | (go_at_call 8; refine (DE.out _ HB2.out).mono ?_; rintro en w1 ⟨v1, rfl, hy1, hb⟩; have K3X := Lib.hid ((K2X.out.alloc _).call hb); have K3Y := Lib.hid ((K2Y.out.alloc _).call hb); have HY1 := Lib.hid hy1; have HB3 := Lib.hid ((HB2.out.alloc HB2.out.size _).trans (hb.mono (HB2.out.alloc HB2.out.size _).size)); clear hb hy1)
    | (go_at_call 9; refine (DF.out _ HB3.out).mono ?_; rintro en w2 ⟨v2, rfl, hy2, hb⟩; have K4X := Lib.hid ((K3X.out.alloc _).call hb); have HY2 := Lib.hid hy2; have HY3 := Lib.hid ((HY1.out.below ((Below.refl _ _).alloc (Nat.le_refl _) _)).below hb); have HB4 := Lib.hid ((HB3.out.alloc HB3.out.size _).trans (hb.mono (HB3.out.alloc HB3.out.size _).size)); clear hb hy2))
  refine wp_region_fam2 (by kernel_rfl) (by kernel_rfl) ?_
  intro T F hT hF hG
  have CX : ∀ u, (∃ t, u = F t) → Blk u w.heap.size X := by rintro _ ⟨t, rfl⟩; exact K4X.out.call (hF t)
  have HBF : Hid (∀ t, Below w.heap.size w (F t)) := fun t => HB4.out.trans ((hF t).mono HB4.out.size)
  have cv1 : ∀ t, (convert 51 9 v1).run Try.prog (F t) = .ok (.string St) (F t) := fun t => by rw [← HST.out]; exact conv_any (HY3.out.below (hF t))
  have cv2 : ∀ t, (convert 51 9 v2).run Try.prog (F t) = .ok (.string St) (F t) := fun t => by rw [← HST.out]; exact conv_any (HY2.out.below (hF t))
  repeat (first
    | ((with_reducible refine at_qload (.tmp 2) ?_); refine wpQuiet_load 48 _ rfl w.heap.size rfl X CX Try.underlying48 rfl HIX.out (by kernel_rfl) ?_; simp only [Act.put, List.setIfInBounds_toArray, List.set_cons_succ, List.set_cons_zero])
    | (go_big_quiet_step ((first
        | (go_at_call 10; exact fam_call hF hG (Nat.le_refl _) (DV.out _ (HBF.out _)))
        | (go_at_call 11; exact fam_call hF hG (Nat.le_refl _) (DW.out _ (HBF.out _)))
        | (go_at_call 7; exact fam_call hF hG (Nat.le_refl _) (awake6 _))))))
  refine wpQuiet_nil ?_
  rintro _ ⟨t, rfl⟩
  go_wp2_with fail
  go_ret
  exact ⟨rfl, HBF.out t⟩

theorem walk_ScriptOps (X0 : Array Value) (a0 : OpD) (X1 : Array Value) (a1 : OpD) (w : World) (w0 : OpIn (fun _ => True) w X0 a0) (w1 : OpIn (fun _ => True) w X1 a1) :
    Calls Try.prog 3 #[.agg X0, .agg X1] w fun e w' => e = .returned (.bool true) ∧ Below w.heap.size w w' := by
  by_cases h0 : LightD a0
  · by_cases h1 : LightD a1
    · exact ops_yes X0 X1 a0 a1 w w0 w1 h0 h1
    · exact ops_no2 X0 X1 a0 a1 w w0 w1 h0 h1
  · exact ops_no1 X0 X1 a0 a1 w w0 w1 h0 trivial
end

/-! OpenP -/
section
set_option linter.unusedVariables false
set_option maxRecDepth 100000
open Go.RowKit Go.ChangeShapes Go.WideShapes

section
variable {H : Type} {enc : TypeId × Value → H} {w : World} {base : Nat} {sp : Nat → Bool} {held : Bool}

theorem trod_block {fuel : Nat} {cs : List Value} {x : DataW H × List MemPlace} (hf : DataW.trod enc Try.prog w base sp held fuel 32 cs = some x) : ∃ x : BkD, x.ok ∧ cs = x.parts.flatten := by
  have hl : cs.length = 238 := trod_len Try.underlying32 hf (by kernel_rfl)
  obtain ⟨_, _, h0⟩ := trod_field Try.underlying32 hf 0 _ 0 66 rfl rfl rfl (by kernel_rfl)
  obtain ⟨_, _, h1⟩ := trod_field Try.underlying32 hf 1 _ 66 1 rfl rfl rfl (by kernel_rfl)
  obtain ⟨_, _, h2⟩ := trod_field Try.underlying32 hf 2 _ 67 32 rfl rfl rfl (by kernel_rfl)
  obtain ⟨_, _, h3⟩ := trod_field Try.underlying32 hf 3 _ 99 32 rfl rfl rfl (by kernel_rfl)
  obtain ⟨_, _, h4⟩ := trod_field Try.underlying32 hf 4 _ 131 32 rfl rfl rfl (by kernel_rfl)
  obtain ⟨_, _, h5⟩ := trod_field Try.underlying32 hf 5 _ 163 4 rfl rfl rfl (by kernel_rfl)
  obtain ⟨_, _, h6⟩ := trod_field Try.underlying32 hf 6 _ 167 4 rfl rfl rfl (by kernel_rfl)
  obtain ⟨_, _, h7⟩ := trod_field Try.underlying32 hf 7 _ 171 33 rfl rfl rfl (by kernel_rfl)
  obtain ⟨_, _, h8⟩ := trod_field Try.underlying32 hf 8 _ 204 33 rfl rfl rfl (by kernel_rfl)
  obtain ⟨_, _, h9⟩ := trod_field Try.underlying32 hf 9 _ 237 1 rfl rfl rfl (by kernel_rfl)
  have hl0 : ((cs.drop 0).take 66).length = 66 := by simp; omega
  obtain ⟨_, _, ha⟩ := trod_field Try.underlying28 h0 0 _ 0 33 rfl rfl rfl (by kernel_rfl)
  obtain ⟨_, _, hb⟩ := trod_field Try.underlying28 h0 1 _ 33 33 rfl rfl rfl (by kernel_rfl)
  obtain ⟨pj, kpj, epj⟩ := trod_cp ha
  obtain ⟨pf, kpf, epf⟩ := trod_cp hb
  obtain ⟨sl, ksl, esl⟩ := trod_u64 h1
  obtain ⟨r1, kr1, er1⟩ := trod_bytes32 Try.underlying24 (by kernel_rfl) h2
  obtain ⟨r2, kr2, er2⟩ := trod_bytes32 Try.underlying24 (by kernel_rfl) h3
  obtain ⟨r3, kr3, er3⟩ := trod_bytes32 Try.underlying24 (by kernel_rfl) h4
  obtain ⟨d1, kd1, ed1⟩ := trod_wide h5
  obtain ⟨d2, kd2, ed2⟩ := trod_wide h6
  obtain ⟨j, kj, ej⟩ := trod_cp h7
  obtain ⟨f, kf, ef⟩ := trod_cp h8
  obtain ⟨b, eb, _⟩ := DataW.trod_bool Try.underlying4 h9
  refine ⟨⟨pj, pf, sl, r1, r2, r3, d1, d2, j, f, b⟩, ⟨kpj, kpf, ksl, kr1, kr2, kr3, kd1, kd2, kj, kf⟩, ?_⟩
  have hp : (cs.drop 0).take 66 = pj.cells ++ (pf.cells ++ []) := by
    have e : (cs.drop 0).take 66 = ((cs.drop 0).take 66).drop 0 := rfl
    rw [e, cut_at ((cs.drop 0).take 66) 0 33 33 rfl, cut_at ((cs.drop 0).take 66) 33 33 66 rfl, List.drop_eq_nil_of_le (i := 66) (by omega), epj, epf]
  have e : cs = cs.drop 0 := rfl
  have hc : cs = pj.cells ++ (pf.cells ++ []) ++ ([.int .u64 sl] ++ (bytesL r1 ++ (bytesL r2 ++ (bytesL r3 ++ (wideL d1 ++ (wideL d2 ++ (j.cells ++ (f.cells ++ ([.bool b] ++ []))))))))) := by
    rw [e, cut_at cs 0 66 66 rfl, cut_at cs 66 1 67 rfl, cut_at cs 67 32 99 rfl, cut_at cs 99 32 131 rfl, cut_at cs 131 32 163 rfl, cut_at cs 163 4 167 rfl, cut_at cs 167 4 171 rfl, cut_at cs 171 33 204 rfl, cut_at cs 204 33 237 rfl, cut_at cs 237 1 238 rfl,
      List.drop_eq_nil_of_le (i := 238) (by omega), hp, esl, er1, er2, er3, ed1, ed2, ej, ef, eb]
  rw [hc]
  simp [BkD.parts]

theorem trod_attestation {fuel : Nat} {cs : List Value} {x : DataW H × List MemPlace} (hf : DataW.trod enc Try.prog w base sp held fuel 35 cs = some x) : ∃ (x : AtD) (l : List Int), x.ok ∧ IntsV w x.v l ∧ cs = x.parts.flatten := by
  have hl : cs.length = 67 := trod_len Try.underlying35 hf (by kernel_rfl)
  obtain ⟨_, _, h0⟩ := trod_field Try.underlying35 hf 0 _ 0 1 rfl rfl rfl (by kernel_rfl)
  obtain ⟨_, _, h1⟩ := trod_field Try.underlying35 hf 1 _ 1 32 rfl rfl rfl (by kernel_rfl)
  obtain ⟨_, _, h2⟩ := trod_field Try.underlying35 hf 2 _ 33 33 rfl rfl rfl (by kernel_rfl)
  obtain ⟨_, _, h3⟩ := trod_field Try.underlying35 hf 3 _ 66 1 rfl rfl rfl (by kernel_rfl)
  obtain ⟨sl, ksl, esl⟩ := trod_u64 h0
  obtain ⟨r1, kr1, er1⟩ := trod_bytes32 Try.underlying24 (by kernel_rfl) h1
  obtain ⟨c, kc, ec⟩ := trod_cp h2
  obtain ⟨v, l, hi, ev, hw⟩ := trod_ints Try.underlying33 Try.underlying3 (by kernel_rfl) h3
  refine ⟨⟨sl, r1, c, v⟩, l, ⟨ksl, kr1, kc⟩, ⟨hi, fun x hx => wf_i64 (hw x hx)⟩, ?_⟩
  have e : cs = cs.drop 0 := rfl
  rw [e, cut_at cs 0 1 1 rfl, cut_at cs 1 32 33 rfl, cut_at cs 33 33 66 rfl, cut_at cs 66 1 67 rfl, List.drop_eq_nil_of_le (i := 67) (by omega), esl, er1, ec, ev]
  simp [AtD.parts]

theorem trod_slashing {fuel : Nat} {cs : List Value} {x : DataW H × List MemPlace} (hf : DataW.trod enc Try.prog w base sp held fuel 39 cs = some x) : ∃ (x y : ClD) (l m : List Int), x.ok ∧ y.ok ∧ IntsV w x.v l ∧ IntsV w y.v m ∧ cs = [x.cells, y.cells].flatten := by
  have hl : cs.length = 70 := trod_len Try.underlying39 hf (by kernel_rfl)
  obtain ⟨_, _, h0⟩ := trod_field Try.underlying39 hf 0 _ 0 35 rfl rfl rfl (by kernel_rfl)
  obtain ⟨_, _, h1⟩ := trod_field Try.underlying39 hf 1 _ 35 35 rfl rfl rfl (by kernel_rfl)
  obtain ⟨x, l, hx, hl1, ex⟩ := trod_claim h0
  obtain ⟨y, m, hy, hm1, ey⟩ := trod_claim h1
  refine ⟨x, y, l, m, hx, hy, hl1, hm1, ?_⟩
  have e : cs = cs.drop 0 := rfl
  rw [e, cut_at cs 0 35 35 rfl, cut_at cs 35 35 70 rfl, List.drop_eq_nil_of_le (i := 70) (by omega), ex, ey]
  simp

theorem trod_table {fuel : Nat} {cs : List Value} {x : DataW H × List MemPlace} (hf : DataW.trod enc Try.prog w base sp held fuel 42 cs = some x) : ∃ (x : TbD) (l : List Int), x.cp.ok ∧ NumsV w x.v l ∧ cs = x.parts.flatten := by
  have hl : cs.length = 34 := trod_len Try.underlying42 hf (by kernel_rfl)
  obtain ⟨_, _, h0⟩ := trod_field Try.underlying42 hf 0 _ 0 33 rfl rfl rfl (by kernel_rfl)
  obtain ⟨_, _, h1⟩ := trod_field Try.underlying42 hf 1 _ 33 1 rfl rfl rfl (by kernel_rfl)
  obtain ⟨c, kc, ec⟩ := trod_cp h0
  obtain ⟨v, l, hi, ev, hw⟩ := trod_ints Try.underlying40 Try.underlying22 (by kernel_rfl) h1
  refine ⟨⟨c, v⟩, l, kc, ⟨hi, fun x hx => wf_u64 (hw x hx)⟩, ?_⟩
  have e : cs = cs.drop 0 := rfl
  rw [e, cut_at cs 0 33 33 rfl, cut_at cs 33 1 34 rfl, List.drop_eq_nil_of_le (i := 34) (by omega), ec, ev]
  simp [TbD.parts]

theorem trod_verdict {fuel : Nat} {cs : List Value} {x : DataW H × List MemPlace} (hf : DataW.trod enc Try.prog w base sp held fuel 46 cs = some x) : ∃ x : VdD, x.ok ∧ cs = x.parts.flatten := by
  have hl : cs.length = 34 := trod_len Try.underlying46 hf (by kernel_rfl)
  obtain ⟨_, _, h0⟩ := trod_field Try.underlying46 hf 0 _ 0 1 rfl rfl rfl (by kernel_rfl)
  obtain ⟨_, _, h1⟩ := trod_field Try.underlying46 hf 1 _ 1 1 rfl rfl rfl (by kernel_rfl)
  obtain ⟨_, _, h2⟩ := trod_field Try.underlying46 hf 2 _ 2 32 rfl rfl rfl (by kernel_rfl)
  obtain ⟨_, _, h00⟩ := trod_field Try.underlying44 h0 0 _ 0 1 rfl rfl rfl (by kernel_rfl)
  obtain ⟨n, kn, en⟩ := trod_u64 h00
  obtain ⟨k, ek, _, wk⟩ := DataW.trod_int Try.underlying3 h1
  obtain ⟨r1, kr1, er1⟩ := trod_bytes32 Try.underlying24 (by kernel_rfl) h2
  refine ⟨⟨n, k, r1⟩, ⟨kn, wf_i64 wk, kr1⟩, ?_⟩
  have e : cs = cs.drop 0 := rfl
  have en' : (cs.drop 0).take 1 = [.int .u64 n] := by
    rw [← en]; simp [List.take_take]
  rw [e, cut_at cs 0 1 1 rfl, cut_at cs 1 1 2 rfl, cut_at cs 2 32 34 rfl, List.drop_eq_nil_of_le (i := 34) (by omega), en', ek, er1]
  simp [VdD.parts]

theorem open_op {r : Reach} {base' : Nat} {v : Value} {d : DataW H} {p : List MemPlace} (hv : Value.okWide Try.prog w r base' 48 v) (h : DataW.Trod enc Try.prog w base sp held 48 v d p) :
    ∃ (X : Array Value) (x : OpD), OpIn (fun _ => True) w X x ∧ v = .agg X := by
  obtain ⟨cs, fuel, rfl, hf⟩ := open_struct Try.underlying48 hv h
  obtain ⟨cs⟩ := cs
  simp only at hf
  have hl : cs.length = 446 := trod_len Try.underlying48 hf (by kernel_rfl)
  obtain ⟨_, _, h0⟩ := trod_field Try.underlying48 hf 0 _ 0 1 rfl rfl rfl (by kernel_rfl)
  obtain ⟨_, _, h1⟩ := trod_field Try.underlying48 hf 1 _ 1 238 rfl rfl rfl (by kernel_rfl)
  obtain ⟨_, _, h2⟩ := trod_field Try.underlying48 hf 2 _ 239 67 rfl rfl rfl (by kernel_rfl)
  obtain ⟨_, _, h3⟩ := trod_field Try.underlying48 hf 3 _ 306 70 rfl rfl rfl (by kernel_rfl)
  obtain ⟨_, _, h4⟩ := trod_field Try.underlying48 hf 4 _ 376 34 rfl rfl rfl (by kernel_rfl)
  obtain ⟨_, _, h5⟩ := trod_field Try.underlying48 hf 5 _ 410 34 rfl rfl rfl (by kernel_rfl)
  obtain ⟨_, _, h6⟩ := trod_field Try.underlying48 hf 6 _ 444 1 rfl rfl rfl (by kernel_rfl)
  obtain ⟨_, _, h7⟩ := trod_field Try.underlying48 hf 7 _ 445 1 rfl rfl rfl (by kernel_rfl)
  obtain ⟨K, eK, _, wK⟩ := DataW.trod_int Try.underlying3 h0
  obtain ⟨b, kb, eb⟩ := trod_block h1
  obtain ⟨a, la, ka, ia, ea⟩ := trod_attestation h2
  obtain ⟨c1, c2, l1, l2, k1, k2, i1, i2, ec⟩ := trod_slashing h3
  obtain ⟨t, lt, kt, it, et⟩ := trod_table h4
  obtain ⟨vd, kv, ev⟩ := trod_verdict h5
  obtain ⟨W, eW, _, wW⟩ := DataW.trod_int Try.underlying3 h6
  obtain ⟨P, eP, _, wP⟩ := DataW.trod_int Try.underlying3 h7
  obtain ⟨aS, ar, ac, av⟩ := a
  obtain ⟨s1, t1, r1, v1⟩ := c1
  obtain ⟨s2, t2, r2, v2⟩ := c2
  obtain ⟨tc, tv⟩ := t
  refine ⟨_, ⟨K, b, ⟨aS, ar, ac, la⟩, ⟨s1, t1, r1, l1⟩, ⟨s2, t2, r2, l2⟩, tc, lt, vd, W, P⟩, ⟨av, v1, v2, tv, ?_, ⟨wf_i64 wK, kb, ka, k1, k2, kt, kv, wf_i64 wW, wf_i64 wP⟩, ⟨ia, trivial⟩, ⟨i1, trivial⟩, ⟨i2, trivial⟩, ⟨it, trivial⟩⟩, rfl⟩
  have e : cs = cs.drop 0 := rfl
  have hc : cs = [.int .i64 K] ++ (b.parts.flatten ++ ((AtD.mk aS ar ac av).parts.flatten ++ ([(ClD.mk s1 t1 r1 v1).cells, (ClD.mk s2 t2 r2 v2).cells].flatten ++ ((TbD.mk tc tv).parts.flatten ++ (vd.parts.flatten ++ ([.int .i64 W] ++ ([.int .i64 P] ++ []))))))) := by
    rw [e, cut_at cs 0 1 1 rfl, cut_at cs 1 238 239 rfl, cut_at cs 239 67 306 rfl, cut_at cs 306 70 376 rfl, cut_at cs 376 34 410 rfl, cut_at cs 410 34 444 rfl, cut_at cs 444 1 445 rfl, cut_at cs 445 1 446 rfl,
      List.drop_eq_nil_of_le (i := 446) (by omega), eK, eb, ea, ec, et, ev, eW, eP]
  rw [hc]
  simp [flatP, OpD.parts, AtP.d, ClP.d, TbD.parts]
end
end

end Go.Proofs.Ytmnojgdfbhdkhaa
