/- The law's awake of stage 8. -/
import Derived.Test.YtoebkgjlehhbpaaVoD
set_option linter.unusedVariables false

set_option linter.unusedSimpArgs false
namespace Go.Proofs.Ytoebkgjlehhbpaa
open Go.RowKit

set_option maxRecDepth 100000

/-- A field of a struct that is an array or a struct itself, and one that is not. -/
theorem run_field_row {P : Program} {t : TypeId} {fs : Array Field} {f : Field} {d : TypeDesc} {i n : Nat} (hu : P.underlying t = some (.struct fs)) (hf : fs[i]? = some f) (hd : P.underlying f.type = some d) (hr : d.isRow = true) (hi : (P.info? f.type).map (·.size) = some n) (cs : Array Value) (w : World) :
    (Instr.field t (.agg cs) i).run P w = .ok (.agg (cs.extract f.offset (f.offset + n))) w := by
  have hagg : (isAgg f.type).run P w = .ok true w := by
    unfold isAgg
    rw [Sem.run_bind, run_underlying hd w]
    cases d <;> simp_all [TypeDesc.isRow]
  obtain ⟨ti, hi1, hi2⟩ := Option.map_eq_some_iff.1 hi
  have hso : (sizeOf f.type).run P w = .ok n w := by simp [sizeOf, typeInfo, hi1, hi2]
  simp [Instr.field, run_underlying hu, hf, part, hagg, hso, asAgg]

theorem run_field_one {P : Program} {t : TypeId} {fs : Array Field} {f : Field} {d : TypeDesc} {i : Nat} (hu : P.underlying t = some (.struct fs)) (hf : fs[i]? = some f) (hd : P.underlying f.type = some d) (hr : d.isRow = false) (cs : Array Value) {v : Value} (hv : cs[f.offset]? = some v) (w : World) :
    (Instr.field t (.agg cs) i).run P w = .ok v w := by
  have hagg : (isAgg f.type).run P w = .ok false w := by
    unfold isAgg
    rw [Sem.run_bind, run_underlying hd w]
    cases d <;> simp_all [TypeDesc.isRow]
  simp [Instr.field, run_underlying hu, hf, part, hagg, hv, asAgg]

theorem field_root {v : VoD} (h : v.ok) (w : World) : (Instr.field 33 (.agg v.cells.toArray) 2).run Try.prog w = .ok (.agg (bytesL v.r).toArray) w := by
  have := run_field_row (P := Try.prog) (i := 2) (n := 32) Try.underlying33 rfl Try.underlying31 rfl (by kernel_rfl) v.cells.toArray w
  rw [this]
  have hl := VoD.len h
  congr 2
  apply Array.toList_inj.1
  simp only [Array.toList_extract, List.extract_eq_take_drop]
  show (v.cells.drop 2).take 32 = bytesL v.r
  show (bytesL v.r).take 32 = bytesL v.r
  rw [List.take_of_length_le (by rw [bytesL_len h.2.2]; omega)]

theorem field_has (v : VoD) (w : World) : (Instr.field 33 (.agg v.cells.toArray) 0).run Try.prog w = .ok (.bool v.has) w :=
  run_field_one (P := Try.prog) (i := 0) Try.underlying33 rfl Try.underlying4 rfl v.cells.toArray rfl w

theorem ints_two {w : World} {g : Nat} {x y : Int} {k : Nat} (h : Blk w g #[.int .i64 x, .int .i64 y]) (hx : -9223372036854775808 ≤ x ∧ x ≤ 9223372036854775807) (hy : -9223372036854775808 ≤ y ∧ y ≤ 9223372036854775807) : IntsV w (.slice (some ⟨g, 0, none⟩) 2 k) [x, y] := by
  refine ⟨⟨_, 2, _, rfl, rfl, by unfold maxLen; omega, .inr ⟨g, 0, rfl, h.lt, fun i hi => ?_⟩⟩, fun z hz => by simp at hz; rcases hz with rfl | rfl; exact hx; exact hy⟩
  rw [Nat.zero_add, h.cell]
  rcases i with _ | _ | i
  · rfl
  · rfl
  · omega

theorem ints_1 {w : World} {g : Nat} {x : Int} {k : Nat} (h : Blk w g #[.int .i64 x]) (hx : -9223372036854775808 ≤ x ∧ x ≤ 9223372036854775807) : IntsV w (.slice (some ⟨g, 0, none⟩) 1 k) [x] := by
  refine ⟨⟨_, 1, _, rfl, rfl, by unfold maxLen; omega, .inr ⟨g, 0, rfl, h.lt, fun i hi => ?_⟩⟩, fun z hz => by simp at hz; rcases hz with rfl; exact hx⟩
  rw [Nat.zero_add, h.cell]
  rcases i with _ | i
  · rfl
  · omega

theorem off_new {g a l c : Nat} (h : a ≠ g) : Off g (.slice (some ⟨a, 0, none⟩) l c) := fun z l' c' e _ => by cases e; exact h

def thirdV (r1 r2 : List Int) : List VoD := [⟨true, 3, r1⟩, ⟨true, 3, r1⟩, ⟨true, 3, r2⟩]

theorem cast_first (r : List Int) : castR (List.replicate 3 zeV) 3 r [0, 1] = ([⟨true, 3, r⟩, ⟨true, 3, r⟩, zeV], 2) ∧ vlE [0, 1] (List.replicate 3 zeV).length = 0 := ⟨rfl, rfl⟩

theorem cast_second (r r2 : List Int) : castR [⟨true, 3, r⟩, ⟨true, 3, r⟩, zeV] 3 r2 [1, 2] = (thirdV r r2, 1) ∧ vlE [1, 2] [⟨true, 3, r⟩, ⟨true, 3, r⟩, zeV].length = 0 := ⟨rfl, rfl⟩

/-- Cast where its results are known. -/
theorem cast_to (b g : Nat) (vs vs' : List VoD) (e c x : Int) (r : List Int) (v : Value) (l : List Int) (w : World) (hC : castR vs e r l = (vs', c) ∧ vlE l vs.length = x) (hV : VtI w b g vs) (he : 0 ≤ e ∧ e ≤ 18446744073709551615) (hr : IsBytes 32 r) (hI : IntsV w v l) (hO : Off g v) :
    Calls Try.prog 14 #[.pointer (some ⟨b, 0, none⟩), .int .u64 e, .agg (bytesL r).toArray, v] w fun en w' => en = .returned (.tuple #[.int .i64 c, .int .i64 x]) ∧ VtI w' b g vs' ∧ w.grownBy w' (some g) := by
  refine (cast_any b g vs e r v l w hV he hr hI hO).mono ?_
  rintro en w' ⟨h1, h2, h3⟩
  rw [hC.1] at h1 h2
  rw [hC.2] at h1
  exact ⟨h1, h2, h3⟩

theorem below_row {N g : Nat} {w0 w w' : World} (h : Below N w0 w) (hg : w.grownBy w' (some g)) (hN : N ≤ g) (hs : N ≤ w.heap.size) : Below N w0 w' :=
  ⟨hg.os.trans h.os, hg.tape.trans h.tape, hg.output.trans h.output, Nat.le_trans h.size hg.size, fun k hk => (hg.block k (by omega) (by simp; omega)).trans (h.block k hk)⟩

theorem vote_at (b g : Nat) (vs : List VoD) (i : Nat) (d : VoD) (w : World) (hd : vs.getD i zeV = d) (hV : VtI w b g vs) (hi : (i : Int) ≤ 9223372036854775807) :
    Calls Try.prog 10 #[.pointer (some ⟨b, 0, none⟩), .int .i64 i] w fun e w' => e = .returned (.agg d.cells.toArray) ∧ Below w.heap.size w w' := by
  have := vote_any b g vs i w hV (by omega)
  rw [voteV_nat, hd] at this
  exact this

set_option maxHeartbeats 4000000 in
theorem awake8_any (w : World) : Calls Try.prog 8 #[] w fun e w' => e = .returned (.bool true) ∧ Below w.heap.size w w' := by
  have HN := Lib.hid (vnew_ok 3 w (by omega))
  have HRK := Lib.hid root_k
  obtain ⟨r1, hr1⟩ : ∃ r, rootK 1 = r := ⟨_, rfl⟩
  obtain ⟨r2, hr2⟩ : ∃ r, rootK 2 = r := ⟨_, rfl⟩
  have HI1 : Hid (IsBytes 32 r1) := by show IsBytes 32 r1; rw [← hr1]; exact rootK_is 1
  have HI2 : Hid (IsBytes 32 r2) := by show IsBytes 32 r2; rw [← hr2]; exact rootK_is 2
  have HV1 : Hid ((⟨true, 3, r1⟩ : VoD).ok) := ⟨by show (0 : Int) ≤ 3; omega, by show (3 : Int) ≤ _; omega, HI1.out⟩
  have HV2 : Hid ((⟨true, 3, r2⟩ : VoD).ok) := ⟨by show (0 : Int) ≤ 3; omega, by show (3 : Int) ≤ _; omega, HI2.out⟩
  have F1 := fun u => field_root HV1.out u
  have F2 := fun u => field_root HV2.out u
  have E1 := fun u => eq_bytes32 HI1.out u
  have E2 := fun u => eq_bytes32 HI2.out u
  have HC1 := Lib.hid (fun b g v u => cast_to b g (List.replicate 3 zeV) _ 3 _ _ r1 v [0, 1] u (cast_first r1))
  have HC2 := Lib.hid (fun b g v u => cast_to b g _ _ 3 _ _ r2 v [1, 2] u (cast_second r1 r2))
  have HA1 := Lib.hid (fun b g u => vote_at b g (thirdV r1 r2) 1 ⟨true, 3, r1⟩ u rfl)
  have HA2 := Lib.hid (fun b g u => vote_at b g (thirdV r1 r2) 2 ⟨true, 3, r2⟩ u rfl)
  simp only at F1 F2
  obtain ⟨C1, hC1⟩ : ∃ C, (⟨true, 3, r1⟩ : VoD).cells.toArray = C := ⟨_, rfl⟩
  obtain ⟨C2, hC2⟩ : ∃ C, (⟨true, 3, r2⟩ : VoD).cells.toArray = C := ⟨_, rfl⟩
  rw [hC1] at F1 HA1
  rw [hC2] at F2 HA2
  obtain ⟨XK, hXK⟩ : ∃ XK : Int → Array Value, ∀ k, (bytesL (rootK k)).toArray = XK k := ⟨_, fun _ => rfl⟩
  have hX1 : (bytesL r1).toArray = XK 1 := by rw [← hr1]; exact hXK 1
  have hX2 : (bytesL r2).toArray = XK 2 := by rw [← hr2]; exact hXK 2
  have HRX : Hid (∀ k u, Calls Try.prog 12 #[.int .i64 k] u fun e w' => e = .returned (.agg (XK k)) ∧ Below u.heap.size u w') := fun k u => by rw [← hXK k]; exact HRK.out k u
  rw [hX1] at F1 E1 HC1
  rw [hX2] at F2 E2 HC2
  clear hr1 hr2 hC1 hC2 hX1 hX2 hXK HRK
  go_enter Try.func8, Try.ntmps8
  go_wp2_with (first
    | (go_at_call 12; refine (HRX.out _ _).mono ?_; rintro e w11 ⟨rfl, hb11⟩; have HB11 := Lib.hid (HB10.out.trans (hb11.mono HB10.out.size)); clear hb11)
    | (go_at_call 10; refine (HA2.out _ _ _ HK9.out (by omega)).mono ?_; rintro e w10 ⟨rfl, hb10⟩; have HK10 := Lib.hid (HK9.out.call hb10); have HB10 := Lib.hid (HB9.out.trans (hb10.mono HB9.out.size)); clear hb10)
    | (go_at_call 12; refine (HRX.out _ _).mono ?_; rintro e w9 ⟨rfl, hb9⟩; have HK9 := Lib.hid (HK8.out.call hb9); have HB9 := Lib.hid (HB8.out.trans (hb9.mono HB8.out.size)); clear hb9)
    | (go_at_call 10; refine (HA1.out _ _ _ HK7.out (by omega)).mono ?_; rintro e w8 ⟨rfl, hb8⟩; have HK8 := Lib.hid (HK7.out.call hb8); have HB8 := Lib.hid (HB7.out.trans (hb8.mono HB7.out.size)); clear hb8)
    | (go_at_call 14; have HBK6 : Hid (Blk (w5.alloc (.cells #[.int .i64 1, .int .i64 2] 3)) w5.heap.size #[.int .i64 1, .int .i64 2]) := Blk.new rfl; have HK6 := Lib.hid (HK5.out.grown (World.grownBy_alloc w5 (.cells #[.int .i64 1, .int .i64 2] 3) none) (by simp) (by simp)); have HB6 := Lib.hid (HB5.out.alloc HB5.out.size (.cells #[.int .i64 1, .int .i64 2] 3)); refine (HC2.out _ _ _ _ HK6.out (by omega) HI2.out (ints_two HBK6.out (by omega) (by omega)) (off_new (by have := HK5.out.row.lt; omega))).mono ?_; rintro e w7 ⟨rfl, hk7, hg7⟩; have HK7 := Lib.hid hk7; have HB7 := Lib.hid (below_row HB6.out hg7 (Nat.le_refl _) HB6.out.size); clear hk7 hg7)
    | (go_at_call 12; refine (HRX.out _ _).mono ?_; rintro e w5 ⟨rfl, hb5⟩; have HK5 := Lib.hid (HK4.out.call hb5); have HB5 := Lib.hid (HB4.out.trans (hb5.mono HB4.out.size)); clear hb5)
    | (go_at_call 14; have HBK3 : Hid (Blk (w2.alloc (.cells #[.int .i64 0, .int .i64 1] 3)) w2.heap.size #[.int .i64 0, .int .i64 1]) := Blk.new rfl; have HK3 := Lib.hid (HK2.out.grown (World.grownBy_alloc w2 (.cells #[.int .i64 0, .int .i64 1] 3) none) (by simp) (by simp)); have HB3 := Lib.hid (HB2.out.alloc HB2.out.size (.cells #[.int .i64 0, .int .i64 1] 3)); refine (HC1.out _ _ _ _ HK3.out (by omega) HI1.out (ints_two HBK3.out (by omega) (by omega)) (off_new (by have := HK2.out.row.lt; omega))).mono ?_; rintro e w4 ⟨rfl, hk4, hg4⟩; have HK4 := Lib.hid hk4; have HB4 := Lib.hid (below_row HB3.out hg4 (Nat.le_refl _) HB3.out.size); clear hk4 hg4)
    | (go_at_call 12; refine (HRX.out _ _).mono ?_; rintro e w2 ⟨rfl, hb2⟩; have HK2 := Lib.hid (HK1.out.call hb2); have HB2 := Lib.hid (HB1.out.trans (hb2.mono HB1.out.size)); clear hb2)
    | (go_at_call 7; refine HN.out.mono ?_; rintro e w1 ⟨rfl, hk1, hb1⟩; have HK1 := Lib.hid hk1; have HB1 := Lib.hid hb1; clear hk1 hb1))
  go_ret
  exact ⟨rfl, HB11.out⟩
end Go.Proofs.Ytoebkgjlehhbpaa
