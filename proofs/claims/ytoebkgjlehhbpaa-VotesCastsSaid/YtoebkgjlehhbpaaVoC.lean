/- Supporters. -/
import Derived.Test.YtoebkgjlehhbpaaVoB
import Derived.Test.YtoebkgjlehhbpaaOwK
set_option linter.unusedVariables false

set_option linter.unusedSimpArgs false
namespace Go.Proofs.Ytoebkgjlehhbpaa
open Go.RowKit

set_option maxRecDepth 100000

/-- The supporters of a root among the first k validators. -/
def suppK (vs : List VoD) (r : List Int) : Nat → List Int
  | 0 => []
  | k + 1 => suppK vs r k ++ if (vs.getD k zeV).has = true ∧ (vs.getD k zeV).r = r then [(k : Int)] else []

theorem suppK_len (vs : List VoD) (r : List Int) : ∀ k, (suppK vs r k).length ≤ k
  | 0 => Nat.le_refl _
  | k + 1 => by
    have := suppK_len vs r k
    unfold suppK
    split <;> simp <;> omega

theorem suppK_rng (vs : List VoD) (r : List Int) : ∀ k, ∀ x ∈ suppK vs r k, 0 ≤ x ∧ x < k
  | 0, x, h => by cases h
  | k + 1, x, h => by
    unfold suppK at h
    rcases List.mem_append.1 h with h | h
    · have := suppK_rng vs r k x h; omega
    · split at h
      · rw [List.mem_singleton.1 h]; omega
      · cases h

theorem suppK_yes {vs : List VoD} {r : List Int} {k : Nat} (h1 : (vs.getD k zeV).has = true) (h2 : (vs.getD k zeV).r = r) : suppK vs r (k + 1) = suppK vs r k ++ [(k : Int)] := by
  rw [suppK, if_pos ⟨h1, h2⟩]

theorem suppK_no {vs : List VoD} {r : List Int} {k : Nat} (h : ¬ ((vs.getD k zeV).has = true ∧ (vs.getD k zeV).r = r)) : suppK vs r (k + 1) = suppK vs r k := by
  rw [suppK, if_neg h, List.append_nil]

def SuppI (w : World) (vs : List VoD) (r : List Int) (X : Array Value) (v i : Value) (wr : World) : Prop :=
  ∃ k : Nat, k ≤ vs.length ∧ i = .int .i64 k ∧ OwnK .i64 3 wr (w.heap.size + 1) v (suppK vs r k) ∧ Blk wr w.heap.size X ∧ Below w.heap.size w wr

theorem eq_rootL {xs ys : List Int} (hx : IsBytes 32 xs) (hy : IsBytes 32 ys) (w : World) : Sem.run Try.prog (Op.equalIn 10000 31 (.agg (bytesL xs).toArray) (.agg (bytesL ys).toArray)) w = .ok (decide (xs = ys)) w := eq_root hx hy w

set_option maxHeartbeats 4000000 in
theorem supp_any (b g : Nat) (vs : List VoD) (r : List Int) (w : World) (hV : VtI w b g vs) (hr : IsBytes 32 r) :
    Calls Try.prog 11 #[.pointer (some ⟨b, 0, none⟩), .agg (bytesL r).toArray] w fun e w' => ∃ v', e = .returned v' ∧ OwnK .i64 3 w' (w.heap.size + 1) v' (suppK vs r vs.length) ∧ Below w.heap.size w w' := by
  have HV := Lib.hid hV
  have hblt := hV.blk.lt
  have c0 : w.cell? ⟨b, 0, none⟩ = some (.slice (some ⟨g, 0, none⟩) vs.length vs.length) := hV.blk.cell 0
  have HL : Hid (vs.length ≤ 1024) := hV.len
  have HR := Lib.hid hr
  have HII := Lib.hid info_int
  obtain ⟨X, hX⟩ : ∃ X, Hid ((bytesL r).toArray = X) := ⟨_, rfl⟩
  rw [hX.out]
  have hsX : X.size = 32 := by rw [← hX.out, List.size_toArray, bytesL_len hr]
  have hiX : (Try.prog.info? 31).map (·.size) = some X.size := by rw [hsX]; kernel_rfl
  obtain ⟨Z, hZ⟩ : ∃ Z, zeV.cells.toArray = Z := ⟨_, rfl⟩
  have hsz : Z.size = 34 := by rw [← hZ]; rfl
  obtain ⟨hz34, hst⟩ := zero_array (P := Try.prog) (t := 33) (n := 34) Z (by rw [← hZ]; kernel_rfl) hsz (by rw [← hZ]; kernel_rfl)
  have HBA := Lib.hid ((Below.refl w.heap.size w).alloc (Nat.le_refl _) (.cells X 31))
  have HBX : Hid (Blk (w.alloc (.cells X 31)) w.heap.size X) := Blk.new rfl
  obtain ⟨m, hm⟩ : ∃ m, Hid (vs.length = m) := ⟨_, rfl⟩
  rw [hm.out] at c0 HL
  have hm1 : m ≤ 1024 := HL.out
  clear hst hV hZ hr
  go_enter Try.func11, Try.ntmps11
  go_wp2_with fail
  go_loopw [5, 13] (fun v i wr => SuppI w vs r X v i wr) (fun _ i _ => m - (intOf i).toNat)
  case atStart => exact ⟨0, Nat.zero_le _, rfl, OwnK.nil _ _ _ _, HBX.out, HBA.out⟩
  case round =>
    obtain ⟨k, hk, rfl, hown, hbx, hbl⟩ := hrel
    rw [hm.out] at hk
    have HOW := Lib.hid hown
    have HBX1 := Lib.hid hbx
    have HBL := Lib.hid hbl
    clear hown hbx hbl c0
    by_cases hlt : k < m
    case neg =>
      obtain rfl : k = m := by omega
      go_wp2_with fail
      go_ret
      exact ⟨_, rfl, by rw [hm.out]; exact HOW.out, HBL.out⟩
    have hlt' : (k : Int) < m := by omega
    have hkv : k < vs.length := by rw [hm.out]; exact hlt
    have hok := getD_ok HV.out.ok k
    have HRE : Hid (wr.rangeAt g (k * 34) (vs.getD k zeV).cells) := (HV.out.row.call HBL.out).elem (cells34 HV.out.ok) (getD_cells hkv)
    have HY := Lib.hid (suppK_yes (vs := vs) (r := r) (k := k))
    have HN := Lib.hid (suppK_no (vs := vs) (r := r) (k := k))
    obtain ⟨d, hd⟩ : ∃ d, vs.getD k zeV = d := ⟨_, rfl⟩
    rw [hd] at hok HRE HY HN
    have hsL : d.cells.length = 34 := VoD.len hok
    have HOL : Hid (∀ v ∈ d.cells.toArray, v.oneCell' = true) := fun v hv => VoD.one _ v (by simpa using hv)
    have hiL : (Try.prog.info? 33).map (·.size) = some d.cells.length := by rw [hsL]; kernel_rfl
    have hiL' : (Try.prog.info? 33).map (·.size) = some d.cells.toArray.size := by rw [List.size_toArray]; exact hiL
    have HEQ := Lib.hid (fun u => eq_rootL hok.2.2 HR.out u)
    rw [hX.out] at HEQ
    obtain ⟨q, hq⟩ : ∃ q, decide (d.r = r) = q := ⟨_, rfl⟩
    rw [hq] at HEQ
    have hiR : (Try.prog.info? 31).map (·.size) = some (bytesL d.r).length := by rw [bytesL_len hok.2.2]; kernel_rfl
    have HXL := Lib.hid (suppK_len vs r k)
    obtain ⟨C, hC⟩ : ∃ C, Hid (d.cells = C) := ⟨_, rfl⟩
    have HC0 : Hid (C.toArray[0]? = some (.bool d.has)) := by show _ = _; rw [← hC.out]; rfl
    have HC2 : Hid (∀ u b, Blk u b C.toArray → u.rangeAt b 2 (bytesL d.r)) := fun u b h j x hj => by
      rw [h.cell, ← hC.out, List.getElem?_toArray, Nat.add_comm]; exact hj
    obtain ⟨Y, hY⟩ : ∃ Y, bytesL d.r = Y := ⟨_, rfl⟩
    rw [hC.out] at HRE hsL HOL hiL hiL'
    rw [hY] at HEQ hiR HC2
    obtain ⟨hs, hhs⟩ : ∃ h, d.has = h := ⟨_, rfl⟩
    rw [hhs] at HC0 HY HN
    have HQ := Lib.hid hq
    clear hd hok hkv hhs hY hq
    have heq := HEQ.out
    have hszC : Z.size = C.toArray.size := by rw [hsz, List.size_toArray, hsL]
    cases hs
    case false =>
      go_wp2_with (first
        | ((with_reducible refine at_load (.tmp 16) ?_); refine wpList_load_at 33 (.tmp 16) rfl g (k * 34) (by simp [Act.eval, Act.put]) C HRE.out _ Try.underlying33 rfl hiL rfl ?_)
        | ((with_reducible refine at_store (.tmp 7) ?_); refine wpList_store_blk rfl 33 (.tmp 7) _ rfl wr.heap.size C.toArray rfl rfl Z (Blk.new rfl) hszC hiL' HOL.out ?_; intro w2 U2 B2; have hb12 := U2.below ((Below.refl wr.heap.size wr).alloc (Nat.le_refl _) (.cells Z 33)) (Nat.le_refl _); have HB2 := Lib.hid (HBL.out.trans (hb12.mono HBL.out.size)); have HOW2 := Lib.hid (HOW.out.grown (w' := w2) (row := none) ⟨hb12.os, hb12.tape, hb12.output, hb12.size, fun k hk _ => hb12.block k hk⟩ (fun n _ => by simp)); have HBX2 := Lib.hid (HBX1.out.call hb12); have HE2 := Lib.hid B2; clear U2 B2 hb12)
        | ((with_reducible refine at_load (.tmp 18) ?_); refine wpList_load_1 4 (.tmp 18) rfl wr.heap.size 0 (.bool false) ((HE2.out.cell 0).trans HC0.out) rfl _ Try.underlying4 rfl rfl ?_)
        | ((with_reducible refine at_load (.tmp 21) ?_); refine wpList_load_at 31 (.tmp 21) rfl wr.heap.size 2 (by simp [Act.eval, Act.put]) Y (HC2.out _ _ HE2.out) _ Try.underlying31 rfl hiR rfl ?_)
        | ((with_reducible refine at_load (.tmp 3) ?_); refine wpList_load_g 31 (.tmp 3) rfl w.heap.size rfl X _ HBX2.out Try.underlying31 rfl hiX rfl ?_)
        | ((with_reducible refine at_app (.tmp 26) (.tmp 28) ?_); refine wpList_app1 HII.out (by omega) Try.underlying35 (.tmp 26) (.tmp 28) rfl rfl (w.heap.size + 1) _ _ rfl (HOW2.out.grown (World.grownBy_alloc _ (.cells #[.int .i64 (k : Int)] 3) none) (fun n _ => by simp)) w2.heap.size 1 (k : Int) rfl ((Blk.new rfl).cell 0) (by have := HXL.out; omega) (by have := HB2.out.size; have := HBX2.out.lt; simp; omega) ?_; intro v3 w3 h3 g3 o3; have HOW3 := Lib.hid h3; have HG3 := Lib.hid g3; have HO3 := Lib.hid o3; clear h3 g3 o3))
      go_roundw
      case rel => exact ⟨k + 1, by rw [hm.out]; omega, by go_num, by rw [HN.out (fun h => by cases h.1)]; exact HOW2.out, HBX2.out, HB2.out⟩
      case measure => simp [intOf]; omega
    case true =>
      cases q
      case false =>
        go_wp2_with (first
          | ((with_reducible refine at_load (.tmp 16) ?_); refine wpList_load_at 33 (.tmp 16) rfl g (k * 34) (by simp [Act.eval, Act.put]) C HRE.out _ Try.underlying33 rfl hiL rfl ?_)
          | ((with_reducible refine at_store (.tmp 7) ?_); refine wpList_store_blk rfl 33 (.tmp 7) _ rfl wr.heap.size C.toArray rfl rfl Z (Blk.new rfl) hszC hiL' HOL.out ?_; intro w2 U2 B2; have hb12 := U2.below ((Below.refl wr.heap.size wr).alloc (Nat.le_refl _) (.cells Z 33)) (Nat.le_refl _); have HB2 := Lib.hid (HBL.out.trans (hb12.mono HBL.out.size)); have HOW2 := Lib.hid (HOW.out.grown (w' := w2) (row := none) ⟨hb12.os, hb12.tape, hb12.output, hb12.size, fun k hk _ => hb12.block k hk⟩ (fun n _ => by simp)); have HBX2 := Lib.hid (HBX1.out.call hb12); have HE2 := Lib.hid B2; clear U2 B2 hb12)
          | ((with_reducible refine at_load (.tmp 18) ?_); refine wpList_load_1 4 (.tmp 18) rfl wr.heap.size 0 (.bool true) ((HE2.out.cell 0).trans HC0.out) rfl _ Try.underlying4 rfl rfl ?_)
          | ((with_reducible refine at_load (.tmp 21) ?_); refine wpList_load_at 31 (.tmp 21) rfl wr.heap.size 2 (by simp [Act.eval, Act.put]) Y (HC2.out _ _ HE2.out) _ Try.underlying31 rfl hiR rfl ?_)
          | ((with_reducible refine at_load (.tmp 3) ?_); refine wpList_load_g 31 (.tmp 3) rfl w.heap.size rfl X _ HBX2.out Try.underlying31 rfl hiX rfl ?_)
          | ((with_reducible refine at_app (.tmp 26) (.tmp 28) ?_); refine wpList_app1 HII.out (by omega) Try.underlying35 (.tmp 26) (.tmp 28) rfl rfl (w.heap.size + 1) _ _ rfl (HOW2.out.grown (World.grownBy_alloc _ (.cells #[.int .i64 (k : Int)] 3) none) (fun n _ => by simp)) w2.heap.size 1 (k : Int) rfl ((Blk.new rfl).cell 0) (by have := HXL.out; omega) (by have := HB2.out.size; have := HBX2.out.lt; simp; omega) ?_; intro v3 w3 h3 g3 o3; have HOW3 := Lib.hid h3; have HG3 := Lib.hid g3; have HO3 := Lib.hid o3; clear h3 g3 o3))
        go_roundw
        case rel => exact ⟨k + 1, by rw [hm.out]; omega, by go_num, by rw [HN.out (fun h => by have := of_decide_eq_false HQ.out; exact this h.2)]; exact HOW2.out, HBX2.out, HB2.out⟩
        case measure => simp [intOf]; omega
      case true =>
        go_wp2_with (first
          | ((with_reducible refine at_load (.tmp 16) ?_); refine wpList_load_at 33 (.tmp 16) rfl g (k * 34) (by simp [Act.eval, Act.put]) C HRE.out _ Try.underlying33 rfl hiL rfl ?_)
          | ((with_reducible refine at_store (.tmp 7) ?_); refine wpList_store_blk rfl 33 (.tmp 7) _ rfl wr.heap.size C.toArray rfl rfl Z (Blk.new rfl) hszC hiL' HOL.out ?_; intro w2 U2 B2; have hb12 := U2.below ((Below.refl wr.heap.size wr).alloc (Nat.le_refl _) (.cells Z 33)) (Nat.le_refl _); have HB2 := Lib.hid (HBL.out.trans (hb12.mono HBL.out.size)); have HOW2 := Lib.hid (HOW.out.grown (w' := w2) (row := none) ⟨hb12.os, hb12.tape, hb12.output, hb12.size, fun k hk _ => hb12.block k hk⟩ (fun n _ => by simp)); have HBX2 := Lib.hid (HBX1.out.call hb12); have HE2 := Lib.hid B2; clear U2 B2 hb12)
          | ((with_reducible refine at_load (.tmp 18) ?_); refine wpList_load_1 4 (.tmp 18) rfl wr.heap.size 0 (.bool true) ((HE2.out.cell 0).trans HC0.out) rfl _ Try.underlying4 rfl rfl ?_)
          | ((with_reducible refine at_load (.tmp 21) ?_); refine wpList_load_at 31 (.tmp 21) rfl wr.heap.size 2 (by simp [Act.eval, Act.put]) Y (HC2.out _ _ HE2.out) _ Try.underlying31 rfl hiR rfl ?_)
          | ((with_reducible refine at_load (.tmp 3) ?_); refine wpList_load_g 31 (.tmp 3) rfl w.heap.size rfl X _ HBX2.out Try.underlying31 rfl hiX rfl ?_)
          | ((with_reducible refine at_app (.tmp 26) (.tmp 28) ?_); refine wpList_app1 HII.out (by omega) Try.underlying35 (.tmp 26) (.tmp 28) rfl rfl (w.heap.size + 1) _ _ rfl (HOW2.out.grown (World.grownBy_alloc _ (.cells #[.int .i64 (k : Int)] 3) none) (fun n _ => by simp)) w2.heap.size 1 (k : Int) rfl ((Blk.new rfl).cell 0) (by have := HXL.out; omega) (by have := HB2.out.size; have := HBX2.out.lt; simp; omega) ?_; intro v3 w3 h3 g3 o3; have HOW3 := Lib.hid h3; have HG3 := Lib.hid g3; have HO3 := Lib.hid o3; clear h3 g3 o3))
        have hbn : Below w.heap.size w (w2.alloc (.cells #[.int .i64 (k : Int)] 3)) := HB2.out.alloc (by have := HB2.out.size; exact this) _
        go_roundw
        case rel => exact ⟨k + 1, by rw [hm.out]; omega, by go_num, by rw [HY.out rfl (of_decide_eq_true HQ.out)]; exact HOW3.out, ((HBX2.out.alloc _).grown HG3.out (fun e => by have := HOW2.out.lt _ e.symm; omega)), hbn.grown HG3.out (by have := hbn.size; omega) (fun n e => by have := HOW2.out.lt n e; omega)⟩
        case measure => simp [intOf]; omega
end Go.Proofs.Ytoebkgjlehhbpaa
