/- Several texts as one: SmG, ScE, ScU, ScZ, ScW. -/
import Derived.Test.YtmnojgdfbhdkhaaY3
import Derived.DeepKeys2
import Derived.Test.YtmnojgdfbhdkhaaY5
import Derived.Test.YtmnojgdfbhdkhaaY1
namespace Go.Proofs.Ytmnojgdfbhdkhaa

/-! SmG -/
section
set_option linter.unusedVariables false
set_option linter.unusedSimpArgs false
open Go.RowKit

/-- '==' of two values of a comparable struct. -/
theorem eq_two {P : Program} {t : TypeId} {m m' : Nat} (hk : P.keyTypeAt m t = true) (ht : P.tiled m' t = true) (hm : m ≤ 10000) (X Y : Array Value) (fX : (Value.agg X).formed P t = true) (fY : (Value.agg Y).formed P t = true)
    (lX : ∃ ls, P.keyLits m t X.toList = some ls) (lY : ∃ ls, P.keyLits m t Y.toList = some ls) : ∃ r : Bool, (∀ w, Sem.run P (Op.equalIn 10000 t (.agg X) (.agg Y)) w = .ok r w) ∧ (r = true ↔ X = Y) := by
  obtain ⟨lx, hx⟩ := lX
  obtain ⟨ly, hy⟩ := lY
  have cX : (Value.agg X).cells.toList = X.toList := by simp [Value.cells]
  have cY : (Value.agg Y).cells.toList = Y.toList := by simp [Value.cells]
  have hall : ∀ w, ∃ r : Bool, Sem.run P (Op.equalIn 10000 t (.agg X) (.agg Y)) w = .ok r w ∧ (r = true ↔ lx = ly) := fun w => by
    obtain ⟨r, hr, hiff⟩ := run_equalIn_deep (P := P) (10000 - m) m t hk w m m _ _ _ _ fX fY (by rw [cX]; exact hx) (by rw [cY]; exact hy)
    rw [show 10000 - m + m = 10000 by omega] at hr
    exact ⟨r, hr, hiff⟩
  have hXY : lx = ly ↔ X = Y := by
    constructor
    · intro e
      have h1 := cells_of_lits m' t ht m _ _ hx
      have h2 := cells_of_lits m' t ht m _ _ hy
      have : X.toList = Y.toList := by rw [h1, h2, e]
      exact Array.toList_inj.1 this
    · intro e
      subst e
      rw [hx] at hy
      exact Option.some.inj hy
  by_cases h : lx = ly
  · refine ⟨true, fun w => ?_, by simp [hXY.1 h]⟩
    obtain ⟨r, hr, hiff⟩ := hall w
    rw [hr, hiff.2 h]
  · refine ⟨false, fun w => ?_, by simp only [Bool.false_eq_true, false_iff]; exact fun e => h (hXY.2 e)⟩
    obtain ⟨r, hr, hiff⟩ := hall w
    rw [hr]
    cases r
    · rfl
    · exact absurd (hiff.1 rfl) h

theorem eq_blk2 {x y : BkD} (hx : x.ok) (hy : y.ok) : ∃ r : Bool, (∀ w, Sem.run Try.prog (Op.equalIn 10000 32 (.agg (flatP x.parts)) (.agg (flatP y.parts))) w = .ok r w) ∧ (r = true ↔ flatP x.parts = flatP y.parts) := by
  have hf : ∀ {z : BkD}, z.ok → (Value.agg (flatP z.parts)).formed Try.prog 32 = true := fun {z} hz => by
    have hl : (flatP z.parts).size = 238 := by rw [flatP_size, List.length_flatten, BkD.lens hz]; rfl
    have hc : Try.prog.cellsOf 32 = 238 := by kernel_rfl
    simp [Value.formed, Try.underlying32, hl, hc]
  exact eq_two (m := 5) (m' := 6) (by kernel_rfl) (by kernel_rfl) (by omega) _ _ (hf hx) (hf hy) (by simpa [flatP] using keyLits_blk hx) (by simpa [flatP] using keyLits_blk hy)

theorem eq_vd2 {x y : VdD} (hx : x.ok) (hy : y.ok) : ∃ r : Bool, (∀ w, Sem.run Try.prog (Op.equalIn 10000 46 (.agg (flatP x.parts)) (.agg (flatP y.parts))) w = .ok r w) ∧ (r = true ↔ flatP x.parts = flatP y.parts) := by
  have hf : ∀ {z : VdD}, z.ok → (Value.agg (flatP z.parts)).formed Try.prog 46 = true := fun {z} hz => by
    have hl : (flatP z.parts).size = 34 := by rw [flatP_size]; simp [VdD.parts, bytesL_len hz.2.2]
    have hc : Try.prog.cellsOf 46 = 34 := by kernel_rfl
    simp [Value.formed, Try.underlying46, hl, hc]
  exact eq_two (m := 5) (m' := 6) (by kernel_rfl) (by kernel_rfl) (by omega) _ _ (hf hx) (hf hy) (by simpa [flatP] using keyLits_vd hx) (by simpa [flatP] using keyLits_vd hy)

theorem eq_cp2 {c d : CpD} (hc : c.ok) (hd : d.ok) : ∃ r : Bool, (∀ w, Sem.run Try.prog (Op.equalIn 10000 26 (.agg c.cells.toArray) (.agg d.cells.toArray)) w = .ok r w) ∧ (r = true ↔ c.cells = d.cells) := by
  have hf : ∀ {z : CpD}, z.ok → (Value.agg z.cells.toArray).formed Try.prog 26 = true := fun {z} hz => by simp [Value.formed, Try.underlying26, CpD.len hz]; kernel_rfl
  obtain ⟨r, h1, h2⟩ := eq_two (m := 3) (m' := 4) (by kernel_rfl) (by kernel_rfl) (by omega) _ _ (hf hc) (hf hd) (by simpa using keyLits_cp (d := 0) hc) (by simpa using keyLits_cp (d := 0) hd)
  exact ⟨r, h1, by rw [h2]; simp⟩

theorem bytesL_inj {a b : List Int} (h : bytesL a = bytesL b) : a = b := by
  have := congrArg (List.map (fun v => match v with | .int _ n => n | _ => 0)) h
  simpa [bytesL, List.map_map, Function.comp_def] using this
theorem CpD.inj {c d : CpD} (h : c.cells = d.cells) : c = d := by
  cases c; cases d
  simp only [CpD.cells, List.cons.injEq, Value.int.injEq, true_and] at h
  obtain ⟨h1, h2⟩ := h
  cases h1
  cases bytesL_inj h2
  rfl

/-- What a Same function promises: a bool that tells p. -/
def Tells (w : World) (p : Prop) (en : Ending) (w' : World) : Prop := ∃ b : Bool, en = .returned (.bool b) ∧ (b = true ↔ p) ∧ Below w.heap.size w w'
theorem tells_no {w w' : World} {p : Prop} (h : ¬ p) (hb : Below w.heap.size w w') : Tells w p (.returned (.bool false)) w' := ⟨false, rfl, by simp [h], hb⟩
theorem tells_yes {w w' : World} {p : Prop} (h : p) (hb : Below w.heap.size w w') : Tells w p (.returned (.bool true)) w' := ⟨true, rfl, by simp [h], hb⟩

theorem list_ext_getD {l m : List Int} (h : l.length = m.length) (h2 : ∀ j, j < l.length → l.getD j 0 = m.getD j 0) : l = m := by
  apply List.ext_getElem h
  intro j h3 h4
  have := h2 j h3
  simpa [List.getD, List.getElem?_eq_getElem h3, List.getElem?_eq_getElem h4] using this
theorem getD_ne {l m : List Int} {k : Nat} (h : l.getD k 0 ≠ m.getD k 0) : l ≠ m := fun e => h (by rw [e])

set_option maxRecDepth 100000 in
set_option maxHeartbeats 4000000 in
theorem sints2 (v1 v2 : Value) (l m : List Int) (w : World) (h1 : IntsV w v1 l) (h2 : IntsV w v2 m) :
    Calls Try.prog 54 #[v1, v2] w (Tells w (l = m)) := by
  obtain ⟨⟨a1, len1, cap1, rfl, hl1, hm1, hr1⟩, hg1⟩ := h1
  obtain ⟨⟨a2, len2, cap2, rfl, hl2, hm2, hr2⟩, hg2⟩ := h2
  unfold maxLen at hm1 hm2
  have HL1 := Lib.hid hl1; clear hl1
  have HL2 := Lib.hid hl2; clear hl2
  have H1 := Lib.hid hr1; clear hr1
  have H2 := Lib.hid hr2; clear hr2
  have HG1 := Lib.hid hg1; clear hg1
  have HG2 := Lib.hid hg2; clear hg2
  by_cases hlen : len1 = len2
  case neg =>
    have hne : ((len1 : Int) != (len2 : Int)) = true := by simp; omega
    have HN : Hid (¬ l = m) := fun e => hlen (by rw [← HL1.out, ← HL2.out, e])
    clear hlen
    go_enter Try.func54, Try.ntmps54
    go_wp2_with fail
    go_ret
    exact tells_no HN.out (Below.refl _ _)
  subst hlen
  have hne : ((len1 : Int) != (len1 : Int)) = false := by simp
  go_enter Try.func54, Try.ntmps54
  go_wp2_with fail
  go_loopw [5] (fun i wr => ∃ k : Nat, k ≤ len1 ∧ i = .int .i64 k ∧ Below w.heap.size w wr ∧ ∀ j, j < k → l.getD j 0 = m.getD j 0) (fun i _ => len1 - (intOf i).toNat)
  case atStart => exact ⟨0, Nat.zero_le _, rfl, Below.refl _ _, fun j hj => absurd hj (by omega)⟩
  case round =>
    obtain ⟨k, hk, rfl, hbl, hsame⟩ := hrel
    have HS := Lib.hid hsame; clear hsame
    by_cases hlt : k < len1
    · rcases H1.out with h0 | ⟨b1, o1, rfl, hb1, hc1⟩
      · omega
      rcases H2.out with h0 | ⟨b2, o2, rfl, hb2, hc2⟩
      · omega
      have c1 : wr.cell? ⟨b1, o1 + k, none⟩ = some (.int .i64 (l.getD k 0)) := (hbl.cell (p := ⟨b1, o1 + k, none⟩) hb1).trans (hc1 k hlt)
      have c2 : wr.cell? ⟨b2, o2 + k, none⟩ = some (.int .i64 (m.getD k 0)) := (hbl.cell (p := ⟨b2, o2 + k, none⟩) hb2).trans (hc2 k hlt)
      have HBL := Lib.hid hbl; clear hbl hc1 hc2
      obtain ⟨x, HX⟩ : ∃ x, Hid (x = l.getD k 0) := ⟨_, rfl⟩
      obtain ⟨y, HY⟩ : ∃ y, Hid (y = m.getD k 0) := ⟨_, rfl⟩
      rw [← HX.out] at c1
      rw [← HY.out] at c2
      by_cases hxy : x = y
      · have hq : (x != y) = false := by simpa using hxy
        have HQ := Lib.hid hxy; clear hxy
        go_wp2_with fail
        go_quiet (fail)
        go_wp2_with fail
        go_roundw
        case rel => exact ⟨k + 1, by omega, by go_num, Below.drewN HBL.out, fun j hj => by
          by_cases hjk : j = k
          · rw [hjk, ← HX.out, ← HY.out]; exact HQ.out
          · exact HS.out j (by omega)⟩
        case measure => simp [intOf]; omega
      · have hq : (x != y) = true := by simpa using hxy
        have HQ : Hid (¬ l = m) := getD_ne (k := k) (by rw [← HX.out, ← HY.out]; exact hxy)
        clear hxy
        go_wp2_with fail
        go_quiet (fail)
        go_wp2_with fail
        go_ret
        exact tells_no HQ.out (Below.drewN HBL.out)
    · obtain rfl : k = len1 := by omega
      have HE : Hid (l = m) := list_ext_getD (by rw [HL1.out, HL2.out]) (fun j hj => HS.out j (by rw [← HL1.out]; exact hj))
      go_wp2_with fail
      go_ret
      exact tells_yes HE.out hbl

set_option maxRecDepth 100000 in
set_option maxHeartbeats 4000000 in
theorem snums2 (v1 v2 : Value) (l m : List Int) (w : World) (h1 : NumsV w v1 l) (h2 : NumsV w v2 m) :
    Calls Try.prog 56 #[v1, v2] w (Tells w (l = m)) := by
  obtain ⟨⟨a1, len1, cap1, rfl, hl1, hm1, hr1⟩, hg1⟩ := h1
  obtain ⟨⟨a2, len2, cap2, rfl, hl2, hm2, hr2⟩, hg2⟩ := h2
  unfold maxLen at hm1 hm2
  have HL1 := Lib.hid hl1; clear hl1
  have HL2 := Lib.hid hl2; clear hl2
  have H1 := Lib.hid hr1; clear hr1
  have H2 := Lib.hid hr2; clear hr2
  have HG1 := Lib.hid hg1; clear hg1
  have HG2 := Lib.hid hg2; clear hg2
  by_cases hlen : len1 = len2
  case neg =>
    have hne : ((len1 : Int) != (len2 : Int)) = true := by simp; omega
    have HN : Hid (¬ l = m) := fun e => hlen (by rw [← HL1.out, ← HL2.out, e])
    clear hlen
    go_enter Try.func56, Try.ntmps56
    go_wp2_with fail
    go_ret
    exact tells_no HN.out (Below.refl _ _)
  subst hlen
  have hne : ((len1 : Int) != (len1 : Int)) = false := by simp
  go_enter Try.func56, Try.ntmps56
  go_wp2_with fail
  go_loopw [5] (fun i wr => ∃ k : Nat, k ≤ len1 ∧ i = .int .i64 k ∧ Below w.heap.size w wr ∧ ∀ j, j < k → l.getD j 0 = m.getD j 0) (fun i _ => len1 - (intOf i).toNat)
  case atStart => exact ⟨0, Nat.zero_le _, rfl, Below.refl _ _, fun j hj => absurd hj (by omega)⟩
  case round =>
    obtain ⟨k, hk, rfl, hbl, hsame⟩ := hrel
    have HS := Lib.hid hsame; clear hsame
    by_cases hlt : k < len1
    · rcases H1.out with h0 | ⟨b1, o1, rfl, hb1, hc1⟩
      · omega
      rcases H2.out with h0 | ⟨b2, o2, rfl, hb2, hc2⟩
      · omega
      have c1 : wr.cell? ⟨b1, o1 + k, none⟩ = some (.int .u64 (l.getD k 0)) := (hbl.cell (p := ⟨b1, o1 + k, none⟩) hb1).trans (hc1 k hlt)
      have c2 : wr.cell? ⟨b2, o2 + k, none⟩ = some (.int .u64 (m.getD k 0)) := (hbl.cell (p := ⟨b2, o2 + k, none⟩) hb2).trans (hc2 k hlt)
      have HBL := Lib.hid hbl; clear hbl hc1 hc2
      obtain ⟨x, HX⟩ : ∃ x, Hid (x = l.getD k 0) := ⟨_, rfl⟩
      obtain ⟨y, HY⟩ : ∃ y, Hid (y = m.getD k 0) := ⟨_, rfl⟩
      rw [← HX.out] at c1
      rw [← HY.out] at c2
      by_cases hxy : x = y
      · have hq : (x != y) = false := by simpa using hxy
        have HQ := Lib.hid hxy; clear hxy
        go_wp2_with fail
        go_quiet (fail)
        go_wp2_with fail
        go_roundw
        case rel => exact ⟨k + 1, by omega, by go_num, Below.drewN HBL.out, fun j hj => by
          by_cases hjk : j = k
          · rw [hjk, ← HX.out, ← HY.out]; exact HQ.out
          · exact HS.out j (by omega)⟩
        case measure => simp [intOf]; omega
      · have hq : (x != y) = true := by simpa using hxy
        have HQ : Hid (¬ l = m) := getD_ne (k := k) (by rw [← HX.out, ← HY.out]; exact hxy)
        clear hxy
        go_wp2_with fail
        go_quiet (fail)
        go_wp2_with fail
        go_ret
        exact tells_no HQ.out (Below.drewN HBL.out)
    · obtain rfl : k = len1 := by omega
      have HE : Hid (l = m) := list_ext_getD (by rw [HL1.out, HL2.out]) (fun j hj => HS.out j (by rw [← HL1.out]; exact hj))
      go_wp2_with fail
      go_ret
      exact tells_yes HE.out hbl

set_option maxRecDepth 100000 in
set_option maxHeartbeats 8000000 in
theorem satt2 (s1 s2 : Int) (r1 r2 : List Int) (p1 p2 : CpD) (v1 v2 : Value) (l1 l2 : List Int) (w : World) (hr1 : IsBytes 32 r1) (hr2 : IsBytes 32 r2) (hp1 : p1.ok) (hp2 : p2.ok) (h1 : IntsV w v1 l1) (h2 : IntsV w v2 l2) :
    Calls Try.prog 32 #[.agg (flatP [[.int .u64 s1], bytesL r1, p1.cells, [v1]]), .agg (flatP [[.int .u64 s2], bytesL r2, p2.cells, [v2]])] w (Tells w (s1 = s2 ∧ r1 = r2 ∧ p1 = p2 ∧ l1 = l2)) := by
  obtain ⟨a1, n1, k1, rfl⟩ := ints_shape' h1.1
  obtain ⟨a2, n2, k2, rfl⟩ := ints_shape' h2.1
  have oo : ∀ (s : Int) (r : List Int) (p : CpD) (v : Value), IsBytes 32 r → p.ok → offP [[Value.int .u64 s], bytesL r, p.cells, [v]] 0 = 0 ∧ offP [[Value.int .u64 s], bytesL r, p.cells, [v]] 1 = 1 ∧ offP [[Value.int .u64 s], bytesL r, p.cells, [v]] 2 = 33 ∧ offP [[Value.int .u64 s], bytesL r, p.cells, [v]] 3 = 66 ∧ (flatP [[Value.int .u64 s], bytesL r, p.cells, [v]]).size = 67 := fun s r p v hr hp => ⟨rfl, rfl, by simp [offP, bytesL_len hr], by simp [offP, bytesL_len hr, CpD.len hp], by rw [flatP_size]; simp [bytesL_len hr, CpD.len hp]⟩
  have HO1 := Lib.hid (oo s1 r1 p1 (.slice a1 n1 k1) hr1 hp1)
  have HO2 := Lib.hid (oo s2 r2 p2 (.slice a2 n2 k2) hr2 hp2)
  clear oo
  obtain ⟨X, HX⟩ : ∃ X, Hid (flatP [[Value.int .u64 s1], bytesL r1, p1.cells, [.slice a1 n1 k1]] = X) := ⟨_, rfl⟩
  obtain ⟨Y, HY⟩ : ∃ Y, Hid (flatP [[Value.int .u64 s2], bytesL r2, p2.cells, [.slice a2 n2 k2]] = Y) := ⟨_, rfl⟩
  rw [HX.out, HY.out]
  have hba := ((Below.refl w.heap.size w).alloc (Nat.le_refl _) (.cells X 35)).alloc (by simp) (.cells Y 35)
  have B1 : Hid (Blk ((w.alloc (.cells X 35)).alloc (.cells Y 35)) w.heap.size (flatP [[.int .u64 s1], bytesL r1, p1.cells, [.slice a1 n1 k1]])) := ((Blk.new rfl).alloc _).to HX.out.symm
  have B2 : Hid (Blk ((w.alloc (.cells X 35)).alloc (.cells Y 35)) (w.heap.size + 1) (flatP [[.int .u64 s2], bytesL r2, p2.cells, [.slice a2 n2 k2]])) := (Blk.new (by simp)).to HY.out.symm
  have DS := Lib.hid (sints2 _ _ l1 l2 _ (h1.below hba) (h2.below hba))
  have HBA := Lib.hid hba; clear hba
  have E1 := eq_root hr1 hr2
  obtain ⟨bc, E2, hbc⟩ := eq_cp2 hp1 hp2
  have hbc' : bc = true ↔ p1 = p2 := by rw [hbc]; exact ⟨CpD.inj, fun e => by rw [e]⟩
  have HI1 : Hid ((Try.prog.info? 24).map (·.size) = some (bytesL r1).length) := by show _ = _; rw [bytesL_len hr1]; kernel_rfl
  have HI2 : Hid ((Try.prog.info? 24).map (·.size) = some (bytesL r2).length) := by show _ = _; rw [bytesL_len hr2]; kernel_rfl
  have HI3 : Hid ((Try.prog.info? 26).map (·.size) = some p1.cells.length) := by show _ = _; rw [CpD.len hp1]; kernel_rfl
  have HI4 : Hid ((Try.prog.info? 26).map (·.size) = some p2.cells.length) := by show _ = _; rw [CpD.len hp2]; kernel_rfl
  clear h1 h2 hp1 hp2 hr1 hr2 hbc HX HY
  rw [bytesL_V, bytesL_V] at E1
  obtain ⟨bs, hbs⟩ : ∃ b, (s1 == s2) = b := ⟨_, rfl⟩
  have HS : Hid (bs = true ↔ s1 = s2) := by show _ ↔ _; rw [← hbs]; simp
  obtain ⟨br, hbr⟩ : ∃ b, decide (r1 = r2) = b := ⟨_, rfl⟩
  have HR : Hid (br = true ↔ r1 = r2) := by show _ ↔ _; rw [← hbr]; simp
  have HC := Lib.hid hbc'
  rw [hbr] at E1
  clear hbr hbc'
  obtain ⟨R1, HR1⟩ : ∃ R, bytesL r1 = R := ⟨_, rfl⟩
  obtain ⟨R2, HR2⟩ : ∃ R, bytesL r2 = R := ⟨_, rfl⟩
  obtain ⟨C1, HC1⟩ : ∃ C, p1.cells = C := ⟨_, rfl⟩
  obtain ⟨C2, HC2⟩ : ∃ C, p2.cells = C := ⟨_, rfl⟩
  rw [HR1] at E1 HI1 B1 HO1
  rw [HR2] at E1 HI2 B2 HO2
  rw [HC1] at E2 HI3 B1 HO1
  rw [HC2] at E2 HI4 B2 HO2
  clear HR1 HR2 HC1 HC2
  cases bs
  case false =>
    go_enter Try.func32, Try.ntmps32
    go_wp2_with (first
      | ((with_reducible refine at_load (.tmp 5) ?_); refine wpList_load_1 22 (.tmp 5) rfl w.heap.size 0 (.int .u64 s1) (B1.out.cellAt (k := 0) rfl HO1.out.1) rfl _ Try.underlying22 rfl rfl ?_)
      | ((with_reducible refine at_load (.tmp 7) ?_); refine wpList_load_1 22 (.tmp 7) rfl (w.heap.size + 1) 0 (.int .u64 s2) (B2.out.cellAt (k := 0) rfl HO2.out.1) rfl _ Try.underlying22 rfl rfl ?_)
      | ((with_reducible refine at_load (.tmp 11) ?_); refine wpList_load_part 24 (.tmp 11) rfl w.heap.size _ 1 1 R1 B1.out rfl HO1.out.2.1 rfl _ Try.underlying24 rfl HI1.out rfl ?_)
      | ((with_reducible refine at_load (.tmp 13) ?_); refine wpList_load_part 24 (.tmp 13) rfl (w.heap.size + 1) _ 1 1 R2 B2.out rfl HO2.out.2.1 rfl _ Try.underlying24 rfl HI2.out rfl ?_)
      | ((with_reducible refine at_load (.tmp 18) ?_); refine wpList_load_part 26 (.tmp 18) rfl w.heap.size _ 2 33 C1 B1.out rfl HO1.out.2.2.1 rfl _ Try.underlying26 rfl HI3.out rfl ?_)
      | ((with_reducible refine at_load (.tmp 20) ?_); refine wpList_load_part 26 (.tmp 20) rfl (w.heap.size + 1) _ 2 33 C2 B2.out rfl HO2.out.2.2.1 rfl _ Try.underlying26 rfl HI4.out rfl ?_)
      | ((with_reducible refine at_load (.tmp 25) ?_); refine wpList_load_1 33 (.tmp 25) rfl w.heap.size 66 (.slice a1 n1 k1) (B1.out.cellAt (k := 3) rfl HO1.out.2.2.2.1) rfl _ Try.underlying33 rfl rfl ?_)
      | ((with_reducible refine at_load (.tmp 27) ?_); refine wpList_load_1 33 (.tmp 27) rfl (w.heap.size + 1) 66 (.slice a2 n2 k2) (B2.out.cellAt (k := 3) rfl HO2.out.2.2.2.1) rfl _ Try.underlying33 rfl rfl ?_))
    go_ret
    exact tells_no (fun h => by have := HS.out.2 h.1; cases this) HBA.out
  case true =>
    cases br
    case false =>
      go_enter Try.func32, Try.ntmps32
      go_wp2_with (first
        | ((with_reducible refine at_load (.tmp 5) ?_); refine wpList_load_1 22 (.tmp 5) rfl w.heap.size 0 (.int .u64 s1) (B1.out.cellAt (k := 0) rfl HO1.out.1) rfl _ Try.underlying22 rfl rfl ?_)
        | ((with_reducible refine at_load (.tmp 7) ?_); refine wpList_load_1 22 (.tmp 7) rfl (w.heap.size + 1) 0 (.int .u64 s2) (B2.out.cellAt (k := 0) rfl HO2.out.1) rfl _ Try.underlying22 rfl rfl ?_)
        | ((with_reducible refine at_load (.tmp 11) ?_); refine wpList_load_part 24 (.tmp 11) rfl w.heap.size _ 1 1 R1 B1.out rfl HO1.out.2.1 rfl _ Try.underlying24 rfl HI1.out rfl ?_)
        | ((with_reducible refine at_load (.tmp 13) ?_); refine wpList_load_part 24 (.tmp 13) rfl (w.heap.size + 1) _ 1 1 R2 B2.out rfl HO2.out.2.1 rfl _ Try.underlying24 rfl HI2.out rfl ?_)
        | ((with_reducible refine at_load (.tmp 18) ?_); refine wpList_load_part 26 (.tmp 18) rfl w.heap.size _ 2 33 C1 B1.out rfl HO1.out.2.2.1 rfl _ Try.underlying26 rfl HI3.out rfl ?_)
        | ((with_reducible refine at_load (.tmp 20) ?_); refine wpList_load_part 26 (.tmp 20) rfl (w.heap.size + 1) _ 2 33 C2 B2.out rfl HO2.out.2.2.1 rfl _ Try.underlying26 rfl HI4.out rfl ?_)
        | ((with_reducible refine at_load (.tmp 25) ?_); refine wpList_load_1 33 (.tmp 25) rfl w.heap.size 66 (.slice a1 n1 k1) (B1.out.cellAt (k := 3) rfl HO1.out.2.2.2.1) rfl _ Try.underlying33 rfl rfl ?_)
        | ((with_reducible refine at_load (.tmp 27) ?_); refine wpList_load_1 33 (.tmp 27) rfl (w.heap.size + 1) 66 (.slice a2 n2 k2) (B2.out.cellAt (k := 3) rfl HO2.out.2.2.2.1) rfl _ Try.underlying33 rfl rfl ?_))
      go_ret
      exact tells_no (fun h => by have := HR.out.2 h.2.1; cases this) HBA.out
    case true =>
      cases bc
      case false =>
        go_enter Try.func32, Try.ntmps32
        go_wp2_with (first
          | ((with_reducible refine at_load (.tmp 5) ?_); refine wpList_load_1 22 (.tmp 5) rfl w.heap.size 0 (.int .u64 s1) (B1.out.cellAt (k := 0) rfl HO1.out.1) rfl _ Try.underlying22 rfl rfl ?_)
          | ((with_reducible refine at_load (.tmp 7) ?_); refine wpList_load_1 22 (.tmp 7) rfl (w.heap.size + 1) 0 (.int .u64 s2) (B2.out.cellAt (k := 0) rfl HO2.out.1) rfl _ Try.underlying22 rfl rfl ?_)
          | ((with_reducible refine at_load (.tmp 11) ?_); refine wpList_load_part 24 (.tmp 11) rfl w.heap.size _ 1 1 R1 B1.out rfl HO1.out.2.1 rfl _ Try.underlying24 rfl HI1.out rfl ?_)
          | ((with_reducible refine at_load (.tmp 13) ?_); refine wpList_load_part 24 (.tmp 13) rfl (w.heap.size + 1) _ 1 1 R2 B2.out rfl HO2.out.2.1 rfl _ Try.underlying24 rfl HI2.out rfl ?_)
          | ((with_reducible refine at_load (.tmp 18) ?_); refine wpList_load_part 26 (.tmp 18) rfl w.heap.size _ 2 33 C1 B1.out rfl HO1.out.2.2.1 rfl _ Try.underlying26 rfl HI3.out rfl ?_)
          | ((with_reducible refine at_load (.tmp 20) ?_); refine wpList_load_part 26 (.tmp 20) rfl (w.heap.size + 1) _ 2 33 C2 B2.out rfl HO2.out.2.2.1 rfl _ Try.underlying26 rfl HI4.out rfl ?_)
          | ((with_reducible refine at_load (.tmp 25) ?_); refine wpList_load_1 33 (.tmp 25) rfl w.heap.size 66 (.slice a1 n1 k1) (B1.out.cellAt (k := 3) rfl HO1.out.2.2.2.1) rfl _ Try.underlying33 rfl rfl ?_)
          | ((with_reducible refine at_load (.tmp 27) ?_); refine wpList_load_1 33 (.tmp 27) rfl (w.heap.size + 1) 66 (.slice a2 n2 k2) (B2.out.cellAt (k := 3) rfl HO2.out.2.2.2.1) rfl _ Try.underlying33 rfl rfl ?_))
        go_ret
        exact tells_no (fun h => by have := HC.out.2 h.2.2.1; cases this) HBA.out
      case true =>
        go_enter Try.func32, Try.ntmps32
        go_wp2_with (first
          | ((with_reducible refine at_load (.tmp 5) ?_); refine wpList_load_1 22 (.tmp 5) rfl w.heap.size 0 (.int .u64 s1) (B1.out.cellAt (k := 0) rfl HO1.out.1) rfl _ Try.underlying22 rfl rfl ?_)
          | ((with_reducible refine at_load (.tmp 7) ?_); refine wpList_load_1 22 (.tmp 7) rfl (w.heap.size + 1) 0 (.int .u64 s2) (B2.out.cellAt (k := 0) rfl HO2.out.1) rfl _ Try.underlying22 rfl rfl ?_)
          | ((with_reducible refine at_load (.tmp 11) ?_); refine wpList_load_part 24 (.tmp 11) rfl w.heap.size _ 1 1 R1 B1.out rfl HO1.out.2.1 rfl _ Try.underlying24 rfl HI1.out rfl ?_)
          | ((with_reducible refine at_load (.tmp 13) ?_); refine wpList_load_part 24 (.tmp 13) rfl (w.heap.size + 1) _ 1 1 R2 B2.out rfl HO2.out.2.1 rfl _ Try.underlying24 rfl HI2.out rfl ?_)
          | ((with_reducible refine at_load (.tmp 18) ?_); refine wpList_load_part 26 (.tmp 18) rfl w.heap.size _ 2 33 C1 B1.out rfl HO1.out.2.2.1 rfl _ Try.underlying26 rfl HI3.out rfl ?_)
          | ((with_reducible refine at_load (.tmp 20) ?_); refine wpList_load_part 26 (.tmp 20) rfl (w.heap.size + 1) _ 2 33 C2 B2.out rfl HO2.out.2.2.1 rfl _ Try.underlying26 rfl HI4.out rfl ?_)
          | ((with_reducible refine at_load (.tmp 25) ?_); refine wpList_load_1 33 (.tmp 25) rfl w.heap.size 66 (.slice a1 n1 k1) (B1.out.cellAt (k := 3) rfl HO1.out.2.2.2.1) rfl _ Try.underlying33 rfl rfl ?_)
          | ((with_reducible refine at_load (.tmp 27) ?_); refine wpList_load_1 33 (.tmp 27) rfl (w.heap.size + 1) 66 (.slice a2 n2 k2) (B2.out.cellAt (k := 3) rfl HO2.out.2.2.2.1) rfl _ Try.underlying33 rfl rfl ?_)
          | (go_at_call 54; refine DS.out.mono ?_; rintro e w1 ⟨b9, rfl, hb9', hb1⟩; have HB1 := Lib.hid hb1; have hb9 := Lib.hid hb9'; clear hb1 hb9'))
        go_ret
        exact ⟨b9, rfl, hb9.out.trans ⟨fun h => ⟨HS.out.1 (by simp), HR.out.1 (by simp), HC.out.1 (by simp), h⟩, fun h => h.2.2.2⟩, HBA.out.trans (HB1.out.mono HBA.out.size)⟩

set_option maxRecDepth 100000 in
set_option maxHeartbeats 8000000 in
theorem scl2 (s1 s2 t1 t2 : Int) (r1 r2 : List Int) (v1 v2 : Value) (l1 l2 : List Int) (w : World) (hr1 : IsBytes 32 r1) (hr2 : IsBytes 32 r2) (h1 : IntsV w v1 l1) (h2 : IntsV w v2 l2) :
    Calls Try.prog 55 #[.agg (flatP [[.int .u64 s1], [.int .u64 t1], bytesL r1, [v1]]), .agg (flatP [[.int .u64 s2], [.int .u64 t2], bytesL r2, [v2]])] w (Tells w (s1 = s2 ∧ t1 = t2 ∧ r1 = r2 ∧ l1 = l2)) := by
  obtain ⟨a1, n1, k1, rfl⟩ := ints_shape' h1.1
  obtain ⟨a2, n2, k2, rfl⟩ := ints_shape' h2.1
  have oo : ∀ (s t : Int) (r : List Int) (v : Value), IsBytes 32 r → offP [[Value.int .u64 s], [.int .u64 t], bytesL r, [v]] 0 = 0 ∧ offP [[Value.int .u64 s], [.int .u64 t], bytesL r, [v]] 1 = 1 ∧ offP [[Value.int .u64 s], [.int .u64 t], bytesL r, [v]] 2 = 2 ∧ offP [[Value.int .u64 s], [.int .u64 t], bytesL r, [v]] 3 = 34 := fun s t r v hr => ⟨rfl, rfl, rfl, by simp [offP, bytesL_len hr]⟩
  have HO1 := Lib.hid (oo s1 t1 r1 (.slice a1 n1 k1) hr1)
  have HO2 := Lib.hid (oo s2 t2 r2 (.slice a2 n2 k2) hr2)
  clear oo
  obtain ⟨X, HX⟩ : ∃ X, Hid (flatP [[Value.int .u64 s1], [.int .u64 t1], bytesL r1, [.slice a1 n1 k1]] = X) := ⟨_, rfl⟩
  obtain ⟨Y, HY⟩ : ∃ Y, Hid (flatP [[Value.int .u64 s2], [.int .u64 t2], bytesL r2, [.slice a2 n2 k2]] = Y) := ⟨_, rfl⟩
  rw [HX.out, HY.out]
  have hba := ((Below.refl w.heap.size w).alloc (Nat.le_refl _) (.cells X 37)).alloc (by simp) (.cells Y 37)
  have B1 : Hid (Blk ((w.alloc (.cells X 37)).alloc (.cells Y 37)) w.heap.size (flatP [[.int .u64 s1], [.int .u64 t1], bytesL r1, [.slice a1 n1 k1]])) := ((Blk.new rfl).alloc _).to HX.out.symm
  have B2 : Hid (Blk ((w.alloc (.cells X 37)).alloc (.cells Y 37)) (w.heap.size + 1) (flatP [[.int .u64 s2], [.int .u64 t2], bytesL r2, [.slice a2 n2 k2]])) := (Blk.new (by simp)).to HY.out.symm
  have DS := Lib.hid (sints2 _ _ l1 l2 _ (h1.below hba) (h2.below hba))
  have HBA := Lib.hid hba; clear hba
  have E1 := eq_root hr1 hr2
  have HI1 : Hid ((Try.prog.info? 24).map (·.size) = some (bytesL r1).length) := by show _ = _; rw [bytesL_len hr1]; kernel_rfl
  have HI2 : Hid ((Try.prog.info? 24).map (·.size) = some (bytesL r2).length) := by show _ = _; rw [bytesL_len hr2]; kernel_rfl
  clear h1 h2 hr1 hr2 HX HY
  rw [bytesL_V, bytesL_V] at E1
  obtain ⟨bs, hbs⟩ : ∃ b, (s1 == s2) = b := ⟨_, rfl⟩
  have HS : Hid (bs = true ↔ s1 = s2) := by show _ ↔ _; rw [← hbs]; simp
  obtain ⟨bt, hbt⟩ : ∃ b, (t1 == t2) = b := ⟨_, rfl⟩
  have HT : Hid (bt = true ↔ t1 = t2) := by show _ ↔ _; rw [← hbt]; simp
  obtain ⟨br, hbr⟩ : ∃ b, decide (r1 = r2) = b := ⟨_, rfl⟩
  have HR : Hid (br = true ↔ r1 = r2) := by show _ ↔ _; rw [← hbr]; simp
  rw [hbr] at E1
  clear hbr
  obtain ⟨R1, HR1⟩ : ∃ R, bytesL r1 = R := ⟨_, rfl⟩
  obtain ⟨R2, HR2⟩ : ∃ R, bytesL r2 = R := ⟨_, rfl⟩
  rw [HR1] at E1 HI1 B1 HO1
  rw [HR2] at E1 HI2 B2 HO2
  clear HR1 HR2
  cases bs
  case false =>
    go_enter Try.func55, Try.ntmps55
    go_wp2_with (first
      | ((with_reducible refine at_load (.tmp 5) ?_); refine wpList_load_1 22 (.tmp 5) rfl w.heap.size 0 (.int .u64 s1) (B1.out.cellAt (k := 0) rfl HO1.out.1) rfl _ Try.underlying22 rfl rfl ?_)
      | ((with_reducible refine at_load (.tmp 7) ?_); refine wpList_load_1 22 (.tmp 7) rfl (w.heap.size + 1) 0 (.int .u64 s2) (B2.out.cellAt (k := 0) rfl HO2.out.1) rfl _ Try.underlying22 rfl rfl ?_)
      | ((with_reducible refine at_load (.tmp 11) ?_); refine wpList_load_1 22 (.tmp 11) rfl w.heap.size 1 (.int .u64 t1) (B1.out.cellAt (k := 1) rfl HO1.out.2.1) rfl _ Try.underlying22 rfl rfl ?_)
      | ((with_reducible refine at_load (.tmp 13) ?_); refine wpList_load_1 22 (.tmp 13) rfl (w.heap.size + 1) 1 (.int .u64 t2) (B2.out.cellAt (k := 1) rfl HO2.out.2.1) rfl _ Try.underlying22 rfl rfl ?_)
      | ((with_reducible refine at_load (.tmp 18) ?_); refine wpList_load_part 24 (.tmp 18) rfl w.heap.size _ 2 2 R1 B1.out rfl HO1.out.2.2.1 rfl _ Try.underlying24 rfl HI1.out rfl ?_)
      | ((with_reducible refine at_load (.tmp 20) ?_); refine wpList_load_part 24 (.tmp 20) rfl (w.heap.size + 1) _ 2 2 R2 B2.out rfl HO2.out.2.2.1 rfl _ Try.underlying24 rfl HI2.out rfl ?_)
      | ((with_reducible refine at_load (.tmp 25) ?_); refine wpList_load_1 33 (.tmp 25) rfl w.heap.size 34 (.slice a1 n1 k1) (B1.out.cellAt (k := 3) rfl HO1.out.2.2.2) rfl _ Try.underlying33 rfl rfl ?_)
      | ((with_reducible refine at_load (.tmp 27) ?_); refine wpList_load_1 33 (.tmp 27) rfl (w.heap.size + 1) 34 (.slice a2 n2 k2) (B2.out.cellAt (k := 3) rfl HO2.out.2.2.2) rfl _ Try.underlying33 rfl rfl ?_))
    go_ret
    exact tells_no (fun h => by have := HS.out.2 h.1; cases this) HBA.out
  case true =>
    cases bt
    case false =>
      go_enter Try.func55, Try.ntmps55
      go_wp2_with (first
        | ((with_reducible refine at_load (.tmp 5) ?_); refine wpList_load_1 22 (.tmp 5) rfl w.heap.size 0 (.int .u64 s1) (B1.out.cellAt (k := 0) rfl HO1.out.1) rfl _ Try.underlying22 rfl rfl ?_)
        | ((with_reducible refine at_load (.tmp 7) ?_); refine wpList_load_1 22 (.tmp 7) rfl (w.heap.size + 1) 0 (.int .u64 s2) (B2.out.cellAt (k := 0) rfl HO2.out.1) rfl _ Try.underlying22 rfl rfl ?_)
        | ((with_reducible refine at_load (.tmp 11) ?_); refine wpList_load_1 22 (.tmp 11) rfl w.heap.size 1 (.int .u64 t1) (B1.out.cellAt (k := 1) rfl HO1.out.2.1) rfl _ Try.underlying22 rfl rfl ?_)
        | ((with_reducible refine at_load (.tmp 13) ?_); refine wpList_load_1 22 (.tmp 13) rfl (w.heap.size + 1) 1 (.int .u64 t2) (B2.out.cellAt (k := 1) rfl HO2.out.2.1) rfl _ Try.underlying22 rfl rfl ?_)
        | ((with_reducible refine at_load (.tmp 18) ?_); refine wpList_load_part 24 (.tmp 18) rfl w.heap.size _ 2 2 R1 B1.out rfl HO1.out.2.2.1 rfl _ Try.underlying24 rfl HI1.out rfl ?_)
        | ((with_reducible refine at_load (.tmp 20) ?_); refine wpList_load_part 24 (.tmp 20) rfl (w.heap.size + 1) _ 2 2 R2 B2.out rfl HO2.out.2.2.1 rfl _ Try.underlying24 rfl HI2.out rfl ?_)
        | ((with_reducible refine at_load (.tmp 25) ?_); refine wpList_load_1 33 (.tmp 25) rfl w.heap.size 34 (.slice a1 n1 k1) (B1.out.cellAt (k := 3) rfl HO1.out.2.2.2) rfl _ Try.underlying33 rfl rfl ?_)
        | ((with_reducible refine at_load (.tmp 27) ?_); refine wpList_load_1 33 (.tmp 27) rfl (w.heap.size + 1) 34 (.slice a2 n2 k2) (B2.out.cellAt (k := 3) rfl HO2.out.2.2.2) rfl _ Try.underlying33 rfl rfl ?_))
      go_ret
      exact tells_no (fun h => by have := HT.out.2 h.2.1; cases this) HBA.out
    case true =>
      cases br
      case false =>
        go_enter Try.func55, Try.ntmps55
        go_wp2_with (first
          | ((with_reducible refine at_load (.tmp 5) ?_); refine wpList_load_1 22 (.tmp 5) rfl w.heap.size 0 (.int .u64 s1) (B1.out.cellAt (k := 0) rfl HO1.out.1) rfl _ Try.underlying22 rfl rfl ?_)
          | ((with_reducible refine at_load (.tmp 7) ?_); refine wpList_load_1 22 (.tmp 7) rfl (w.heap.size + 1) 0 (.int .u64 s2) (B2.out.cellAt (k := 0) rfl HO2.out.1) rfl _ Try.underlying22 rfl rfl ?_)
          | ((with_reducible refine at_load (.tmp 11) ?_); refine wpList_load_1 22 (.tmp 11) rfl w.heap.size 1 (.int .u64 t1) (B1.out.cellAt (k := 1) rfl HO1.out.2.1) rfl _ Try.underlying22 rfl rfl ?_)
          | ((with_reducible refine at_load (.tmp 13) ?_); refine wpList_load_1 22 (.tmp 13) rfl (w.heap.size + 1) 1 (.int .u64 t2) (B2.out.cellAt (k := 1) rfl HO2.out.2.1) rfl _ Try.underlying22 rfl rfl ?_)
          | ((with_reducible refine at_load (.tmp 18) ?_); refine wpList_load_part 24 (.tmp 18) rfl w.heap.size _ 2 2 R1 B1.out rfl HO1.out.2.2.1 rfl _ Try.underlying24 rfl HI1.out rfl ?_)
          | ((with_reducible refine at_load (.tmp 20) ?_); refine wpList_load_part 24 (.tmp 20) rfl (w.heap.size + 1) _ 2 2 R2 B2.out rfl HO2.out.2.2.1 rfl _ Try.underlying24 rfl HI2.out rfl ?_)
          | ((with_reducible refine at_load (.tmp 25) ?_); refine wpList_load_1 33 (.tmp 25) rfl w.heap.size 34 (.slice a1 n1 k1) (B1.out.cellAt (k := 3) rfl HO1.out.2.2.2) rfl _ Try.underlying33 rfl rfl ?_)
          | ((with_reducible refine at_load (.tmp 27) ?_); refine wpList_load_1 33 (.tmp 27) rfl (w.heap.size + 1) 34 (.slice a2 n2 k2) (B2.out.cellAt (k := 3) rfl HO2.out.2.2.2) rfl _ Try.underlying33 rfl rfl ?_))
        go_ret
        exact tells_no (fun h => by have := HR.out.2 h.2.2.1; cases this) HBA.out
      case true =>
        go_enter Try.func55, Try.ntmps55
        go_wp2_with (first
          | ((with_reducible refine at_load (.tmp 5) ?_); refine wpList_load_1 22 (.tmp 5) rfl w.heap.size 0 (.int .u64 s1) (B1.out.cellAt (k := 0) rfl HO1.out.1) rfl _ Try.underlying22 rfl rfl ?_)
          | ((with_reducible refine at_load (.tmp 7) ?_); refine wpList_load_1 22 (.tmp 7) rfl (w.heap.size + 1) 0 (.int .u64 s2) (B2.out.cellAt (k := 0) rfl HO2.out.1) rfl _ Try.underlying22 rfl rfl ?_)
          | ((with_reducible refine at_load (.tmp 11) ?_); refine wpList_load_1 22 (.tmp 11) rfl w.heap.size 1 (.int .u64 t1) (B1.out.cellAt (k := 1) rfl HO1.out.2.1) rfl _ Try.underlying22 rfl rfl ?_)
          | ((with_reducible refine at_load (.tmp 13) ?_); refine wpList_load_1 22 (.tmp 13) rfl (w.heap.size + 1) 1 (.int .u64 t2) (B2.out.cellAt (k := 1) rfl HO2.out.2.1) rfl _ Try.underlying22 rfl rfl ?_)
          | ((with_reducible refine at_load (.tmp 18) ?_); refine wpList_load_part 24 (.tmp 18) rfl w.heap.size _ 2 2 R1 B1.out rfl HO1.out.2.2.1 rfl _ Try.underlying24 rfl HI1.out rfl ?_)
          | ((with_reducible refine at_load (.tmp 20) ?_); refine wpList_load_part 24 (.tmp 20) rfl (w.heap.size + 1) _ 2 2 R2 B2.out rfl HO2.out.2.2.1 rfl _ Try.underlying24 rfl HI2.out rfl ?_)
          | ((with_reducible refine at_load (.tmp 25) ?_); refine wpList_load_1 33 (.tmp 25) rfl w.heap.size 34 (.slice a1 n1 k1) (B1.out.cellAt (k := 3) rfl HO1.out.2.2.2) rfl _ Try.underlying33 rfl rfl ?_)
          | ((with_reducible refine at_load (.tmp 27) ?_); refine wpList_load_1 33 (.tmp 27) rfl (w.heap.size + 1) 34 (.slice a2 n2 k2) (B2.out.cellAt (k := 3) rfl HO2.out.2.2.2) rfl _ Try.underlying33 rfl rfl ?_)
          | (go_at_call 54; refine DS.out.mono ?_; rintro e w1 ⟨b9, rfl, hb9', hb1⟩; have HB1 := Lib.hid hb1; have hb9 := Lib.hid hb9'; clear hb1 hb9'))
        go_ret
        exact ⟨b9, rfl, hb9.out.trans ⟨fun h => ⟨HS.out.1 (by simp), HT.out.1 (by simp), HR.out.1 (by simp), h⟩, fun h => h.2.2.2⟩, HBA.out.trans (HB1.out.mono HBA.out.size)⟩

set_option maxRecDepth 100000 in
set_option maxHeartbeats 8000000 in
theorem stab2 (p1 p2 : CpD) (v1 v2 : Value) (l1 l2 : List Int) (w : World) (hp1 : p1.ok) (hp2 : p2.ok) (h1 : NumsV w v1 l1) (h2 : NumsV w v2 l2) :
    Calls Try.prog 34 #[.agg (flatP [p1.cells, [v1]]), .agg (flatP [p2.cells, [v2]])] w (Tells w (p1 = p2 ∧ l1 = l2)) := by
  obtain ⟨a1, n1, k1, rfl⟩ := ints_shape' h1.1
  obtain ⟨a2, n2, k2, rfl⟩ := ints_shape' h2.1
  have oo : ∀ (p : CpD) (v : Value), p.ok → offP [p.cells, [v]] 0 = 0 ∧ offP [p.cells, [v]] 1 = 33 := fun p v hp => ⟨rfl, by simp [offP, CpD.len hp]⟩
  have HO1 := Lib.hid (oo p1 (.slice a1 n1 k1) hp1)
  have HO2 := Lib.hid (oo p2 (.slice a2 n2 k2) hp2)
  clear oo
  obtain ⟨X, HX⟩ : ∃ X, Hid (flatP [p1.cells, [.slice a1 n1 k1]] = X) := ⟨_, rfl⟩
  obtain ⟨Y, HY⟩ : ∃ Y, Hid (flatP [p2.cells, [.slice a2 n2 k2]] = Y) := ⟨_, rfl⟩
  rw [HX.out, HY.out]
  have hba := ((Below.refl w.heap.size w).alloc (Nat.le_refl _) (.cells X 42)).alloc (by simp) (.cells Y 42)
  have B1 : Hid (Blk ((w.alloc (.cells X 42)).alloc (.cells Y 42)) w.heap.size (flatP [p1.cells, [.slice a1 n1 k1]])) := ((Blk.new rfl).alloc _).to HX.out.symm
  have B2 : Hid (Blk ((w.alloc (.cells X 42)).alloc (.cells Y 42)) (w.heap.size + 1) (flatP [p2.cells, [.slice a2 n2 k2]])) := (Blk.new (by simp)).to HY.out.symm
  have DS := Lib.hid (snums2 _ _ l1 l2 _ (h1.below hba) (h2.below hba))
  have HBA := Lib.hid hba; clear hba
  obtain ⟨bc, E2, hbc⟩ := eq_cp2 hp1 hp2
  have hbc' : bc = true ↔ p1 = p2 := by rw [hbc]; exact ⟨CpD.inj, fun e => by rw [e]⟩
  have HI3 : Hid ((Try.prog.info? 26).map (·.size) = some p1.cells.length) := by show _ = _; rw [CpD.len hp1]; kernel_rfl
  have HI4 : Hid ((Try.prog.info? 26).map (·.size) = some p2.cells.length) := by show _ = _; rw [CpD.len hp2]; kernel_rfl
  clear h1 h2 hp1 hp2 hbc HX HY
  have HC := Lib.hid hbc'; clear hbc'
  obtain ⟨C1, HC1⟩ : ∃ C, p1.cells = C := ⟨_, rfl⟩
  obtain ⟨C2, HC2⟩ : ∃ C, p2.cells = C := ⟨_, rfl⟩
  rw [HC1] at E2 HI3 B1 HO1
  rw [HC2] at E2 HI4 B2 HO2
  clear HC1 HC2
  cases bc
  case false =>
    go_enter Try.func34, Try.ntmps34
    go_wp2_with (first
      | ((with_reducible refine at_load (.tmp 5) ?_); refine wpList_load_part 26 (.tmp 5) rfl w.heap.size _ 0 0 C1 B1.out rfl HO1.out.1 rfl _ Try.underlying26 rfl HI3.out rfl ?_)
      | ((with_reducible refine at_load (.tmp 7) ?_); refine wpList_load_part 26 (.tmp 7) rfl (w.heap.size + 1) _ 0 0 C2 B2.out rfl HO2.out.1 rfl _ Try.underlying26 rfl HI4.out rfl ?_)
      | ((with_reducible refine at_load (.tmp 11) ?_); refine wpList_load_1 40 (.tmp 11) rfl w.heap.size 33 (.slice a1 n1 k1) (B1.out.cellAt (k := 1) rfl HO1.out.2) rfl _ Try.underlying40 rfl rfl ?_)
      | ((with_reducible refine at_load (.tmp 13) ?_); refine wpList_load_1 40 (.tmp 13) rfl (w.heap.size + 1) 33 (.slice a2 n2 k2) (B2.out.cellAt (k := 1) rfl HO2.out.2) rfl _ Try.underlying40 rfl rfl ?_))
    go_ret
    exact tells_no (fun h => by have := HC.out.2 h.1; cases this) HBA.out
  case true =>
    go_enter Try.func34, Try.ntmps34
    go_wp2_with (first
      | ((with_reducible refine at_load (.tmp 5) ?_); refine wpList_load_part 26 (.tmp 5) rfl w.heap.size _ 0 0 C1 B1.out rfl HO1.out.1 rfl _ Try.underlying26 rfl HI3.out rfl ?_)
      | ((with_reducible refine at_load (.tmp 7) ?_); refine wpList_load_part 26 (.tmp 7) rfl (w.heap.size + 1) _ 0 0 C2 B2.out rfl HO2.out.1 rfl _ Try.underlying26 rfl HI4.out rfl ?_)
      | ((with_reducible refine at_load (.tmp 11) ?_); refine wpList_load_1 40 (.tmp 11) rfl w.heap.size 33 (.slice a1 n1 k1) (B1.out.cellAt (k := 1) rfl HO1.out.2) rfl _ Try.underlying40 rfl rfl ?_)
      | ((with_reducible refine at_load (.tmp 13) ?_); refine wpList_load_1 40 (.tmp 13) rfl (w.heap.size + 1) 33 (.slice a2 n2 k2) (B2.out.cellAt (k := 1) rfl HO2.out.2) rfl _ Try.underlying40 rfl rfl ?_)
      | (go_at_call 56; refine DS.out.mono ?_; rintro e w1 ⟨b9, rfl, hb9', hb1⟩; have HB1 := Lib.hid hb1; have hb9 := Lib.hid hb9'; clear hb1 hb9'))
    go_ret
    exact ⟨b9, rfl, hb9.out.trans ⟨fun h => ⟨HC.out.1 (by simp), h⟩, fun h => h.2⟩, HBA.out.trans (HB1.out.mono HBA.out.size)⟩

def SameCl (x y : ClD) (l m : List Int) : Prop := x.source = y.source ∧ x.target = y.target ∧ x.root = y.root ∧ l = m

theorem scl3 (x y : ClD) (l m : List Int) (w : World) (hx : x.ok) (hy : y.ok) (h1 : IntsV w x.v l) (h2 : IntsV w y.v m) :
    Calls Try.prog 55 #[.agg x.cells.toArray, .agg y.cells.toArray] w (Tells w (SameCl x y l m)) :=
  scl2 x.source y.source x.target y.target x.root y.root x.v y.v l m w hx.2.2 hy.2.2 h1 h2

theorem tells_true {w w' : World} {p : Prop} {en : Ending} (h : Tells w p en w') (hp : p) : en = .returned (.bool true) ∧ Below w.heap.size w w' := by
  obtain ⟨b, h1, h2, h3⟩ := h
  rw [h2.2 hp] at h1; exact ⟨h1, h3⟩
theorem tells_false {w w' : World} {p : Prop} {en : Ending} (h : Tells w p en w') (hp : ¬ p) : en = .returned (.bool false) ∧ Below w.heap.size w w' := by
  obtain ⟨b, h1, h2, h3⟩ := h
  cases b
  · exact ⟨h1, h3⟩
  · exact absurd (h2.1 rfl) hp

set_option maxRecDepth 100000 in
set_option maxHeartbeats 8000000 in
theorem ssl2 (x1 y1 x2 y2 : ClD) (l1 m1 l2 m2 : List Int) (w : World) (hx1 : x1.ok) (hy1 : y1.ok) (hx2 : x2.ok) (hy2 : y2.ok) (i1 : IntsV w x1.v l1) (j1 : IntsV w y1.v m1) (i2 : IntsV w x2.v l2) (j2 : IntsV w y2.v m2) :
    Calls Try.prog 33 #[.agg (flatP [x1.cells, y1.cells]), .agg (flatP [x2.cells, y2.cells])] w (Tells w (SameCl x1 x2 l1 l2 ∧ SameCl y1 y2 m1 m2)) := by
  have DX := Lib.hid (fun u (hu : Below w.heap.size w u) => scl3 x1 x2 l1 l2 u hx1 hx2 (i1.below hu) (i2.below hu))
  have DY := Lib.hid (fun u (hu : Below w.heap.size w u) => scl3 y1 y2 m1 m2 u hy1 hy2 (j1.below hu) (j2.below hu))
  have HL1 := Lib.hid (ClD.len hx1)
  have HL2 := Lib.hid (ClD.len hx2)
  have HI1 : Hid ((Try.prog.info? 37).map (·.size) = some x1.cells.length) := by show _ = _; rw [ClD.len hx1]; kernel_rfl
  have HI2 : Hid ((Try.prog.info? 37).map (·.size) = some x2.cells.length) := by show _ = _; rw [ClD.len hx2]; kernel_rfl
  have HI3 : Hid ((Try.prog.info? 37).map (·.size) = some y1.cells.length) := by show _ = _; rw [ClD.len hy1]; kernel_rfl
  have HI4 : Hid ((Try.prog.info? 37).map (·.size) = some y2.cells.length) := by show _ = _; rw [ClD.len hy2]; kernel_rfl
  clear hx1 hy1 hx2 hy2 i1 j1 i2 j2
  obtain ⟨X, HX⟩ : ∃ X, Hid (flatP [x1.cells, y1.cells] = X) := ⟨_, rfl⟩
  obtain ⟨Y, HY⟩ : ∃ Y, Hid (flatP [x2.cells, y2.cells] = Y) := ⟨_, rfl⟩
  rw [HX.out, HY.out]
  have hba := ((Below.refl w.heap.size w).alloc (Nat.le_refl _) (.cells X 39)).alloc (by simp) (.cells Y 39)
  have B1 : Hid (Blk ((w.alloc (.cells X 39)).alloc (.cells Y 39)) w.heap.size (flatP [x1.cells, y1.cells])) := ((Blk.new rfl).alloc _).to HX.out.symm
  have B2 : Hid (Blk ((w.alloc (.cells X 39)).alloc (.cells Y 39)) (w.heap.size + 1) (flatP [x2.cells, y2.cells])) := (Blk.new (by simp)).to HY.out.symm
  have HBA := Lib.hid hba; clear hba HX HY
  generalize SameCl x1 x2 l1 l2 = p at *
  generalize SameCl y1 y2 m1 m2 = q at *
  generalize x1.cells = C1 at *
  generalize x2.cells = C2 at *
  generalize y1.cells = C3 at *
  generalize y2.cells = C4 at *
  by_cases hp : p
  case neg =>
    have HP := Lib.hid hp; clear hp
    go_enter Try.func33, Try.ntmps33
    go_wp2_with (first
      | ((with_reducible refine at_load (.tmp 5) ?_); refine wpList_load_part 37 (.tmp 5) rfl w.heap.size _ 0 0 C1 B1.out rfl rfl rfl _ Try.underlying37 rfl HI1.out rfl ?_)
      | ((with_reducible refine at_load (.tmp 7) ?_); refine wpList_load_part 37 (.tmp 7) rfl (w.heap.size + 1) _ 0 0 C2 B2.out rfl rfl rfl _ Try.underlying37 rfl HI2.out rfl ?_)
      | (go_at_call 55; refine (DX.out _ HBA.out).mono ?_; rintro e w1 hh; obtain ⟨rfl, hb1⟩ := tells_false hh HP.out; have HB1 := Lib.hid (HBA.out.trans (hb1.mono HBA.out.size)); clear hh hb1))
    go_ret
    exact tells_no (fun h => HP.out h.1) HB1.out
  case pos =>
    have HP := Lib.hid hp; clear hp
    go_enter Try.func33, Try.ntmps33
    go_wp2_with (first
      | ((with_reducible refine at_load (.tmp 5) ?_); refine wpList_load_part 37 (.tmp 5) rfl w.heap.size _ 0 0 C1 B1.out rfl rfl rfl _ Try.underlying37 rfl HI1.out rfl ?_)
      | ((with_reducible refine at_load (.tmp 7) ?_); refine wpList_load_part 37 (.tmp 7) rfl (w.heap.size + 1) _ 0 0 C2 B2.out rfl rfl rfl _ Try.underlying37 rfl HI2.out rfl ?_)
      | ((with_reducible refine at_load (.tmp 11) ?_); refine wpList_load_part 37 (.tmp 11) rfl w.heap.size _ 1 35 C3 K1.out rfl (by simp [offP, HL1.out]) rfl _ Try.underlying37 rfl HI3.out rfl ?_)
      | ((with_reducible refine at_load (.tmp 13) ?_); refine wpList_load_part 37 (.tmp 13) rfl (w.heap.size + 1) _ 1 35 C4 K2.out rfl (by simp [offP, HL2.out]) rfl _ Try.underlying37 rfl HI4.out rfl ?_)
      | (go_at_call 55; refine (DY.out _ HB1.out).mono ?_; rintro e w2 ⟨b9, rfl, hb9', hb2⟩; have HB2 := Lib.hid (HB1.out.trans (hb2.mono HB1.out.size)); have hb9 := Lib.hid hb9'; clear hb9' hb2)
      | (go_at_call 55; refine (DX.out _ HBA.out).mono ?_; rintro e w1 hh; obtain ⟨rfl, hb1⟩ := tells_true hh HP.out; have HB1 := Lib.hid (HBA.out.trans (hb1.mono HBA.out.size)); have K1 := Lib.hid (B1.out.call hb1); have K2 := Lib.hid (B2.out.call hb1); clear hh hb1))
    go_ret
    exact ⟨b9, rfl, hb9.out.trans ⟨fun h => ⟨HP.out, h⟩, fun h => h.2⟩, HB2.out⟩
end

/-! ScE -/
section
set_option linter.unusedVariables false
set_option linter.unusedSimpArgs false
open Go.RowKit

def SameC (x y : ClP) : Prop := x.source = y.source ∧ x.target = y.target ∧ x.root = y.root ∧ x.l = y.l
/-- Two operations are the same. -/
structure SameD (d e : OpD) : Prop where
  k : d.k = e.k
  b : flatP d.b.parts = flatP e.b.parts
  a : d.a.slot = e.a.slot ∧ d.a.root = e.a.root ∧ d.a.cp = e.a.cp ∧ d.a.l = e.a.l
  s : SameC d.c1 e.c1 ∧ SameC d.c2 e.c2
  t : d.tc = e.tc ∧ d.tl = e.tl
  v : flatP d.v.parts = flatP e.v.parts
  w : d.w = e.w
  p : d.p = e.p
theorem SameD.rfl' (d : OpD) : SameD d d := ⟨rfl, rfl, ⟨rfl, rfl, rfl, rfl⟩, ⟨⟨rfl, rfl, rfl, rfl⟩, ⟨rfl, rfl, rfl, rfl⟩⟩, ⟨rfl, rfl⟩, rfl, rfl, rfl⟩

theorem op_offs {x : OpD} (h : x.ok) (v1 v2 v3 v4 : Value) (k : Nat) : offP (x.parts v1 v2 v3 v4) k = ([1, 238, 67, 70, 34, 34, 1, 1].take k).sum := offs_of (OpD.lens h v1 v2 v3 v4) k

set_option maxRecDepth 100000 in
set_option maxHeartbeats 16000000 in
theorem sop_any (P Q : Value → Prop) (X Y : Array Value) (d e : OpD) (w : World) (hX : OpIn P w X d) (hY : OpIn Q w Y e) :
    Calls Try.prog 20 #[.agg X, .agg Y] w (Tells w (SameD d e)) := by
  have hX0 := hX.size
  have hY0 := hY.size
  obtain ⟨v1, v2, v3, v4, eX, ok1, ⟨i1, _⟩, ⟨i2, _⟩, ⟨i3, _⟩, ⟨i4, _⟩⟩ := hX
  obtain ⟨u1, u2, u3, u4, eY, ok2, ⟨j1, _⟩, ⟨j2, _⟩, ⟨j3, _⟩, ⟨j4, _⟩⟩ := hY
  have ok1' := ok1
  have ok2' := ok2
  obtain ⟨_, b1, a1, c1, c1', t1, w1, _⟩ := ok1'
  obtain ⟨_, b2, a2, c2, c2', t2, w2, _⟩ := ok2'
  have DA : Hid (∀ u, Below w.heap.size w u → Calls Try.prog 32 #[.agg (d.a.d v1).parts.flatten.toArray, .agg (e.a.d u1).parts.flatten.toArray] u (Tells u (d.a.slot = e.a.slot ∧ d.a.root = e.a.root ∧ d.a.cp = e.a.cp ∧ d.a.l = e.a.l))) := fun u hu => satt2 _ _ _ _ _ _ _ _ _ _ u a1.2.1 a2.2.1 a1.2.2 a2.2.2 (i1.below hu) (j1.below hu)
  have DS : Hid (∀ u, Below w.heap.size w u → Calls Try.prog 33 #[.agg [(d.c1.d v2).cells, (d.c2.d v3).cells].flatten.toArray, .agg [(e.c1.d u2).cells, (e.c2.d u3).cells].flatten.toArray] u (Tells u (SameC d.c1 e.c1 ∧ SameC d.c2 e.c2))) := fun u hu => ssl2 (d.c1.d v2) (d.c2.d v3) (e.c1.d u2) (e.c2.d u3) d.c1.l d.c2.l e.c1.l e.c2.l u c1 c1' c2 c2' (i2.below hu) (i3.below hu) (j2.below hu) (j3.below hu)
  have DT : Hid (∀ u, Below w.heap.size w u → Calls Try.prog 34 #[.agg [d.tc.cells, [v4]].flatten.toArray, .agg [e.tc.cells, [u4]].flatten.toArray] u (Tells u (d.tc = e.tc ∧ d.tl = e.tl))) := fun u hu => stab2 _ _ _ _ _ _ u t1 t2 (i4.below hu) (j4.below hu)
  obtain ⟨rb, E1, hrb⟩ := eq_blk2 b1 b2
  obtain ⟨rv, E5, hrv⟩ := eq_vd2 w1 w2
  have o1 := Lib.hid (op_offs ok1 v1 v2 v3 v4)
  have o2 := Lib.hid (op_offs ok2 u1 u2 u3 u4)
  have hba := ((Below.refl w.heap.size w).alloc (Nat.le_refl _) (.cells X 48)).alloc (by simp) (.cells Y 48)
  have G1 : Hid (Blk ((w.alloc (.cells X 48)).alloc (.cells Y 48)) w.heap.size (flatP (d.parts v1 v2 v3 v4))) := ((Blk.new rfl).alloc _).to eX
  have G2 : Hid (Blk ((w.alloc (.cells X 48)).alloc (.cells Y 48)) (w.heap.size + 1) (flatP (e.parts u1 u2 u3 u4))) := (Blk.new (by simp)).to eY
  have HB0 := Lib.hid hba
  have HS : Hid (SameD d e ↔ d.k = e.k ∧ flatP d.b.parts = flatP e.b.parts ∧ (d.a.slot = e.a.slot ∧ d.a.root = e.a.root ∧ d.a.cp = e.a.cp ∧ d.a.l = e.a.l) ∧ (SameC d.c1 e.c1 ∧ SameC d.c2 e.c2) ∧ (d.tc = e.tc ∧ d.tl = e.tl) ∧ flatP d.v.parts = flatP e.v.parts ∧ d.w = e.w ∧ d.p = e.p) :=
    ⟨fun h => ⟨h.k, h.b, h.a, h.s, h.t, h.v, h.w, h.p⟩, fun h => ⟨h.1, h.2.1, h.2.2.1, h.2.2.2.1, h.2.2.2.2.1, h.2.2.2.2.2.1, h.2.2.2.2.2.2.1, h.2.2.2.2.2.2.2⟩⟩
  have l1 := BkD.len238 b1
  have l2 := BkD.len238 b2
  have l3 := AtP.len (v := v1) a1
  have l4 := AtP.len (v := u1) a2
  have l5 : [(d.c1.d v2).cells, (d.c2.d v3).cells].flatten.length = 70 := by simp [ClP.len c1, ClP.len c1']
  have l6 : [(e.c1.d u2).cells, (e.c2.d u3).cells].flatten.length = 70 := by simp [ClP.len c2, ClP.len c2']
  have l7 : [d.tc.cells, [v4]].flatten.length = 34 := by simp [CpD.len t1]
  have l8 : [e.tc.cells, [u4]].flatten.length = 34 := by simp [CpD.len t2]
  have l9 := VdD.len w1
  have l10 := VdD.len w2
  unfold OpD.parts at G1 G2 o1 o2
  clear eX eY ok1 ok2 i1 i2 i3 i4 j1 j2 j3 j4 b1 b2 a1 a2 c1 c1' c2 c2' t1 t2 w1 w2 hba
  change ∀ w, Sem.run Try.prog (Op.equalIn 10000 32 (.agg d.b.parts.flatten.toArray) (.agg e.b.parts.flatten.toArray)) w = .ok rb w at E1
  change ∀ w, Sem.run Try.prog (Op.equalIn 10000 46 (.agg d.v.parts.flatten.toArray) (.agg e.v.parts.flatten.toArray)) w = .ok rv w at E5
  have HRB : Hid (rb = true ↔ flatP d.b.parts = flatP e.b.parts) := hrb
  have HRV : Hid (rv = true ↔ flatP d.v.parts = flatP e.v.parts) := hrv
  clear hrb hrv
  obtain ⟨qb, hqb⟩ : ∃ p : Prop, p = (flatP d.b.parts = flatP e.b.parts) := ⟨_, rfl⟩
  obtain ⟨qa, hqa⟩ : ∃ p : Prop, p = (d.a.slot = e.a.slot ∧ d.a.root = e.a.root ∧ d.a.cp = e.a.cp ∧ d.a.l = e.a.l) := ⟨_, rfl⟩
  obtain ⟨qs, hqs⟩ : ∃ p : Prop, p = (SameC d.c1 e.c1 ∧ SameC d.c2 e.c2) := ⟨_, rfl⟩
  obtain ⟨qt, hqt⟩ : ∃ p : Prop, p = (d.tc = e.tc ∧ d.tl = e.tl) := ⟨_, rfl⟩
  obtain ⟨qv, hqv⟩ : ∃ p : Prop, p = (flatP d.v.parts = flatP e.v.parts) := ⟨_, rfl⟩
  rw [← hqb] at HRB HS
  rw [← hqv] at HRV HS
  rw [← hqa] at DA HS
  rw [← hqs] at DS HS
  rw [← hqt] at DT HS
  clear hqb hqa hqs hqt hqv
  generalize d.b.parts.flatten = B1 at *
  generalize e.b.parts.flatten = B2 at *
  generalize (d.a.d v1).parts.flatten = A1 at *
  generalize (e.a.d u1).parts.flatten = A2 at *
  generalize [(d.c1.d v2).cells, (d.c2.d v3).cells].flatten = S1 at *
  generalize [(e.c1.d u2).cells, (e.c2.d u3).cells].flatten = S2 at *
  generalize [d.tc.cells, [v4]].flatten = T1 at *
  generalize [e.tc.cells, [u4]].flatten = T2 at *
  generalize d.v.parts.flatten = V1 at *
  generalize e.v.parts.flatten = V2 at *
  have HB1 : Hid ((Try.prog.info? 32).map (·.size) = some B1.length) := by show _ = _; rw [l1]; kernel_rfl
  have HB2 : Hid ((Try.prog.info? 32).map (·.size) = some B2.length) := by show _ = _; rw [l2]; kernel_rfl
  have HA1 : Hid ((Try.prog.info? 35).map (·.size) = some A1.length) := by show _ = _; rw [l3]; kernel_rfl
  have HA2 : Hid ((Try.prog.info? 35).map (·.size) = some A2.length) := by show _ = _; rw [l4]; kernel_rfl
  have HS1 : Hid ((Try.prog.info? 39).map (·.size) = some S1.length) := by show _ = _; rw [l5]; kernel_rfl
  have HS2 : Hid ((Try.prog.info? 39).map (·.size) = some S2.length) := by show _ = _; rw [l6]; kernel_rfl
  have HT1 : Hid ((Try.prog.info? 42).map (·.size) = some T1.length) := by show _ = _; rw [l7]; kernel_rfl
  have HT2 : Hid ((Try.prog.info? 42).map (·.size) = some T2.length) := by show _ = _; rw [l8]; kernel_rfl
  have HV1 : Hid ((Try.prog.info? 46).map (·.size) = some V1.length) := by show _ = _; rw [l9]; kernel_rfl
  have HV2 : Hid ((Try.prog.info? 46).map (·.size) = some V2.length) := by show _ = _; rw [l10]; kernel_rfl
  clear l1 l2 l3 l4 l5 l6 l7 l8 l9 l10 hX0 hY0
  obtain ⟨k1, hk1⟩ : ∃ n, d.k = n := ⟨_, rfl⟩
  obtain ⟨k2, hk2⟩ : ∃ n, e.k = n := ⟨_, rfl⟩
  obtain ⟨x1, hx1⟩ : ∃ n, d.w = n := ⟨_, rfl⟩
  obtain ⟨x2, hx2⟩ : ∃ n, e.w = n := ⟨_, rfl⟩
  obtain ⟨y1, hy1⟩ : ∃ n, d.p = n := ⟨_, rfl⟩
  obtain ⟨y2, hy2⟩ : ∃ n, e.p = n := ⟨_, rfl⟩
  rw [hk1] at HS G1 o1
  rw [hk2] at HS G2 o2
  rw [hx1] at HS G1 o1
  rw [hx2] at HS G2 o2
  rw [hy1] at HS G1 o1
  rw [hy2] at HS G2 o2
  clear hk1 hk2 hx1 hx2 hy1 hy2
  by_cases hq : k1 = k2
  case neg =>
    have q0 : (k1 == k2) = false := by simpa using hq
    have HQK := Lib.hid hq; clear hq
    go_enter Try.func20, Try.ntmps20
    go_wp2_with (first
      | ((with_reducible refine at_load (.tmp 5) ?_); refine wpList_load_1 3 (.tmp 5) rfl w.heap.size 0 (.int .i64 k1) (G1.out.cellAt (k := 0) rfl (by rw [o1.out]; rfl)) rfl _ Try.underlying3 rfl rfl ?_)
      | ((with_reducible refine at_load (.tmp 7) ?_); refine wpList_load_1 3 (.tmp 7) rfl (w.heap.size + 1) 0 (.int .i64 k2) (G2.out.cellAt (k := 0) rfl (by rw [o2.out]; rfl)) rfl _ Try.underlying3 rfl rfl ?_))
    go_ret
    exact tells_no (fun h0 => by have h := HS.out.1 h0; exact HQK.out h.1) HB0.out
  have q0 : (k1 == k2) = true := by simpa using hq
  have HQK := Lib.hid hq; clear hq
  cases rb
  case false =>
    have HQB : Hid (¬ qb) := fun h => by have := HRB.out.2 h; cases this
    go_enter Try.func20, Try.ntmps20
    go_wp2_with (first
      | ((with_reducible refine at_load (.tmp 5) ?_); refine wpList_load_1 3 (.tmp 5) rfl w.heap.size 0 (.int .i64 k1) (G1.out.cellAt (k := 0) rfl (by rw [o1.out]; rfl)) rfl _ Try.underlying3 rfl rfl ?_)
      | ((with_reducible refine at_load (.tmp 7) ?_); refine wpList_load_1 3 (.tmp 7) rfl (w.heap.size + 1) 0 (.int .i64 k2) (G2.out.cellAt (k := 0) rfl (by rw [o2.out]; rfl)) rfl _ Try.underlying3 rfl rfl ?_)
      | ((with_reducible refine at_load (.tmp 11) ?_); refine wpList_load_part 32 (.tmp 11) rfl w.heap.size _ 1 1 B1 G1.out rfl (by rw [o1.out]; rfl) rfl _ Try.underlying32 rfl HB1.out rfl ?_)
      | ((with_reducible refine at_load (.tmp 13) ?_); refine wpList_load_part 32 (.tmp 13) rfl (w.heap.size + 1) _ 1 1 B2 G2.out rfl (by rw [o2.out]; rfl) rfl _ Try.underlying32 rfl HB2.out rfl ?_))
    go_ret
    exact tells_no (fun h0 => by have h := HS.out.1 h0; exact HQB.out h.2.1) HB0.out
  have HQB : Hid qb := HRB.out.1 rfl
  by_cases hq : qa
  case neg =>
    have HQA := Lib.hid hq; clear hq
    go_enter Try.func20, Try.ntmps20
    go_wp2_with (first
      | ((with_reducible refine at_load (.tmp 5) ?_); refine wpList_load_1 3 (.tmp 5) rfl w.heap.size 0 (.int .i64 k1) (G1.out.cellAt (k := 0) rfl (by rw [o1.out]; rfl)) rfl _ Try.underlying3 rfl rfl ?_)
      | ((with_reducible refine at_load (.tmp 7) ?_); refine wpList_load_1 3 (.tmp 7) rfl (w.heap.size + 1) 0 (.int .i64 k2) (G2.out.cellAt (k := 0) rfl (by rw [o2.out]; rfl)) rfl _ Try.underlying3 rfl rfl ?_)
      | ((with_reducible refine at_load (.tmp 11) ?_); refine wpList_load_part 32 (.tmp 11) rfl w.heap.size _ 1 1 B1 G1.out rfl (by rw [o1.out]; rfl) rfl _ Try.underlying32 rfl HB1.out rfl ?_)
      | ((with_reducible refine at_load (.tmp 13) ?_); refine wpList_load_part 32 (.tmp 13) rfl (w.heap.size + 1) _ 1 1 B2 G2.out rfl (by rw [o2.out]; rfl) rfl _ Try.underlying32 rfl HB2.out rfl ?_)
      | ((with_reducible refine at_load (.tmp 18) ?_); refine wpList_load_part 35 (.tmp 18) rfl w.heap.size _ 2 239 A1 G1.out rfl (by rw [o1.out]; rfl) rfl _ Try.underlying35 rfl HA1.out rfl ?_)
      | ((with_reducible refine at_load (.tmp 20) ?_); refine wpList_load_part 35 (.tmp 20) rfl (w.heap.size + 1) _ 2 239 A2 G2.out rfl (by rw [o2.out]; rfl) rfl _ Try.underlying35 rfl HA2.out rfl ?_)
      | (go_at_call 32; refine (DA.out _ HB0.out).mono ?_; rintro en w1 hh; obtain ⟨rfl, hb1⟩ := tells_false hh HQA.out; have HB1 := Lib.hid (HB0.out.trans (hb1.mono HB0.out.size)); have K1 := Lib.hid (G1.out.call hb1); have L1 := Lib.hid (G2.out.call hb1); clear hh hb1))
    go_ret
    exact tells_no (fun h0 => by have h := HS.out.1 h0; exact HQA.out h.2.2.1) HB1.out
  have HQA := Lib.hid hq; clear hq
  by_cases hq : qs
  case neg =>
    have HQS := Lib.hid hq; clear hq
    go_enter Try.func20, Try.ntmps20
    go_wp2_with (first
      | ((with_reducible refine at_load (.tmp 5) ?_); refine wpList_load_1 3 (.tmp 5) rfl w.heap.size 0 (.int .i64 k1) (G1.out.cellAt (k := 0) rfl (by rw [o1.out]; rfl)) rfl _ Try.underlying3 rfl rfl ?_)
      | ((with_reducible refine at_load (.tmp 7) ?_); refine wpList_load_1 3 (.tmp 7) rfl (w.heap.size + 1) 0 (.int .i64 k2) (G2.out.cellAt (k := 0) rfl (by rw [o2.out]; rfl)) rfl _ Try.underlying3 rfl rfl ?_)
      | ((with_reducible refine at_load (.tmp 11) ?_); refine wpList_load_part 32 (.tmp 11) rfl w.heap.size _ 1 1 B1 G1.out rfl (by rw [o1.out]; rfl) rfl _ Try.underlying32 rfl HB1.out rfl ?_)
      | ((with_reducible refine at_load (.tmp 13) ?_); refine wpList_load_part 32 (.tmp 13) rfl (w.heap.size + 1) _ 1 1 B2 G2.out rfl (by rw [o2.out]; rfl) rfl _ Try.underlying32 rfl HB2.out rfl ?_)
      | ((with_reducible refine at_load (.tmp 18) ?_); refine wpList_load_part 35 (.tmp 18) rfl w.heap.size _ 2 239 A1 G1.out rfl (by rw [o1.out]; rfl) rfl _ Try.underlying35 rfl HA1.out rfl ?_)
      | ((with_reducible refine at_load (.tmp 20) ?_); refine wpList_load_part 35 (.tmp 20) rfl (w.heap.size + 1) _ 2 239 A2 G2.out rfl (by rw [o2.out]; rfl) rfl _ Try.underlying35 rfl HA2.out rfl ?_)
      | (go_at_call 32; refine (DA.out _ HB0.out).mono ?_; rintro en w1 hh; obtain ⟨rfl, hb1⟩ := tells_true hh HQA.out; have HB1 := Lib.hid (HB0.out.trans (hb1.mono HB0.out.size)); have K1 := Lib.hid (G1.out.call hb1); have L1 := Lib.hid (G2.out.call hb1); clear hh hb1)
      | ((with_reducible refine at_load (.tmp 25) ?_); refine wpList_load_part 39 (.tmp 25) rfl w.heap.size _ 3 306 S1 K1.out rfl (by rw [o1.out]; rfl) rfl _ Try.underlying39 rfl HS1.out rfl ?_)
      | ((with_reducible refine at_load (.tmp 27) ?_); refine wpList_load_part 39 (.tmp 27) rfl (w.heap.size + 1) _ 3 306 S2 L1.out rfl (by rw [o2.out]; rfl) rfl _ Try.underlying39 rfl HS2.out rfl ?_)
      | (go_at_call 33; refine (DS.out _ HB1.out).mono ?_; rintro en w2 hh; obtain ⟨rfl, hb2⟩ := tells_false hh HQS.out; have HB2 := Lib.hid (HB1.out.trans (hb2.mono HB1.out.size)); have K2 := Lib.hid (K1.out.call hb2); have L2 := Lib.hid (L1.out.call hb2); clear hh hb2))
    go_ret
    exact tells_no (fun h0 => by have h := HS.out.1 h0; exact HQS.out h.2.2.2.1) HB2.out
  have HQS := Lib.hid hq; clear hq
  by_cases hq : qt
  case neg =>
    have HQT := Lib.hid hq; clear hq
    go_enter Try.func20, Try.ntmps20
    go_wp2_with (first
      | ((with_reducible refine at_load (.tmp 5) ?_); refine wpList_load_1 3 (.tmp 5) rfl w.heap.size 0 (.int .i64 k1) (G1.out.cellAt (k := 0) rfl (by rw [o1.out]; rfl)) rfl _ Try.underlying3 rfl rfl ?_)
      | ((with_reducible refine at_load (.tmp 7) ?_); refine wpList_load_1 3 (.tmp 7) rfl (w.heap.size + 1) 0 (.int .i64 k2) (G2.out.cellAt (k := 0) rfl (by rw [o2.out]; rfl)) rfl _ Try.underlying3 rfl rfl ?_)
      | ((with_reducible refine at_load (.tmp 11) ?_); refine wpList_load_part 32 (.tmp 11) rfl w.heap.size _ 1 1 B1 G1.out rfl (by rw [o1.out]; rfl) rfl _ Try.underlying32 rfl HB1.out rfl ?_)
      | ((with_reducible refine at_load (.tmp 13) ?_); refine wpList_load_part 32 (.tmp 13) rfl (w.heap.size + 1) _ 1 1 B2 G2.out rfl (by rw [o2.out]; rfl) rfl _ Try.underlying32 rfl HB2.out rfl ?_)
      | ((with_reducible refine at_load (.tmp 18) ?_); refine wpList_load_part 35 (.tmp 18) rfl w.heap.size _ 2 239 A1 G1.out rfl (by rw [o1.out]; rfl) rfl _ Try.underlying35 rfl HA1.out rfl ?_)
      | ((with_reducible refine at_load (.tmp 20) ?_); refine wpList_load_part 35 (.tmp 20) rfl (w.heap.size + 1) _ 2 239 A2 G2.out rfl (by rw [o2.out]; rfl) rfl _ Try.underlying35 rfl HA2.out rfl ?_)
      | (go_at_call 32; refine (DA.out _ HB0.out).mono ?_; rintro en w1 hh; obtain ⟨rfl, hb1⟩ := tells_true hh HQA.out; have HB1 := Lib.hid (HB0.out.trans (hb1.mono HB0.out.size)); have K1 := Lib.hid (G1.out.call hb1); have L1 := Lib.hid (G2.out.call hb1); clear hh hb1)
      | ((with_reducible refine at_load (.tmp 25) ?_); refine wpList_load_part 39 (.tmp 25) rfl w.heap.size _ 3 306 S1 K1.out rfl (by rw [o1.out]; rfl) rfl _ Try.underlying39 rfl HS1.out rfl ?_)
      | ((with_reducible refine at_load (.tmp 27) ?_); refine wpList_load_part 39 (.tmp 27) rfl (w.heap.size + 1) _ 3 306 S2 L1.out rfl (by rw [o2.out]; rfl) rfl _ Try.underlying39 rfl HS2.out rfl ?_)
      | (go_at_call 33; refine (DS.out _ HB1.out).mono ?_; rintro en w2 hh; obtain ⟨rfl, hb2⟩ := tells_true hh HQS.out; have HB2 := Lib.hid (HB1.out.trans (hb2.mono HB1.out.size)); have K2 := Lib.hid (K1.out.call hb2); have L2 := Lib.hid (L1.out.call hb2); clear hh hb2)
      | ((with_reducible refine at_load (.tmp 32) ?_); refine wpList_load_part 42 (.tmp 32) rfl w.heap.size _ 4 376 T1 K2.out rfl (by rw [o1.out]; rfl) rfl _ Try.underlying42 rfl HT1.out rfl ?_)
      | ((with_reducible refine at_load (.tmp 34) ?_); refine wpList_load_part 42 (.tmp 34) rfl (w.heap.size + 1) _ 4 376 T2 L2.out rfl (by rw [o2.out]; rfl) rfl _ Try.underlying42 rfl HT2.out rfl ?_)
      | (go_at_call 34; refine (DT.out _ HB2.out).mono ?_; rintro en w3 hh; obtain ⟨rfl, hb3⟩ := tells_false hh HQT.out; have HB3 := Lib.hid (HB2.out.trans (hb3.mono HB2.out.size)); have K3 := Lib.hid (K2.out.call hb3); have L3 := Lib.hid (L2.out.call hb3); clear hh hb3))
    go_ret
    exact tells_no (fun h0 => by have h := HS.out.1 h0; exact HQT.out h.2.2.2.2.1) HB3.out
  have HQT := Lib.hid hq; clear hq
  cases rv
  case false =>
    have HQV : Hid (¬ qv) := fun h => by have := HRV.out.2 h; cases this
    go_enter Try.func20, Try.ntmps20
    go_wp2_with (first
      | ((with_reducible refine at_load (.tmp 5) ?_); refine wpList_load_1 3 (.tmp 5) rfl w.heap.size 0 (.int .i64 k1) (G1.out.cellAt (k := 0) rfl (by rw [o1.out]; rfl)) rfl _ Try.underlying3 rfl rfl ?_)
      | ((with_reducible refine at_load (.tmp 7) ?_); refine wpList_load_1 3 (.tmp 7) rfl (w.heap.size + 1) 0 (.int .i64 k2) (G2.out.cellAt (k := 0) rfl (by rw [o2.out]; rfl)) rfl _ Try.underlying3 rfl rfl ?_)
      | ((with_reducible refine at_load (.tmp 11) ?_); refine wpList_load_part 32 (.tmp 11) rfl w.heap.size _ 1 1 B1 G1.out rfl (by rw [o1.out]; rfl) rfl _ Try.underlying32 rfl HB1.out rfl ?_)
      | ((with_reducible refine at_load (.tmp 13) ?_); refine wpList_load_part 32 (.tmp 13) rfl (w.heap.size + 1) _ 1 1 B2 G2.out rfl (by rw [o2.out]; rfl) rfl _ Try.underlying32 rfl HB2.out rfl ?_)
      | ((with_reducible refine at_load (.tmp 18) ?_); refine wpList_load_part 35 (.tmp 18) rfl w.heap.size _ 2 239 A1 G1.out rfl (by rw [o1.out]; rfl) rfl _ Try.underlying35 rfl HA1.out rfl ?_)
      | ((with_reducible refine at_load (.tmp 20) ?_); refine wpList_load_part 35 (.tmp 20) rfl (w.heap.size + 1) _ 2 239 A2 G2.out rfl (by rw [o2.out]; rfl) rfl _ Try.underlying35 rfl HA2.out rfl ?_)
      | (go_at_call 32; refine (DA.out _ HB0.out).mono ?_; rintro en w1 hh; obtain ⟨rfl, hb1⟩ := tells_true hh HQA.out; have HB1 := Lib.hid (HB0.out.trans (hb1.mono HB0.out.size)); have K1 := Lib.hid (G1.out.call hb1); have L1 := Lib.hid (G2.out.call hb1); clear hh hb1)
      | ((with_reducible refine at_load (.tmp 25) ?_); refine wpList_load_part 39 (.tmp 25) rfl w.heap.size _ 3 306 S1 K1.out rfl (by rw [o1.out]; rfl) rfl _ Try.underlying39 rfl HS1.out rfl ?_)
      | ((with_reducible refine at_load (.tmp 27) ?_); refine wpList_load_part 39 (.tmp 27) rfl (w.heap.size + 1) _ 3 306 S2 L1.out rfl (by rw [o2.out]; rfl) rfl _ Try.underlying39 rfl HS2.out rfl ?_)
      | (go_at_call 33; refine (DS.out _ HB1.out).mono ?_; rintro en w2 hh; obtain ⟨rfl, hb2⟩ := tells_true hh HQS.out; have HB2 := Lib.hid (HB1.out.trans (hb2.mono HB1.out.size)); have K2 := Lib.hid (K1.out.call hb2); have L2 := Lib.hid (L1.out.call hb2); clear hh hb2)
      | ((with_reducible refine at_load (.tmp 32) ?_); refine wpList_load_part 42 (.tmp 32) rfl w.heap.size _ 4 376 T1 K2.out rfl (by rw [o1.out]; rfl) rfl _ Try.underlying42 rfl HT1.out rfl ?_)
      | ((with_reducible refine at_load (.tmp 34) ?_); refine wpList_load_part 42 (.tmp 34) rfl (w.heap.size + 1) _ 4 376 T2 L2.out rfl (by rw [o2.out]; rfl) rfl _ Try.underlying42 rfl HT2.out rfl ?_)
      | (go_at_call 34; refine (DT.out _ HB2.out).mono ?_; rintro en w3 hh; obtain ⟨rfl, hb3⟩ := tells_true hh HQT.out; have HB3 := Lib.hid (HB2.out.trans (hb3.mono HB2.out.size)); have K3 := Lib.hid (K2.out.call hb3); have L3 := Lib.hid (L2.out.call hb3); clear hh hb3)
      | ((with_reducible refine at_load (.tmp 39) ?_); refine wpList_load_part 46 (.tmp 39) rfl w.heap.size _ 5 410 V1 K3.out rfl (by rw [o1.out]; rfl) rfl _ Try.underlying46 rfl HV1.out rfl ?_)
      | ((with_reducible refine at_load (.tmp 41) ?_); refine wpList_load_part 46 (.tmp 41) rfl (w.heap.size + 1) _ 5 410 V2 L3.out rfl (by rw [o2.out]; rfl) rfl _ Try.underlying46 rfl HV2.out rfl ?_))
    go_ret
    exact tells_no (fun h0 => by have h := HS.out.1 h0; exact HQV.out h.2.2.2.2.2.1) HB3.out
  have HQV : Hid qv := HRV.out.1 rfl
  by_cases hq : x1 = x2
  case neg =>
    have q6 : (x1 == x2) = false := by simpa using hq
    have HQW := Lib.hid hq; clear hq
    go_enter Try.func20, Try.ntmps20
    go_wp2_with (first
      | ((with_reducible refine at_load (.tmp 5) ?_); refine wpList_load_1 3 (.tmp 5) rfl w.heap.size 0 (.int .i64 k1) (G1.out.cellAt (k := 0) rfl (by rw [o1.out]; rfl)) rfl _ Try.underlying3 rfl rfl ?_)
      | ((with_reducible refine at_load (.tmp 7) ?_); refine wpList_load_1 3 (.tmp 7) rfl (w.heap.size + 1) 0 (.int .i64 k2) (G2.out.cellAt (k := 0) rfl (by rw [o2.out]; rfl)) rfl _ Try.underlying3 rfl rfl ?_)
      | ((with_reducible refine at_load (.tmp 11) ?_); refine wpList_load_part 32 (.tmp 11) rfl w.heap.size _ 1 1 B1 G1.out rfl (by rw [o1.out]; rfl) rfl _ Try.underlying32 rfl HB1.out rfl ?_)
      | ((with_reducible refine at_load (.tmp 13) ?_); refine wpList_load_part 32 (.tmp 13) rfl (w.heap.size + 1) _ 1 1 B2 G2.out rfl (by rw [o2.out]; rfl) rfl _ Try.underlying32 rfl HB2.out rfl ?_)
      | ((with_reducible refine at_load (.tmp 18) ?_); refine wpList_load_part 35 (.tmp 18) rfl w.heap.size _ 2 239 A1 G1.out rfl (by rw [o1.out]; rfl) rfl _ Try.underlying35 rfl HA1.out rfl ?_)
      | ((with_reducible refine at_load (.tmp 20) ?_); refine wpList_load_part 35 (.tmp 20) rfl (w.heap.size + 1) _ 2 239 A2 G2.out rfl (by rw [o2.out]; rfl) rfl _ Try.underlying35 rfl HA2.out rfl ?_)
      | (go_at_call 32; refine (DA.out _ HB0.out).mono ?_; rintro en w1 hh; obtain ⟨rfl, hb1⟩ := tells_true hh HQA.out; have HB1 := Lib.hid (HB0.out.trans (hb1.mono HB0.out.size)); have K1 := Lib.hid (G1.out.call hb1); have L1 := Lib.hid (G2.out.call hb1); clear hh hb1)
      | ((with_reducible refine at_load (.tmp 25) ?_); refine wpList_load_part 39 (.tmp 25) rfl w.heap.size _ 3 306 S1 K1.out rfl (by rw [o1.out]; rfl) rfl _ Try.underlying39 rfl HS1.out rfl ?_)
      | ((with_reducible refine at_load (.tmp 27) ?_); refine wpList_load_part 39 (.tmp 27) rfl (w.heap.size + 1) _ 3 306 S2 L1.out rfl (by rw [o2.out]; rfl) rfl _ Try.underlying39 rfl HS2.out rfl ?_)
      | (go_at_call 33; refine (DS.out _ HB1.out).mono ?_; rintro en w2 hh; obtain ⟨rfl, hb2⟩ := tells_true hh HQS.out; have HB2 := Lib.hid (HB1.out.trans (hb2.mono HB1.out.size)); have K2 := Lib.hid (K1.out.call hb2); have L2 := Lib.hid (L1.out.call hb2); clear hh hb2)
      | ((with_reducible refine at_load (.tmp 32) ?_); refine wpList_load_part 42 (.tmp 32) rfl w.heap.size _ 4 376 T1 K2.out rfl (by rw [o1.out]; rfl) rfl _ Try.underlying42 rfl HT1.out rfl ?_)
      | ((with_reducible refine at_load (.tmp 34) ?_); refine wpList_load_part 42 (.tmp 34) rfl (w.heap.size + 1) _ 4 376 T2 L2.out rfl (by rw [o2.out]; rfl) rfl _ Try.underlying42 rfl HT2.out rfl ?_)
      | (go_at_call 34; refine (DT.out _ HB2.out).mono ?_; rintro en w3 hh; obtain ⟨rfl, hb3⟩ := tells_true hh HQT.out; have HB3 := Lib.hid (HB2.out.trans (hb3.mono HB2.out.size)); have K3 := Lib.hid (K2.out.call hb3); have L3 := Lib.hid (L2.out.call hb3); clear hh hb3)
      | ((with_reducible refine at_load (.tmp 39) ?_); refine wpList_load_part 46 (.tmp 39) rfl w.heap.size _ 5 410 V1 K3.out rfl (by rw [o1.out]; rfl) rfl _ Try.underlying46 rfl HV1.out rfl ?_)
      | ((with_reducible refine at_load (.tmp 41) ?_); refine wpList_load_part 46 (.tmp 41) rfl (w.heap.size + 1) _ 5 410 V2 L3.out rfl (by rw [o2.out]; rfl) rfl _ Try.underlying46 rfl HV2.out rfl ?_)
      | ((with_reducible refine at_load (.tmp 46) ?_); refine wpList_load_1 3 (.tmp 46) rfl w.heap.size 444 (.int .i64 x1) (K3.out.cellAt (k := 6) rfl (by rw [o1.out]; rfl)) rfl _ Try.underlying3 rfl rfl ?_)
      | ((with_reducible refine at_load (.tmp 48) ?_); refine wpList_load_1 3 (.tmp 48) rfl (w.heap.size + 1) 444 (.int .i64 x2) (L3.out.cellAt (k := 6) rfl (by rw [o2.out]; rfl)) rfl _ Try.underlying3 rfl rfl ?_))
    go_ret
    exact tells_no (fun h0 => by have h := HS.out.1 h0; exact HQW.out h.2.2.2.2.2.2.1) HB3.out
  have q6 : (x1 == x2) = true := by simpa using hq
  have HQW := Lib.hid hq; clear hq
  by_cases hq : y1 = y2
  case neg =>
    have q7 : (y1 == y2) = false := by simpa using hq
    have HQP := Lib.hid hq; clear hq
    go_enter Try.func20, Try.ntmps20
    go_wp2_with (first
      | ((with_reducible refine at_load (.tmp 5) ?_); refine wpList_load_1 3 (.tmp 5) rfl w.heap.size 0 (.int .i64 k1) (G1.out.cellAt (k := 0) rfl (by rw [o1.out]; rfl)) rfl _ Try.underlying3 rfl rfl ?_)
      | ((with_reducible refine at_load (.tmp 7) ?_); refine wpList_load_1 3 (.tmp 7) rfl (w.heap.size + 1) 0 (.int .i64 k2) (G2.out.cellAt (k := 0) rfl (by rw [o2.out]; rfl)) rfl _ Try.underlying3 rfl rfl ?_)
      | ((with_reducible refine at_load (.tmp 11) ?_); refine wpList_load_part 32 (.tmp 11) rfl w.heap.size _ 1 1 B1 G1.out rfl (by rw [o1.out]; rfl) rfl _ Try.underlying32 rfl HB1.out rfl ?_)
      | ((with_reducible refine at_load (.tmp 13) ?_); refine wpList_load_part 32 (.tmp 13) rfl (w.heap.size + 1) _ 1 1 B2 G2.out rfl (by rw [o2.out]; rfl) rfl _ Try.underlying32 rfl HB2.out rfl ?_)
      | ((with_reducible refine at_load (.tmp 18) ?_); refine wpList_load_part 35 (.tmp 18) rfl w.heap.size _ 2 239 A1 G1.out rfl (by rw [o1.out]; rfl) rfl _ Try.underlying35 rfl HA1.out rfl ?_)
      | ((with_reducible refine at_load (.tmp 20) ?_); refine wpList_load_part 35 (.tmp 20) rfl (w.heap.size + 1) _ 2 239 A2 G2.out rfl (by rw [o2.out]; rfl) rfl _ Try.underlying35 rfl HA2.out rfl ?_)
      | (go_at_call 32; refine (DA.out _ HB0.out).mono ?_; rintro en w1 hh; obtain ⟨rfl, hb1⟩ := tells_true hh HQA.out; have HB1 := Lib.hid (HB0.out.trans (hb1.mono HB0.out.size)); have K1 := Lib.hid (G1.out.call hb1); have L1 := Lib.hid (G2.out.call hb1); clear hh hb1)
      | ((with_reducible refine at_load (.tmp 25) ?_); refine wpList_load_part 39 (.tmp 25) rfl w.heap.size _ 3 306 S1 K1.out rfl (by rw [o1.out]; rfl) rfl _ Try.underlying39 rfl HS1.out rfl ?_)
      | ((with_reducible refine at_load (.tmp 27) ?_); refine wpList_load_part 39 (.tmp 27) rfl (w.heap.size + 1) _ 3 306 S2 L1.out rfl (by rw [o2.out]; rfl) rfl _ Try.underlying39 rfl HS2.out rfl ?_)
      | (go_at_call 33; refine (DS.out _ HB1.out).mono ?_; rintro en w2 hh; obtain ⟨rfl, hb2⟩ := tells_true hh HQS.out; have HB2 := Lib.hid (HB1.out.trans (hb2.mono HB1.out.size)); have K2 := Lib.hid (K1.out.call hb2); have L2 := Lib.hid (L1.out.call hb2); clear hh hb2)
      | ((with_reducible refine at_load (.tmp 32) ?_); refine wpList_load_part 42 (.tmp 32) rfl w.heap.size _ 4 376 T1 K2.out rfl (by rw [o1.out]; rfl) rfl _ Try.underlying42 rfl HT1.out rfl ?_)
      | ((with_reducible refine at_load (.tmp 34) ?_); refine wpList_load_part 42 (.tmp 34) rfl (w.heap.size + 1) _ 4 376 T2 L2.out rfl (by rw [o2.out]; rfl) rfl _ Try.underlying42 rfl HT2.out rfl ?_)
      | (go_at_call 34; refine (DT.out _ HB2.out).mono ?_; rintro en w3 hh; obtain ⟨rfl, hb3⟩ := tells_true hh HQT.out; have HB3 := Lib.hid (HB2.out.trans (hb3.mono HB2.out.size)); have K3 := Lib.hid (K2.out.call hb3); have L3 := Lib.hid (L2.out.call hb3); clear hh hb3)
      | ((with_reducible refine at_load (.tmp 39) ?_); refine wpList_load_part 46 (.tmp 39) rfl w.heap.size _ 5 410 V1 K3.out rfl (by rw [o1.out]; rfl) rfl _ Try.underlying46 rfl HV1.out rfl ?_)
      | ((with_reducible refine at_load (.tmp 41) ?_); refine wpList_load_part 46 (.tmp 41) rfl (w.heap.size + 1) _ 5 410 V2 L3.out rfl (by rw [o2.out]; rfl) rfl _ Try.underlying46 rfl HV2.out rfl ?_)
      | ((with_reducible refine at_load (.tmp 46) ?_); refine wpList_load_1 3 (.tmp 46) rfl w.heap.size 444 (.int .i64 x1) (K3.out.cellAt (k := 6) rfl (by rw [o1.out]; rfl)) rfl _ Try.underlying3 rfl rfl ?_)
      | ((with_reducible refine at_load (.tmp 48) ?_); refine wpList_load_1 3 (.tmp 48) rfl (w.heap.size + 1) 444 (.int .i64 x2) (L3.out.cellAt (k := 6) rfl (by rw [o2.out]; rfl)) rfl _ Try.underlying3 rfl rfl ?_)
      | ((with_reducible refine at_load (.tmp 53) ?_); refine wpList_load_1 3 (.tmp 53) rfl w.heap.size 445 (.int .i64 y1) (K3.out.cellAt (k := 7) rfl (by rw [o1.out]; rfl)) rfl _ Try.underlying3 rfl rfl ?_)
      | ((with_reducible refine at_load (.tmp 55) ?_); refine wpList_load_1 3 (.tmp 55) rfl (w.heap.size + 1) 445 (.int .i64 y2) (L3.out.cellAt (k := 7) rfl (by rw [o2.out]; rfl)) rfl _ Try.underlying3 rfl rfl ?_))
    go_ret
    exact tells_no (fun h0 => by have h := HS.out.1 h0; exact HQP.out h.2.2.2.2.2.2.2) HB3.out
  have q7 : (y1 == y2) = true := by simpa using hq
  have HQP := Lib.hid hq; clear hq
  go_enter Try.func20, Try.ntmps20
  go_wp2_with (first
    | ((with_reducible refine at_load (.tmp 5) ?_); refine wpList_load_1 3 (.tmp 5) rfl w.heap.size 0 (.int .i64 k1) (G1.out.cellAt (k := 0) rfl (by rw [o1.out]; rfl)) rfl _ Try.underlying3 rfl rfl ?_)
    | ((with_reducible refine at_load (.tmp 7) ?_); refine wpList_load_1 3 (.tmp 7) rfl (w.heap.size + 1) 0 (.int .i64 k2) (G2.out.cellAt (k := 0) rfl (by rw [o2.out]; rfl)) rfl _ Try.underlying3 rfl rfl ?_)
    | ((with_reducible refine at_load (.tmp 11) ?_); refine wpList_load_part 32 (.tmp 11) rfl w.heap.size _ 1 1 B1 G1.out rfl (by rw [o1.out]; rfl) rfl _ Try.underlying32 rfl HB1.out rfl ?_)
    | ((with_reducible refine at_load (.tmp 13) ?_); refine wpList_load_part 32 (.tmp 13) rfl (w.heap.size + 1) _ 1 1 B2 G2.out rfl (by rw [o2.out]; rfl) rfl _ Try.underlying32 rfl HB2.out rfl ?_)
    | ((with_reducible refine at_load (.tmp 18) ?_); refine wpList_load_part 35 (.tmp 18) rfl w.heap.size _ 2 239 A1 G1.out rfl (by rw [o1.out]; rfl) rfl _ Try.underlying35 rfl HA1.out rfl ?_)
    | ((with_reducible refine at_load (.tmp 20) ?_); refine wpList_load_part 35 (.tmp 20) rfl (w.heap.size + 1) _ 2 239 A2 G2.out rfl (by rw [o2.out]; rfl) rfl _ Try.underlying35 rfl HA2.out rfl ?_)
    | (go_at_call 32; refine (DA.out _ HB0.out).mono ?_; rintro en w1 hh; obtain ⟨rfl, hb1⟩ := tells_true hh HQA.out; have HB1 := Lib.hid (HB0.out.trans (hb1.mono HB0.out.size)); have K1 := Lib.hid (G1.out.call hb1); have L1 := Lib.hid (G2.out.call hb1); clear hh hb1)
    | ((with_reducible refine at_load (.tmp 25) ?_); refine wpList_load_part 39 (.tmp 25) rfl w.heap.size _ 3 306 S1 K1.out rfl (by rw [o1.out]; rfl) rfl _ Try.underlying39 rfl HS1.out rfl ?_)
    | ((with_reducible refine at_load (.tmp 27) ?_); refine wpList_load_part 39 (.tmp 27) rfl (w.heap.size + 1) _ 3 306 S2 L1.out rfl (by rw [o2.out]; rfl) rfl _ Try.underlying39 rfl HS2.out rfl ?_)
    | (go_at_call 33; refine (DS.out _ HB1.out).mono ?_; rintro en w2 hh; obtain ⟨rfl, hb2⟩ := tells_true hh HQS.out; have HB2 := Lib.hid (HB1.out.trans (hb2.mono HB1.out.size)); have K2 := Lib.hid (K1.out.call hb2); have L2 := Lib.hid (L1.out.call hb2); clear hh hb2)
    | ((with_reducible refine at_load (.tmp 32) ?_); refine wpList_load_part 42 (.tmp 32) rfl w.heap.size _ 4 376 T1 K2.out rfl (by rw [o1.out]; rfl) rfl _ Try.underlying42 rfl HT1.out rfl ?_)
    | ((with_reducible refine at_load (.tmp 34) ?_); refine wpList_load_part 42 (.tmp 34) rfl (w.heap.size + 1) _ 4 376 T2 L2.out rfl (by rw [o2.out]; rfl) rfl _ Try.underlying42 rfl HT2.out rfl ?_)
    | (go_at_call 34; refine (DT.out _ HB2.out).mono ?_; rintro en w3 hh; obtain ⟨rfl, hb3⟩ := tells_true hh HQT.out; have HB3 := Lib.hid (HB2.out.trans (hb3.mono HB2.out.size)); have K3 := Lib.hid (K2.out.call hb3); have L3 := Lib.hid (L2.out.call hb3); clear hh hb3)
    | ((with_reducible refine at_load (.tmp 39) ?_); refine wpList_load_part 46 (.tmp 39) rfl w.heap.size _ 5 410 V1 K3.out rfl (by rw [o1.out]; rfl) rfl _ Try.underlying46 rfl HV1.out rfl ?_)
    | ((with_reducible refine at_load (.tmp 41) ?_); refine wpList_load_part 46 (.tmp 41) rfl (w.heap.size + 1) _ 5 410 V2 L3.out rfl (by rw [o2.out]; rfl) rfl _ Try.underlying46 rfl HV2.out rfl ?_)
    | ((with_reducible refine at_load (.tmp 46) ?_); refine wpList_load_1 3 (.tmp 46) rfl w.heap.size 444 (.int .i64 x1) (K3.out.cellAt (k := 6) rfl (by rw [o1.out]; rfl)) rfl _ Try.underlying3 rfl rfl ?_)
    | ((with_reducible refine at_load (.tmp 48) ?_); refine wpList_load_1 3 (.tmp 48) rfl (w.heap.size + 1) 444 (.int .i64 x2) (L3.out.cellAt (k := 6) rfl (by rw [o2.out]; rfl)) rfl _ Try.underlying3 rfl rfl ?_)
    | ((with_reducible refine at_load (.tmp 53) ?_); refine wpList_load_1 3 (.tmp 53) rfl w.heap.size 445 (.int .i64 y1) (K3.out.cellAt (k := 7) rfl (by rw [o1.out]; rfl)) rfl _ Try.underlying3 rfl rfl ?_)
    | ((with_reducible refine at_load (.tmp 55) ?_); refine wpList_load_1 3 (.tmp 55) rfl (w.heap.size + 1) 445 (.int .i64 y2) (L3.out.cellAt (k := 7) rfl (by rw [o2.out]; rfl)) rfl _ Try.underlying3 rfl rfl ?_))
  go_ret
  exact tells_yes (HS.out.2 ⟨HQK.out, HQB.out, HQA.out, HQS.out, HQT.out, HQV.out, HQW.out, HQP.out⟩) HB3.out
end

/-! ScU -/
section
set_option linter.unusedVariables false
set_option linter.unusedSimpArgs false
open Go.RowKit

set_option maxRecDepth 100000 in
set_option maxHeartbeats 4000000 in
theorem auint_own (v : Value) (bs : List Int) (n : Int) (w : World) (h : Byt w v bs) (h0 : 0 ≤ n) (hn : n ≤ 18446744073709551615) (hb : bs.length ≤ 100000000000) :
    Calls Try.prog 26 #[v, .int .u64 n] w (AppN w (bs ++ uenc n.toNat)) := by
  obtain ⟨va, vl, vc, rfl⟩ := h.shape
  have H := Lib.hid h; clear h
  have HUB := Lib.hid (fun (gs : List Int) (x : Int) (h : gs ++ uenc x.toNat = uenc n.toNat) => uenc_bytes h h0 hn)
  go_enter Try.func26, Try.ntmps26
  go_wp2_with (at_make; refine wpList_mk0 rfl _ _ rfl w.heap.size _ _ 10 rfl rfl (by omega) (Nat.le_refl _) ?_; intro v1 w1 ho1 hg1)
  go_loopw [5, 1] (fun g m wr => UI w n g m wr) (fun _ m _ => (intOf m).toNat)
  case atStart => exact ⟨[], n, h0, hn, rfl, rfl, ho1, (Below.refl _ _).grown hg1 (Nat.le_refl _) (fun k hk => by cases hk)⟩
  case round =>
    obtain ⟨gs, x, hx0, hx, rfl, hg, ho, hbl⟩ := hrel
    have HG := Lib.hid hg
    have HGB := Lib.hid (HUB.out gs x hg).2
    have hgl := (HUB.out gs x hg).1
    clear hg
    have HO := Lib.hid ho; clear ho
    have e8 := @wrap8I x
    by_cases hlt : 128 ≤ x
    · have e1 := or128I hx0
      go_wp2_with ((with_reducible refine at_app _ _ ?_); refine wpList_app _ _ rfl rfl w.heap.size _ _ rfl (HO.out.alloc _) _ _ rfl (byt_one (by omega) _) (by simp; omega) (by have := hbl.size; simp; omega) ?_; intro v2 w2 ho2 hg2)
      have HN := Lib.hid (UI.next hlt hx HG.out HO.out hbl ho2 hg2)
      clear ho2 hg2
      go_roundw
      case rel => exact HN.out
      case measure => simp [intOf]; omega
    · have hx1 : x < 128 := by omega
      have e9 : x % 256 = x := by omega
      rw [e9] at e8
      clear e9
      have HE : Hid (bs ++ (gs ++ [x]) = bs ++ uenc n.toNat) := by show _ = _; rw [← HG.out, uencI_one hx0 hx1]
      have hsz := hbl.size
      have HR2 : Hid (∀ y ∈ gs ++ [x], 0 ≤ y ∧ y ≤ 255) := by
        intro y hy
        rcases List.mem_append.1 hy with hy | hy
        · exact HGB.out y hy
        · simp at hy; omega
      have HFL : Hid ([bs, gs ++ [x]].flatten.length ≤ 1000000000000) := by show _ ≤ _; simp; omega
      have HML : Hid ((gs ++ [x]).length ≤ maxLen) := by show _ ≤ _; unfold maxLen; simp; omega
      go_wp2_with (first
        | ((with_reducible refine at_app _ _ ?_); refine wpList_app _ _ rfl rfl w.heap.size _ _ rfl (HO.out.alloc _) _ _ rfl (byt_one (by omega) _) (by simp; omega) (by have := hbl.size; simp; omega) ?_; intro v2 w2 ho2 hg2; obtain ⟨a2, l2, c2, rfl⟩ := ho2.shape; have HO2 := Lib.hid ho2; clear ho2; have HB2 := Lib.hid (Below.own (hbl.alloc hbl.size _) hg2 (HO.out.alloc _) (Nat.le_refl _) (by simp; omega)); clear hg2)
        | (go_at_call 46; refine (concat_own _ 2 #[_, _] [bs, gs ++ [x]] _ (parts2 rfl (H.out.below HB2.out) (HO2.out.byt HML.out HR2.out)) (by omega) HFL.out).mono ?_; rintro e w3 ⟨v3, rfl, hb3, hbl3⟩; have HB3 := Lib.hid hb3; clear hb3; have HBL3 := Lib.hid hbl3; clear hbl3))
      go_ret
      refine ⟨v3, rfl, ?_, ?_⟩
      · rw [← HE.out]; exact Own.mono (by simpa using HB3.out) (by have := HB2.out.size; simp; omega)
      · exact (HB2.out.alloc HB2.out.size _).trans (HBL3.out.mono (by have := HB2.out.size; simp; omega))

/-! ### Words -/
/-- The error of an operation's field. -/
def fldE (d : OpD) : Int :=
  if d.k = 3 then vlE d.a.l 1024 else if d.k = 4 then vlsE [d.c1.l, d.c2.l] else if d.k = 5 then (if 1024 < d.tl.length then 3 else 0) else if d.k = 6 then (if d.v.kind < 1 ∨ 4 < d.v.kind then 3 else 0)
    else if d.k = 8 then (if d.w < 0 ∨ 32768 < d.w ∨ d.p < 0 ∨ 32768 < d.p then 3 else 0) else if d.k = 1 ∨ d.k = 2 ∨ d.k = 7 then 0 else 2
def fldB (d : OpD) : List Int :=
  if d.k = 2 then d.b.enc else if d.k = 3 then uenc d.a.slot.toNat ++ (d.a.root ++ (d.a.cp.enc ++ lenc d.a.l)) else if d.k = 4 then (d.c1.d (.slice none 0 0)).enc d.c1.l ++ (d.c2.d (.slice none 0 0)).enc d.c2.l else if d.k = 5 then d.tc.enc ++ tenc d.tl else if d.k = 6 then d.v.enc
    else if d.k = 8 then uenc d.w.toNat ++ uenc d.p.toNat else []
/-- Nothing but the kind. -/
structure IsZ (d : OpD) : Prop where
  b : flatP d.b.parts = flatP zBk.parts
  a : d.a.slot = 0 ∧ d.a.root = zeroR ∧ d.a.cp = zCp ∧ d.a.l = []
  c1 : d.c1.source = 0 ∧ d.c1.target = 0 ∧ d.c1.root = zeroR ∧ d.c1.l = []
  c2 : d.c2.source = 0 ∧ d.c2.target = 0 ∧ d.c2.root = zeroR ∧ d.c2.l = []
  t : d.tc = zCp ∧ d.tl = []
  v : flatP d.v.parts = flatP zVd.parts
  w : d.w = 0
  p : d.p = 0
/-- Without the field that its kind uses. -/
def woD (d : OpD) : OpD :=
  if d.k = 2 then { d with b := zBk } else if d.k = 3 then { d with a := zAtP } else if d.k = 4 then { d with c1 := zClP, c2 := zClP } else if d.k = 5 then { d with tc := zCp, tl := [] } else if d.k = 6 then { d with v := zVd }
    else if d.k = 8 then { d with w := 0, p := 0 } else d
/-- Its kind and the field that its kind uses. -/
def keepD (d : OpD) : OpD :=
  if d.k = 2 then { kOp d.k with b := d.b } else if d.k = 3 then { kOp d.k with a := d.a } else if d.k = 4 then { kOp d.k with c1 := d.c1, c2 := d.c2 } else if d.k = 5 then { kOp d.k with tc := d.tc, tl := d.tl } else if d.k = 6 then { kOp d.k with v := d.v }
    else if d.k = 8 then { kOp d.k with w := d.w, p := d.p } else kOp d.k
theorem keep_wo (d : OpD) : IsZ (woD d) ↔ SameD d (keepD d) := by
  unfold woD keepD
  by_cases h2 : d.k = 2
  · simp only [h2, if_true]
    exact ⟨fun h => ⟨h2, rfl, h.a, ⟨h.c1, h.c2⟩, h.t, h.v, h.w, h.p⟩, fun h => ⟨rfl, h.a, h.s.1, h.s.2, h.t, h.v, h.w, h.p⟩⟩
  rw [if_neg h2, if_neg h2]
  by_cases h3 : d.k = 3
  · simp only [h3, if_true]
    exact ⟨fun h => ⟨h3, h.b, ⟨rfl, rfl, rfl, rfl⟩, ⟨h.c1, h.c2⟩, h.t, h.v, h.w, h.p⟩, fun h => ⟨h.b, ⟨rfl, rfl, rfl, rfl⟩, h.s.1, h.s.2, h.t, h.v, h.w, h.p⟩⟩
  rw [if_neg h3, if_neg h3]
  by_cases h4 : d.k = 4
  · simp only [h4, if_true]
    exact ⟨fun h => ⟨h4, h.b, h.a, ⟨⟨rfl, rfl, rfl, rfl⟩, ⟨rfl, rfl, rfl, rfl⟩⟩, h.t, h.v, h.w, h.p⟩, fun h => ⟨h.b, h.a, ⟨rfl, rfl, rfl, rfl⟩, ⟨rfl, rfl, rfl, rfl⟩, h.t, h.v, h.w, h.p⟩⟩
  rw [if_neg h4, if_neg h4]
  by_cases h5 : d.k = 5
  · simp only [h5, if_true]
    exact ⟨fun h => ⟨h5, h.b, h.a, ⟨h.c1, h.c2⟩, ⟨rfl, rfl⟩, h.v, h.w, h.p⟩, fun h => ⟨h.b, h.a, h.s.1, h.s.2, ⟨rfl, rfl⟩, h.v, h.w, h.p⟩⟩
  rw [if_neg h5, if_neg h5]
  by_cases h6 : d.k = 6
  · simp only [h6, if_true]
    exact ⟨fun h => ⟨h6, h.b, h.a, ⟨h.c1, h.c2⟩, h.t, rfl, h.w, h.p⟩, fun h => ⟨h.b, h.a, h.s.1, h.s.2, h.t, rfl, h.w, h.p⟩⟩
  rw [if_neg h6, if_neg h6]
  by_cases h8 : d.k = 8
  · simp only [h8, if_true]
    exact ⟨fun h => ⟨h8, h.b, h.a, ⟨h.c1, h.c2⟩, h.t, h.v, rfl, rfl⟩, fun h => ⟨h.b, h.a, h.s.1, h.s.2, h.t, h.v, rfl, rfl⟩⟩
  rw [if_neg h8, if_neg h8]
  exact ⟨fun h => ⟨rfl, h.b, h.a, ⟨h.c1, h.c2⟩, h.t, h.v, h.w, h.p⟩, fun h => ⟨h.b, h.a, h.s.1, h.s.2, h.t, h.v, h.w, h.p⟩⟩

open Classical in
/-- The error of an operation. -/
noncomputable def opErr (d : OpD) : Int := if d.k < 1 ∨ 8 < d.k then 2 else if fldE d ≠ 0 then fldE d else if SameD d (keepD d) then 0 else 2
def opBy (d : OpD) : List Int := uenc d.k.toNat ++ fldB d
open Classical in
theorem opErr_code (d : OpD) : opErr d = if fldE d ≠ 0 then fldE d else if IsZ (woD d) then 0 else 2 := by
  have e : (if IsZ (woD d) then (0 : Int) else 2) = if SameD d (keepD d) then 0 else 2 := by
    by_cases h : IsZ (woD d)
    · rw [if_pos h, if_pos ((keep_wo d).1 h)]
    · rw [if_neg h, if_neg fun h2 => h ((keep_wo d).2 h2)]
  unfold opErr
  rw [e]
  by_cases h : d.k < 1 ∨ 8 < d.k
  · have h2 : fldE d = 2 := by
      unfold fldE
      rw [if_neg (by omega), if_neg (by omega), if_neg (by omega), if_neg (by omega), if_neg (by omega), if_neg (by omega)]
    rw [if_pos h, h2, if_pos (by omega)]
  · rw [if_neg h]

theorem wpList_build_g {P : Program} {ops : Array Oper} {rest : List Oper} {op : Oper} {a : Act} {w : World} {Q : Exit → Act → World → Prop} (t : TypeId) (ps : Array (Nat × Operand)) (ho : op.op = .build t ps)
    (ps' : Array (Nat × Value)) (hps : ps.map (fun (i, x) => (i, a.eval x)) = ps') (v : Value) (hr : (Instr.build t ps').run P w = .ok v w) (hw : Region.wanted op (yielded ops a.tmps) = true) (h : wpList P ops Q rest (a.put op.dst v) w) : wpList P ops Q (op :: rest) a w :=
  BigFrame.wpList_want hw fun _ hK => by
    unfold Oper.wp execOp
    simp only [ho, hps, Sem.run_bind, hr, Result.andThen_ok, Sem.run_pure]
    exact hK _ _ h
set_option maxRecDepth 1000000 in
theorem bz_root (w : World) : (Instr.build 24 #[]).run Try.prog w = .ok (.agg (bytesL zeroR).toArray) w := by kernel_rfl
set_option maxRecDepth 1000000 in
theorem bz_cp (w : World) : (Instr.build 26 #[]).run Try.prog w = .ok (.agg zCp.cells.toArray) w := by kernel_rfl
set_option maxRecDepth 1000000 in
theorem bz_blk (w : World) : (Instr.build 32 #[]).run Try.prog w = .ok (.agg zBk.parts.flatten.toArray) w := by kernel_rfl
set_option maxRecDepth 1000000 in
theorem bz_vd (w : World) : (Instr.build 46 #[]).run Try.prog w = .ok (.agg zVd.parts.flatten.toArray) w := by kernel_rfl
end

/-! ScZ -/
section
set_option linter.unusedVariables false
set_option linter.unusedSimpArgs false
open Go.RowKit

theorem len_zero {k : IntKind} {w : World} {a : Option Addr} {n c : Nat} {l : List Int} (h : Ints k w (.slice a n c) l) : ((n : Int) = 0 ↔ l = []) ∧ n ≤ maxLen := by
  obtain ⟨_, _, _, e, h1, h2, _⟩ := h
  cases e
  refine ⟨⟨fun h => List.eq_nil_of_length_eq_zero (by omega), fun h => by rw [h] at h1; simp at h1; omega⟩, h2⟩

set_option maxRecDepth 100000 in
set_option maxHeartbeats 8000000 in
theorem zat_any (x : AtP) (v : Value) (w : World) (hx : (x.d (.slice none 0 0)).ok) (hI : IntsV w v x.l) :
    Calls Try.prog 43 #[.agg (x.d v).parts.flatten.toArray] w (Tells w (x.slot = 0 ∧ x.root = zeroR ∧ x.cp = zCp ∧ x.l = [])) := by
  obtain ⟨va, vn, vc, rfl⟩ := ints_shape' hI.1
  obtain ⟨hz, hm⟩ := len_zero hI.1
  have hr : IsBytes 32 x.root := hx.2.1
  have hc : x.cp.ok := hx.2.2
  obtain ⟨s, hs⟩ : ∃ s, x.slot = s := ⟨_, rfl⟩
  have oo : offP [[Value.int .u64 s], bytesL x.root, x.cp.cells, [.slice va vn vc]] 1 = 1 ∧ offP [[Value.int .u64 s], bytesL x.root, x.cp.cells, [.slice va vn vc]] 2 = 33 ∧ offP [[Value.int .u64 s], bytesL x.root, x.cp.cells, [.slice va vn vc]] 3 = 66 := ⟨rfl, by simp [offP, bytesL_len hr], by simp [offP, bytesL_len hr, CpD.len hc]⟩
  have o1 := Lib.hid oo.1
  have o2 := Lib.hid oo.2.1
  have o3 := Lib.hid oo.2.2
  have o0 : Hid (offP [[Value.int .u64 s], bytesL x.root, x.cp.cells, [.slice va vn vc]] 0 = 0) := rfl
  have eX : (x.d (.slice va vn vc)).parts.flatten.toArray = flatP [[Value.int .u64 s], bytesL x.root, x.cp.cells, [.slice va vn vc]] := by rw [← hs]; rfl
  rw [eX, hs]
  obtain ⟨X, HX⟩ : ∃ X, Hid (flatP [[Value.int .u64 s], bytesL x.root, x.cp.cells, [.slice va vn vc]] = X) := ⟨_, rfl⟩
  rw [HX.out]
  have G1 : Hid (Blk (w.alloc (.cells X 35)) w.heap.size (flatP [[Value.int .u64 s], bytesL x.root, x.cp.cells, [.slice va vn vc]])) := (Blk.new rfl).to HX.out.symm
  have HB0 := Lib.hid ((Below.refl w.heap.size w).alloc (Nat.le_refl _) (.cells X 35))
  have E1 := eq_root hr zeroR_is
  rw [bytesL_V, bytesL_V] at E1
  obtain ⟨rb, hrb⟩ : ∃ b, decide (x.root = zeroR) = b := ⟨_, rfl⟩
  have HR : Hid (rb = true ↔ x.root = zeroR) := by show _ ↔ _; rw [← hrb]; simp
  rw [hrb] at E1
  obtain ⟨cb, E2, hcb⟩ := eq_cp2 hc zCp_ok
  have HC : Hid (cb = true ↔ x.cp = zCp) := by show _ ↔ _; rw [hcb]; exact ⟨CpD.inj, fun e => by rw [e]⟩
  have HL := Lib.hid hz
  have HI1 : Hid ((Try.prog.info? 24).map (·.size) = some (bytesL x.root).length) := by show _ = _; rw [bytesL_len hr]; kernel_rfl
  have HI2 : Hid ((Try.prog.info? 26).map (·.size) = some x.cp.cells.length) := by show _ = _; rw [CpD.len hc]; kernel_rfl
  have BR := Lib.hid bz_root
  have BC := Lib.hid bz_cp
  unfold maxLen at hm
  obtain ⟨pr, hpr⟩ : ∃ p, p = (x.root = zeroR) := ⟨_, rfl⟩
  obtain ⟨pc, hpc⟩ : ∃ p, p = (x.cp = zCp) := ⟨_, rfl⟩
  obtain ⟨pl, hpl⟩ : ∃ p, p = (x.l = []) := ⟨_, rfl⟩
  rw [← hpr] at HR
  rw [← hpc] at HC
  rw [← hpl] at HL
  rw [← hpr, ← hpc, ← hpl]
  clear eX oo hrb hcb hz hI hx hr hc hs hpr hpc hpl HX
  generalize bytesL x.root = R1 at *
  generalize x.cp.cells = C1 at *
  obtain ⟨R2, hR2⟩ : ∃ R, (bytesL zeroR).toArray = R := ⟨_, rfl⟩
  obtain ⟨C2, hC2⟩ : ∃ C, zCp.cells.toArray = C := ⟨_, rfl⟩
  rw [hR2] at E1 BR
  rw [hC2] at E2 BC
  clear hR2 hC2
  by_cases hq : s = 0
  case neg =>
    have qNS : (s == 0) = false := by simpa using hq
    have NS := Lib.hid hq; clear hq
    go_enter Try.func43, Try.ntmps43
    go_wp2_with (first
      | ((with_reducible refine at_load (.tmp 3) ?_); refine wpList_load_1 22 (.tmp 3) rfl w.heap.size 0 (.int .u64 s) (G1.out.cellAt (k := 0) rfl (by rw [o0.out]; try rfl)) rfl _ Try.underlying22 rfl rfl ?_)
      | fail)
    go_ret
    exact tells_no (fun h0 => by have h := id h0; exact NS.out h.1) HB0.out
  have qNS : (s == 0) = true := by simpa using hq
  have NS := Lib.hid hq; clear hq
  cases rb
  case false =>
    have NR : Hid (¬ (pr)) := fun h => by have := HR.out.2 h; cases this
    go_enter Try.func43, Try.ntmps43
    go_wp2_with (first
      | ((with_reducible refine at_load (.tmp 3) ?_); refine wpList_load_1 22 (.tmp 3) rfl w.heap.size 0 (.int .u64 s) (G1.out.cellAt (k := 0) rfl (by rw [o0.out]; try rfl)) rfl _ Try.underlying22 rfl rfl ?_)
      | ((with_reducible refine at_load (.tmp 7) ?_); refine wpList_load_part 24 (.tmp 7) rfl w.heap.size _ 1 1 R1 G1.out rfl (by rw [o1.out]; try rfl) rfl _ Try.underlying24 rfl HI1.out rfl ?_)
      | ((with_reducible refine at_build (some 9) ?_); refine wpList_build_g 24 _ rfl #[] (by simp) (.agg R2) (BR.out _) rfl ?_)
      | fail)
    go_ret
    exact tells_no (fun h0 => by have h := id h0; exact NR.out h.2.1) HB0.out
  have NR : Hid (pr) := HR.out.1 rfl
  cases cb
  case false =>
    have NC : Hid (¬ (pc)) := fun h => by have := HC.out.2 h; cases this
    go_enter Try.func43, Try.ntmps43
    go_wp2_with (first
      | ((with_reducible refine at_load (.tmp 3) ?_); refine wpList_load_1 22 (.tmp 3) rfl w.heap.size 0 (.int .u64 s) (G1.out.cellAt (k := 0) rfl (by rw [o0.out]; try rfl)) rfl _ Try.underlying22 rfl rfl ?_)
      | ((with_reducible refine at_load (.tmp 7) ?_); refine wpList_load_part 24 (.tmp 7) rfl w.heap.size _ 1 1 R1 G1.out rfl (by rw [o1.out]; try rfl) rfl _ Try.underlying24 rfl HI1.out rfl ?_)
      | ((with_reducible refine at_build (some 9) ?_); refine wpList_build_g 24 _ rfl #[] (by simp) (.agg R2) (BR.out _) rfl ?_)
      | ((with_reducible refine at_load (.tmp 13) ?_); refine wpList_load_part 26 (.tmp 13) rfl w.heap.size _ 2 33 C1 G1.out rfl (by rw [o2.out]; try rfl) rfl _ Try.underlying26 rfl HI2.out rfl ?_)
      | ((with_reducible refine at_build (some 15) ?_); refine wpList_build_g 26 _ rfl #[] (by simp) (.agg C2) (BC.out _) rfl ?_)
      | fail)
    go_ret
    exact tells_no (fun h0 => by have h := id h0; exact NC.out h.2.2.1) HB0.out
  have NC : Hid (pc) := HC.out.1 rfl
  by_cases hq : (vn : Int) = 0
  case neg =>
    have qL : ((vn : Int) == 0) = false := by simpa using hq
    have NL : Hid (¬ pl) := fun h => hq (HL.out.2 h)
    clear hq
    go_enter Try.func43, Try.ntmps43
    go_wp2_with (first
      | ((with_reducible refine at_load (.tmp 3) ?_); refine wpList_load_1 22 (.tmp 3) rfl w.heap.size 0 (.int .u64 s) (G1.out.cellAt (k := 0) rfl (by rw [o0.out]; try rfl)) rfl _ Try.underlying22 rfl rfl ?_)
      | ((with_reducible refine at_load (.tmp 7) ?_); refine wpList_load_part 24 (.tmp 7) rfl w.heap.size _ 1 1 R1 G1.out rfl (by rw [o1.out]; try rfl) rfl _ Try.underlying24 rfl HI1.out rfl ?_)
      | ((with_reducible refine at_build (some 9) ?_); refine wpList_build_g 24 _ rfl #[] (by simp) (.agg R2) (BR.out _) rfl ?_)
      | ((with_reducible refine at_load (.tmp 13) ?_); refine wpList_load_part 26 (.tmp 13) rfl w.heap.size _ 2 33 C1 G1.out rfl (by rw [o2.out]; try rfl) rfl _ Try.underlying26 rfl HI2.out rfl ?_)
      | ((with_reducible refine at_build (some 15) ?_); refine wpList_build_g 26 _ rfl #[] (by simp) (.agg C2) (BC.out _) rfl ?_)
      | ((with_reducible refine at_load (.tmp 19) ?_); refine wpList_load_1 33 (.tmp 19) rfl w.heap.size 66 (.slice va vn vc) (G1.out.cellAt (k := 3) rfl (by rw [o3.out]; try rfl)) rfl _ Try.underlying33 rfl rfl ?_)
      | fail)
    go_ret
    exact tells_no (fun h0 => by have h := id h0; exact NL.out h.2.2.2) HB0.out
  have qL : ((vn : Int) == 0) = true := by simpa using hq
  have NL := Lib.hid (HL.out.1 hq)
  clear hq
  go_enter Try.func43, Try.ntmps43
  go_wp2_with (first
    | ((with_reducible refine at_load (.tmp 3) ?_); refine wpList_load_1 22 (.tmp 3) rfl w.heap.size 0 (.int .u64 s) (G1.out.cellAt (k := 0) rfl (by rw [o0.out]; try rfl)) rfl _ Try.underlying22 rfl rfl ?_)
    | ((with_reducible refine at_load (.tmp 7) ?_); refine wpList_load_part 24 (.tmp 7) rfl w.heap.size _ 1 1 R1 G1.out rfl (by rw [o1.out]; try rfl) rfl _ Try.underlying24 rfl HI1.out rfl ?_)
    | ((with_reducible refine at_build (some 9) ?_); refine wpList_build_g 24 _ rfl #[] (by simp) (.agg R2) (BR.out _) rfl ?_)
    | ((with_reducible refine at_load (.tmp 13) ?_); refine wpList_load_part 26 (.tmp 13) rfl w.heap.size _ 2 33 C1 G1.out rfl (by rw [o2.out]; try rfl) rfl _ Try.underlying26 rfl HI2.out rfl ?_)
    | ((with_reducible refine at_build (some 15) ?_); refine wpList_build_g 26 _ rfl #[] (by simp) (.agg C2) (BC.out _) rfl ?_)
    | ((with_reducible refine at_load (.tmp 19) ?_); refine wpList_load_1 33 (.tmp 19) rfl w.heap.size 66 (.slice va vn vc) (G1.out.cellAt (k := 3) rfl (by rw [o3.out]; try rfl)) rfl _ Try.underlying33 rfl rfl ?_)
    | fail)
  go_ret
  exact tells_yes (id ⟨NS.out, NR.out, NC.out, NL.out⟩) HB0.out

set_option maxRecDepth 100000 in
set_option maxHeartbeats 8000000 in
theorem zcl_any (x : ClP) (v : Value) (w : World) (hx : (x.d (.slice none 0 0)).ok) (hI : IntsV w v x.l) :
    Calls Try.prog 44 #[.agg (x.d v).cells.toArray] w (Tells w (x.source = 0 ∧ x.target = 0 ∧ x.root = zeroR ∧ x.l = [])) := by
  obtain ⟨va, vn, vc, rfl⟩ := ints_shape' hI.1
  obtain ⟨hz, hm⟩ := len_zero hI.1
  have hr : IsBytes 32 x.root := hx.2.2
  obtain ⟨s, hs⟩ : ∃ s, x.source = s := ⟨_, rfl⟩
  obtain ⟨t, ht⟩ : ∃ s, x.target = s := ⟨_, rfl⟩
  have o0 : Hid (offP [[Value.int .u64 s], [.int .u64 t], bytesL x.root, [.slice va vn vc]] 0 = 0) := rfl
  have o1 : Hid (offP [[Value.int .u64 s], [.int .u64 t], bytesL x.root, [.slice va vn vc]] 1 = 1) := rfl
  have o2 : Hid (offP [[Value.int .u64 s], [.int .u64 t], bytesL x.root, [.slice va vn vc]] 2 = 2) := rfl
  have o3 : Hid (offP [[Value.int .u64 s], [.int .u64 t], bytesL x.root, [.slice va vn vc]] 3 = 34) := by show _ = _; simp [offP, bytesL_len hr]
  have eX : (x.d (.slice va vn vc)).cells.toArray = flatP [[Value.int .u64 s], [.int .u64 t], bytesL x.root, [.slice va vn vc]] := by rw [← hs, ← ht]; rfl
  rw [eX, hs, ht]
  obtain ⟨X, HX⟩ : ∃ X, Hid (flatP [[Value.int .u64 s], [.int .u64 t], bytesL x.root, [.slice va vn vc]] = X) := ⟨_, rfl⟩
  rw [HX.out]
  have G1 : Hid (Blk (w.alloc (.cells X 37)) w.heap.size (flatP [[Value.int .u64 s], [.int .u64 t], bytesL x.root, [.slice va vn vc]])) := (Blk.new rfl).to HX.out.symm
  have HB0 := Lib.hid ((Below.refl w.heap.size w).alloc (Nat.le_refl _) (.cells X 37))
  have E1 := eq_root hr zeroR_is
  rw [bytesL_V, bytesL_V] at E1
  obtain ⟨rb, hrb⟩ : ∃ b, decide (x.root = zeroR) = b := ⟨_, rfl⟩
  have HR : Hid (rb = true ↔ x.root = zeroR) := by show _ ↔ _; rw [← hrb]; simp
  rw [hrb] at E1
  have HL := Lib.hid hz
  have HI1 : Hid ((Try.prog.info? 24).map (·.size) = some (bytesL x.root).length) := by show _ = _; rw [bytesL_len hr]; kernel_rfl
  have BR := Lib.hid bz_root
  unfold maxLen at hm
  obtain ⟨pr, hpr⟩ : ∃ p, p = (x.root = zeroR) := ⟨_, rfl⟩
  obtain ⟨pl, hpl⟩ : ∃ p, p = (x.l = []) := ⟨_, rfl⟩
  rw [← hpr] at HR
  rw [← hpl] at HL
  rw [← hpr, ← hpl]
  clear eX hrb hz hI hx hr hs ht hpr hpl HX
  generalize bytesL x.root = R1 at *
  obtain ⟨R2, hR2⟩ : ∃ R, (bytesL zeroR).toArray = R := ⟨_, rfl⟩
  rw [hR2] at E1 BR
  clear hR2
  by_cases hq : s = 0
  case neg =>
    have qNS : (s == 0) = false := by simpa using hq
    have NS := Lib.hid hq; clear hq
    go_enter Try.func44, Try.ntmps44
    go_wp2_with (first
      | ((with_reducible refine at_load (.tmp 3) ?_); refine wpList_load_1 22 (.tmp 3) rfl w.heap.size 0 (.int .u64 s) (G1.out.cellAt (k := 0) rfl (by rw [o0.out]; try rfl)) rfl _ Try.underlying22 rfl rfl ?_)
      | fail)
    go_ret
    exact tells_no (fun h0 => by have h := id h0; exact NS.out h.1) HB0.out
  have qNS : (s == 0) = true := by simpa using hq
  have NS := Lib.hid hq; clear hq
  by_cases hq : t = 0
  case neg =>
    have qNT : (t == 0) = false := by simpa using hq
    have NT := Lib.hid hq; clear hq
    go_enter Try.func44, Try.ntmps44
    go_wp2_with (first
      | ((with_reducible refine at_load (.tmp 3) ?_); refine wpList_load_1 22 (.tmp 3) rfl w.heap.size 0 (.int .u64 s) (G1.out.cellAt (k := 0) rfl (by rw [o0.out]; try rfl)) rfl _ Try.underlying22 rfl rfl ?_)
      | ((with_reducible refine at_load (.tmp 7) ?_); refine wpList_load_1 22 (.tmp 7) rfl w.heap.size 1 (.int .u64 t) (G1.out.cellAt (k := 1) rfl (by rw [o1.out]; try rfl)) rfl _ Try.underlying22 rfl rfl ?_)
      | fail)
    go_ret
    exact tells_no (fun h0 => by have h := id h0; exact NT.out h.2.1) HB0.out
  have qNT : (t == 0) = true := by simpa using hq
  have NT := Lib.hid hq; clear hq
  cases rb
  case false =>
    have NR : Hid (¬ (pr)) := fun h => by have := HR.out.2 h; cases this
    go_enter Try.func44, Try.ntmps44
    go_wp2_with (first
      | ((with_reducible refine at_load (.tmp 3) ?_); refine wpList_load_1 22 (.tmp 3) rfl w.heap.size 0 (.int .u64 s) (G1.out.cellAt (k := 0) rfl (by rw [o0.out]; try rfl)) rfl _ Try.underlying22 rfl rfl ?_)
      | ((with_reducible refine at_load (.tmp 7) ?_); refine wpList_load_1 22 (.tmp 7) rfl w.heap.size 1 (.int .u64 t) (G1.out.cellAt (k := 1) rfl (by rw [o1.out]; try rfl)) rfl _ Try.underlying22 rfl rfl ?_)
      | ((with_reducible refine at_load (.tmp 12) ?_); refine wpList_load_part 24 (.tmp 12) rfl w.heap.size _ 2 2 R1 G1.out rfl (by rw [o2.out]; try rfl) rfl _ Try.underlying24 rfl HI1.out rfl ?_)
      | ((with_reducible refine at_build (some 14) ?_); refine wpList_build_g 24 _ rfl #[] (by simp) (.agg R2) (BR.out _) rfl ?_)
      | fail)
    go_ret
    exact tells_no (fun h0 => by have h := id h0; exact NR.out h.2.2.1) HB0.out
  have NR : Hid (pr) := HR.out.1 rfl
  by_cases hq : (vn : Int) = 0
  case neg =>
    have qL : ((vn : Int) == 0) = false := by simpa using hq
    have NL : Hid (¬ pl) := fun h => hq (HL.out.2 h)
    clear hq
    go_enter Try.func44, Try.ntmps44
    go_wp2_with (first
      | ((with_reducible refine at_load (.tmp 3) ?_); refine wpList_load_1 22 (.tmp 3) rfl w.heap.size 0 (.int .u64 s) (G1.out.cellAt (k := 0) rfl (by rw [o0.out]; try rfl)) rfl _ Try.underlying22 rfl rfl ?_)
      | ((with_reducible refine at_load (.tmp 7) ?_); refine wpList_load_1 22 (.tmp 7) rfl w.heap.size 1 (.int .u64 t) (G1.out.cellAt (k := 1) rfl (by rw [o1.out]; try rfl)) rfl _ Try.underlying22 rfl rfl ?_)
      | ((with_reducible refine at_load (.tmp 12) ?_); refine wpList_load_part 24 (.tmp 12) rfl w.heap.size _ 2 2 R1 G1.out rfl (by rw [o2.out]; try rfl) rfl _ Try.underlying24 rfl HI1.out rfl ?_)
      | ((with_reducible refine at_build (some 14) ?_); refine wpList_build_g 24 _ rfl #[] (by simp) (.agg R2) (BR.out _) rfl ?_)
      | ((with_reducible refine at_load (.tmp 18) ?_); refine wpList_load_1 33 (.tmp 18) rfl w.heap.size 34 (.slice va vn vc) (G1.out.cellAt (k := 3) rfl (by rw [o3.out]; try rfl)) rfl _ Try.underlying33 rfl rfl ?_)
      | fail)
    go_ret
    exact tells_no (fun h0 => by have h := id h0; exact NL.out h.2.2.2) HB0.out
  have qL : ((vn : Int) == 0) = true := by simpa using hq
  have NL := Lib.hid (HL.out.1 hq)
  clear hq
  go_enter Try.func44, Try.ntmps44
  go_wp2_with (first
    | ((with_reducible refine at_load (.tmp 3) ?_); refine wpList_load_1 22 (.tmp 3) rfl w.heap.size 0 (.int .u64 s) (G1.out.cellAt (k := 0) rfl (by rw [o0.out]; try rfl)) rfl _ Try.underlying22 rfl rfl ?_)
    | ((with_reducible refine at_load (.tmp 7) ?_); refine wpList_load_1 22 (.tmp 7) rfl w.heap.size 1 (.int .u64 t) (G1.out.cellAt (k := 1) rfl (by rw [o1.out]; try rfl)) rfl _ Try.underlying22 rfl rfl ?_)
    | ((with_reducible refine at_load (.tmp 12) ?_); refine wpList_load_part 24 (.tmp 12) rfl w.heap.size _ 2 2 R1 G1.out rfl (by rw [o2.out]; try rfl) rfl _ Try.underlying24 rfl HI1.out rfl ?_)
    | ((with_reducible refine at_build (some 14) ?_); refine wpList_build_g 24 _ rfl #[] (by simp) (.agg R2) (BR.out _) rfl ?_)
    | ((with_reducible refine at_load (.tmp 18) ?_); refine wpList_load_1 33 (.tmp 18) rfl w.heap.size 34 (.slice va vn vc) (G1.out.cellAt (k := 3) rfl (by rw [o3.out]; try rfl)) rfl _ Try.underlying33 rfl rfl ?_)
    | fail)
  go_ret
  exact tells_yes (id ⟨NS.out, NT.out, NR.out, NL.out⟩) HB0.out

set_option maxRecDepth 100000 in
set_option maxHeartbeats 8000000 in
theorem ztb_any (c : CpD) (l : List Int) (v : Value) (w : World) (hc : c.ok) (hI : NumsV w v l) :
    Calls Try.prog 45 #[.agg [c.cells, [v]].flatten.toArray] w (Tells w (c = zCp ∧ l = [])) := by
  obtain ⟨va, vn, vc, rfl⟩ := ints_shape' hI.1
  obtain ⟨hz, hm⟩ := len_zero hI.1
  have o0 : Hid (offP [c.cells, [.slice va vn vc]] 0 = 0) := rfl
  have o1 : Hid (offP [c.cells, [.slice va vn vc]] 1 = 33) := by show _ = _; simp [offP, CpD.len hc]
  have eX : [c.cells, [.slice va vn vc]].flatten.toArray = flatP [c.cells, [.slice va vn vc]] := rfl
  rw [eX]
  obtain ⟨X, HX⟩ : ∃ X, Hid (flatP [c.cells, [.slice va vn vc]] = X) := ⟨_, rfl⟩
  rw [HX.out]
  have G1 : Hid (Blk (w.alloc (.cells X 42)) w.heap.size (flatP [c.cells, [.slice va vn vc]])) := (Blk.new rfl).to HX.out.symm
  have HB0 := Lib.hid ((Below.refl w.heap.size w).alloc (Nat.le_refl _) (.cells X 42))
  obtain ⟨cb, E2, hcb⟩ := eq_cp2 hc zCp_ok
  have HC : Hid (cb = true ↔ c = zCp) := by show _ ↔ _; rw [hcb]; exact ⟨CpD.inj, fun e => by rw [e]⟩
  have HL := Lib.hid hz
  have HI2 : Hid ((Try.prog.info? 26).map (·.size) = some c.cells.length) := by show _ = _; rw [CpD.len hc]; kernel_rfl
  have BC := Lib.hid bz_cp
  unfold maxLen at hm
  obtain ⟨pc, hpc⟩ : ∃ p, p = (c = zCp) := ⟨_, rfl⟩
  obtain ⟨pl, hpl⟩ : ∃ p, p = (l = []) := ⟨_, rfl⟩
  rw [← hpc] at HC
  rw [← hpl] at HL
  rw [← hpc, ← hpl]
  clear eX hcb hz hI hc hpc hpl HX
  generalize c.cells = C1 at *
  obtain ⟨C2, hC2⟩ : ∃ C, zCp.cells.toArray = C := ⟨_, rfl⟩
  rw [hC2] at E2 BC
  clear hC2
  cases cb
  case false =>
    have NC : Hid (¬ (pc)) := fun h => by have := HC.out.2 h; cases this
    go_enter Try.func45, Try.ntmps45
    go_wp2_with (first
      | ((with_reducible refine at_load (.tmp 3) ?_); refine wpList_load_part 26 (.tmp 3) rfl w.heap.size _ 0 0 C1 G1.out rfl (by rw [o0.out]; try rfl) rfl _ Try.underlying26 rfl HI2.out rfl ?_)
      | ((with_reducible refine at_build (some 5) ?_); refine wpList_build_g 26 _ rfl #[] (by simp) (.agg C2) (BC.out _) rfl ?_)
      | fail)
    go_ret
    exact tells_no (fun h0 => by have h := id h0; exact NC.out h.1) HB0.out
  have NC : Hid (pc) := HC.out.1 rfl
  by_cases hq : (vn : Int) = 0
  case neg =>
    have qL : ((vn : Int) == 0) = false := by simpa using hq
    have NL : Hid (¬ pl) := fun h => hq (HL.out.2 h)
    clear hq
    go_enter Try.func45, Try.ntmps45
    go_wp2_with (first
      | ((with_reducible refine at_load (.tmp 3) ?_); refine wpList_load_part 26 (.tmp 3) rfl w.heap.size _ 0 0 C1 G1.out rfl (by rw [o0.out]; try rfl) rfl _ Try.underlying26 rfl HI2.out rfl ?_)
      | ((with_reducible refine at_build (some 5) ?_); refine wpList_build_g 26 _ rfl #[] (by simp) (.agg C2) (BC.out _) rfl ?_)
      | ((with_reducible refine at_load (.tmp 8) ?_); refine wpList_load_1 40 (.tmp 8) rfl w.heap.size 33 (.slice va vn vc) (G1.out.cellAt (k := 1) rfl (by rw [o1.out]; try rfl)) rfl _ Try.underlying40 rfl rfl ?_)
      | fail)
    go_ret
    exact tells_no (fun h0 => by have h := id h0; exact NL.out h.2) HB0.out
  have qL : ((vn : Int) == 0) = true := by simpa using hq
  have NL := Lib.hid (HL.out.1 hq)
  clear hq
  go_enter Try.func45, Try.ntmps45
  go_wp2_with (first
    | ((with_reducible refine at_load (.tmp 3) ?_); refine wpList_load_part 26 (.tmp 3) rfl w.heap.size _ 0 0 C1 G1.out rfl (by rw [o0.out]; try rfl) rfl _ Try.underlying26 rfl HI2.out rfl ?_)
    | ((with_reducible refine at_build (some 5) ?_); refine wpList_build_g 26 _ rfl #[] (by simp) (.agg C2) (BC.out _) rfl ?_)
    | ((with_reducible refine at_load (.tmp 8) ?_); refine wpList_load_1 40 (.tmp 8) rfl w.heap.size 33 (.slice va vn vc) (G1.out.cellAt (k := 1) rfl (by rw [o1.out]; try rfl)) rfl _ Try.underlying40 rfl rfl ?_)
    | fail)
  go_ret
  exact tells_yes (id ⟨NC.out, NL.out⟩) HB0.out
end

/-! ScW -/
section
set_option linter.unusedVariables false
set_option linter.unusedSimpArgs false
open Go.RowKit

/-- The parts of an operation, its slashing's two claims apart. -/
def OpD.parts9 (x : OpD) (v1 v2 v3 v4 : Value) : List (List Value) :=
  [[.int .i64 x.k], x.b.parts.flatten, (x.a.d v1).parts.flatten, (x.c1.d v2).cells, (x.c2.d v3).cells, [x.tc.cells, [v4]].flatten, x.v.parts.flatten, [.int .i64 x.w], [.int .i64 x.p]]
theorem parts9_flat (x : OpD) (v1 v2 v3 v4 : Value) : flatP (x.parts v1 v2 v3 v4) = flatP (x.parts9 v1 v2 v3 v4) := by
  simp [flatP, OpD.parts, OpD.parts9]
theorem op_offs9 {x : OpD} (h : x.ok) (v1 v2 v3 v4 : Value) (k : Nat) : offP (x.parts9 v1 v2 v3 v4) k = ([1, 238, 67, 35, 35, 34, 34, 1, 1].take k).sum := by
  refine offs_of ?_ k
  obtain ⟨_, h1, h2, h3, h4, h5, h6, _⟩ := h
  simp only [OpD.parts9, List.map_cons, List.map_nil, BkD.len238 h1, AtP.len h2, VdD.len h6, ClP.len h3, ClP.len h4]
  simp [CpD.len h5]

set_option maxRecDepth 100000 in
set_option maxHeartbeats 16000000 in
theorem izo_any (P : Value → Prop) (X : Array Value) (d : OpD) (w : World) (hX : OpIn P w X d) : Calls Try.prog 24 #[.agg X] w (Tells w (IsZ d)) := by
  have hX0 := hX.size
  obtain ⟨v1, v2, v3, v4, eX, ok1, ⟨i1, _⟩, ⟨i2, _⟩, ⟨i3, _⟩, ⟨i4, _⟩⟩ := hX
  have ok1' := ok1
  obtain ⟨_, b1, a1, c1, c1', t1, w1, _⟩ := ok1'
  have DA : Hid (∀ u, Below w.heap.size w u → Calls Try.prog 43 #[.agg (d.a.d v1).parts.flatten.toArray] u (Tells u (d.a.slot = 0 ∧ d.a.root = zeroR ∧ d.a.cp = zCp ∧ d.a.l = []))) := fun u hu => zat_any _ _ u a1 (i1.below hu)
  have DC1 : Hid (∀ u, Below w.heap.size w u → Calls Try.prog 44 #[.agg (d.c1.d v2).cells.toArray] u (Tells u (d.c1.source = 0 ∧ d.c1.target = 0 ∧ d.c1.root = zeroR ∧ d.c1.l = []))) := fun u hu => zcl_any _ _ u c1 (i2.below hu)
  have DC2 : Hid (∀ u, Below w.heap.size w u → Calls Try.prog 44 #[.agg (d.c2.d v3).cells.toArray] u (Tells u (d.c2.source = 0 ∧ d.c2.target = 0 ∧ d.c2.root = zeroR ∧ d.c2.l = []))) := fun u hu => zcl_any _ _ u c1' (i3.below hu)
  have DT : Hid (∀ u, Below w.heap.size w u → Calls Try.prog 45 #[.agg [d.tc.cells, [v4]].flatten.toArray] u (Tells u (d.tc = zCp ∧ d.tl = []))) := fun u hu => ztb_any _ _ _ u t1 (i4.below hu)
  obtain ⟨rb, E1, hrb⟩ := eq_blk2 b1 zBk_ok
  obtain ⟨rv, E5, hrv⟩ := eq_vd2 w1 zVd_ok
  have oo := op_offs9 ok1 v1 v2 v3 v4
  have HB0 := Lib.hid ((Below.refl w.heap.size w).alloc (Nat.le_refl _) (.cells X 48))
  have G1 : Hid (Blk (w.alloc (.cells X 48)) w.heap.size (flatP (d.parts9 v1 v2 v3 v4))) := (Blk.new rfl).to (by rw [eX, parts9_flat])
  have HS : Hid (IsZ d ↔ flatP d.b.parts = flatP zBk.parts ∧ (d.a.slot = 0 ∧ d.a.root = zeroR ∧ d.a.cp = zCp ∧ d.a.l = []) ∧ (d.c1.source = 0 ∧ d.c1.target = 0 ∧ d.c1.root = zeroR ∧ d.c1.l = []) ∧ (d.c2.source = 0 ∧ d.c2.target = 0 ∧ d.c2.root = zeroR ∧ d.c2.l = []) ∧ (d.tc = zCp ∧ d.tl = []) ∧ flatP d.v.parts = flatP zVd.parts ∧ d.w = 0 ∧ d.p = 0) :=
    ⟨fun h => ⟨h.b, h.a, h.c1, h.c2, h.t, h.v, h.w, h.p⟩, fun h => ⟨h.1, h.2.1, h.2.2.1, h.2.2.2.1, h.2.2.2.2.1, h.2.2.2.2.2.1, h.2.2.2.2.2.2.1, h.2.2.2.2.2.2.2⟩⟩
  have HRB : Hid (rb = true ↔ flatP d.b.parts = flatP zBk.parts) := hrb
  have HRV : Hid (rv = true ↔ flatP d.v.parts = flatP zVd.parts) := hrv
  have l1 := BkD.len238 b1
  have l3 := AtP.len (v := v1) a1
  have l5 : (d.c1.d v2).cells.length = 35 := ClP.len c1
  have l6 : (d.c2.d v3).cells.length = 35 := ClP.len c1'
  have l7 : [d.tc.cells, [v4]].flatten.length = 34 := by simp [CpD.len t1]
  have l9 := VdD.len w1
  have BB := Lib.hid bz_blk
  have BV := Lib.hid bz_vd
  unfold OpD.parts9 at G1 oo
  clear eX ok1 i1 i2 i3 i4 b1 a1 c1 c1' t1 w1 hrb hrv hX0
  change ∀ w, Sem.run Try.prog (Op.equalIn 10000 32 (.agg d.b.parts.flatten.toArray) (.agg zBk.parts.flatten.toArray)) w = .ok rb w at E1
  change ∀ w, Sem.run Try.prog (Op.equalIn 10000 46 (.agg d.v.parts.flatten.toArray) (.agg zVd.parts.flatten.toArray)) w = .ok rv w at E5
  obtain ⟨qb, hqb⟩ : ∃ p : Prop, p = (flatP d.b.parts = flatP zBk.parts) := ⟨_, rfl⟩
  rw [← hqb] at HRB HS
  obtain ⟨qa, hqa⟩ : ∃ p : Prop, p = (d.a.slot = 0 ∧ d.a.root = zeroR ∧ d.a.cp = zCp ∧ d.a.l = []) := ⟨_, rfl⟩
  rw [← hqa] at DA HS
  obtain ⟨qc, hqc⟩ : ∃ p : Prop, p = (d.c1.source = 0 ∧ d.c1.target = 0 ∧ d.c1.root = zeroR ∧ d.c1.l = []) := ⟨_, rfl⟩
  rw [← hqc] at DC1 HS
  obtain ⟨qd, hqd⟩ : ∃ p : Prop, p = (d.c2.source = 0 ∧ d.c2.target = 0 ∧ d.c2.root = zeroR ∧ d.c2.l = []) := ⟨_, rfl⟩
  rw [← hqd] at DC2 HS
  obtain ⟨qt, hqt⟩ : ∃ p : Prop, p = (d.tc = zCp ∧ d.tl = []) := ⟨_, rfl⟩
  rw [← hqt] at DT HS
  obtain ⟨qv, hqv⟩ : ∃ p : Prop, p = (flatP d.v.parts = flatP zVd.parts) := ⟨_, rfl⟩
  rw [← hqv] at HRV HS
  clear hqb hqa hqc hqd hqt hqv
  generalize d.b.parts.flatten = B1 at *
  generalize (d.a.d v1).parts.flatten = A1 at *
  generalize (d.c1.d v2).cells = C1 at *
  generalize (d.c2.d v3).cells = D1 at *
  generalize [d.tc.cells, [v4]].flatten = T1 at *
  generalize d.v.parts.flatten = V1 at *
  obtain ⟨BZ, hBZ⟩ : ∃ R, zBk.parts.flatten.toArray = R := ⟨_, rfl⟩
  obtain ⟨VZ, hVZ⟩ : ∃ R, zVd.parts.flatten.toArray = R := ⟨_, rfl⟩
  rw [hBZ] at E1 BB
  rw [hVZ] at E5 BV
  clear hBZ hVZ
  have HB1 : Hid ((Try.prog.info? 32).map (·.size) = some B1.length) := by show _ = _; rw [l1]; kernel_rfl
  have HA1 : Hid ((Try.prog.info? 35).map (·.size) = some A1.length) := by show _ = _; rw [l3]; kernel_rfl
  have HC1 : Hid ((Try.prog.info? 37).map (·.size) = some C1.length) := by show _ = _; rw [l5]; kernel_rfl
  have HD1 : Hid ((Try.prog.info? 37).map (·.size) = some D1.length) := by show _ = _; rw [l6]; kernel_rfl
  have HT1 : Hid ((Try.prog.info? 42).map (·.size) = some T1.length) := by show _ = _; rw [l7]; kernel_rfl
  have HV1 : Hid ((Try.prog.info? 46).map (·.size) = some V1.length) := by show _ = _; rw [l9]; kernel_rfl
  obtain ⟨x1, hx1⟩ : ∃ n, d.w = n := ⟨_, rfl⟩
  obtain ⟨y1, hy1⟩ : ∃ n, d.p = n := ⟨_, rfl⟩
  obtain ⟨kk, hkk⟩ : ∃ n, d.k = n := ⟨_, rfl⟩
  rw [hx1] at HS G1 oo
  rw [hy1] at HS G1 oo
  rw [hkk] at G1 oo
  have OO := Lib.hid oo
  clear l1 l3 l5 l6 l7 l9 hx1 hy1 hkk oo
  cases rb
  case false =>
    have NB : Hid (¬ (qb)) := fun h => by have := HRB.out.2 h; cases this
    go_enter Try.func24, Try.ntmps24
    go_wp2_with (first
      | ((with_reducible refine at_build (some 5) ?_); refine wpList_build_g 32 _ rfl #[] (by simp) (.agg BZ) (BB.out _) rfl ?_)
      | ((with_reducible refine at_load (.tmp 3) ?_); refine wpList_load_part 32 (.tmp 3) rfl w.heap.size _ 1 1 B1 G1.out rfl (by rw [OO.out]; try rfl) rfl _ Try.underlying32 rfl HB1.out rfl ?_)
      | fail)
    go_ret
    exact tells_no (fun h0 => by have h := HS.out.1 h0; exact NB.out h.1) HB0.out
  have NB : Hid (qb) := HRB.out.1 rfl
  by_cases hq : qa
  case neg =>
    have NA := Lib.hid hq; clear hq
    go_enter Try.func24, Try.ntmps24
    go_wp2_with (first
      | (go_at_call 43; refine (DA.out _ HB0.out).mono ?_; rintro en w1 hh; obtain ⟨rfl, hbb⟩ := tells_false hh NA.out; have KB1 := Lib.hid (HB0.out.trans (hbb.mono HB0.out.size)); have G2 := Lib.hid (G1.out.call hbb); clear hh hbb)
      | ((with_reducible refine at_load (.tmp 8) ?_); refine wpList_load_part 35 (.tmp 8) rfl w.heap.size _ 2 239 A1 G1.out rfl (by rw [OO.out]; try rfl) rfl _ Try.underlying35 rfl HA1.out rfl ?_)
      | ((with_reducible refine at_build (some 5) ?_); refine wpList_build_g 32 _ rfl #[] (by simp) (.agg BZ) (BB.out _) rfl ?_)
      | ((with_reducible refine at_load (.tmp 3) ?_); refine wpList_load_part 32 (.tmp 3) rfl w.heap.size _ 1 1 B1 G1.out rfl (by rw [OO.out]; try rfl) rfl _ Try.underlying32 rfl HB1.out rfl ?_)
      | fail)
    go_ret
    exact tells_no (fun h0 => by have h := HS.out.1 h0; exact NA.out h.2.1) KB1.out
  have NA := Lib.hid hq; clear hq
  by_cases hq : qc
  case neg =>
    have NC := Lib.hid hq; clear hq
    go_enter Try.func24, Try.ntmps24
    go_wp2_with (first
      | (go_at_call 44; refine (DC1.out _ KB1.out).mono ?_; rintro en w2 hh; obtain ⟨rfl, hbb⟩ := tells_false hh NC.out; have KB2 := Lib.hid (KB1.out.trans (hbb.mono KB1.out.size)); have G3 := Lib.hid (G2.out.call hbb); clear hh hbb)
      | ((with_reducible refine at_load (.tmp 14) ?_); refine wpList_load_part 37 (.tmp 14) rfl w.heap.size _ 3 306 C1 G2.out rfl (by rw [OO.out]; try rfl) rfl _ Try.underlying37 rfl HC1.out rfl ?_)
      | (go_at_call 43; refine (DA.out _ HB0.out).mono ?_; rintro en w1 hh; obtain ⟨rfl, hbb⟩ := tells_true hh NA.out; have KB1 := Lib.hid (HB0.out.trans (hbb.mono HB0.out.size)); have G2 := Lib.hid (G1.out.call hbb); clear hh hbb)
      | ((with_reducible refine at_load (.tmp 8) ?_); refine wpList_load_part 35 (.tmp 8) rfl w.heap.size _ 2 239 A1 G1.out rfl (by rw [OO.out]; try rfl) rfl _ Try.underlying35 rfl HA1.out rfl ?_)
      | ((with_reducible refine at_build (some 5) ?_); refine wpList_build_g 32 _ rfl #[] (by simp) (.agg BZ) (BB.out _) rfl ?_)
      | ((with_reducible refine at_load (.tmp 3) ?_); refine wpList_load_part 32 (.tmp 3) rfl w.heap.size _ 1 1 B1 G1.out rfl (by rw [OO.out]; try rfl) rfl _ Try.underlying32 rfl HB1.out rfl ?_)
      | fail)
    go_ret
    exact tells_no (fun h0 => by have h := HS.out.1 h0; exact NC.out h.2.2.1) KB2.out
  have NC := Lib.hid hq; clear hq
  by_cases hq : qd
  case neg =>
    have ND := Lib.hid hq; clear hq
    go_enter Try.func24, Try.ntmps24
    go_wp2_with (first
      | (go_at_call 44; refine (DC2.out _ KB2.out).mono ?_; rintro en w3 hh; obtain ⟨rfl, hbb⟩ := tells_false hh ND.out; have KB3 := Lib.hid (KB2.out.trans (hbb.mono KB2.out.size)); have G4 := Lib.hid (G3.out.call hbb); clear hh hbb)
      | ((with_reducible refine at_load (.tmp 20) ?_); refine wpList_load_part 37 (.tmp 20) rfl w.heap.size _ 4 341 D1 G3.out rfl (by rw [OO.out]; try rfl) rfl _ Try.underlying37 rfl HD1.out rfl ?_)
      | (go_at_call 44; refine (DC1.out _ KB1.out).mono ?_; rintro en w2 hh; obtain ⟨rfl, hbb⟩ := tells_true hh NC.out; have KB2 := Lib.hid (KB1.out.trans (hbb.mono KB1.out.size)); have G3 := Lib.hid (G2.out.call hbb); clear hh hbb)
      | ((with_reducible refine at_load (.tmp 14) ?_); refine wpList_load_part 37 (.tmp 14) rfl w.heap.size _ 3 306 C1 G2.out rfl (by rw [OO.out]; try rfl) rfl _ Try.underlying37 rfl HC1.out rfl ?_)
      | (go_at_call 43; refine (DA.out _ HB0.out).mono ?_; rintro en w1 hh; obtain ⟨rfl, hbb⟩ := tells_true hh NA.out; have KB1 := Lib.hid (HB0.out.trans (hbb.mono HB0.out.size)); have G2 := Lib.hid (G1.out.call hbb); clear hh hbb)
      | ((with_reducible refine at_load (.tmp 8) ?_); refine wpList_load_part 35 (.tmp 8) rfl w.heap.size _ 2 239 A1 G1.out rfl (by rw [OO.out]; try rfl) rfl _ Try.underlying35 rfl HA1.out rfl ?_)
      | ((with_reducible refine at_build (some 5) ?_); refine wpList_build_g 32 _ rfl #[] (by simp) (.agg BZ) (BB.out _) rfl ?_)
      | ((with_reducible refine at_load (.tmp 3) ?_); refine wpList_load_part 32 (.tmp 3) rfl w.heap.size _ 1 1 B1 G1.out rfl (by rw [OO.out]; try rfl) rfl _ Try.underlying32 rfl HB1.out rfl ?_)
      | fail)
    go_ret
    exact tells_no (fun h0 => by have h := HS.out.1 h0; exact ND.out h.2.2.2.1) KB3.out
  have ND := Lib.hid hq; clear hq
  by_cases hq : qt
  case neg =>
    have NT := Lib.hid hq; clear hq
    go_enter Try.func24, Try.ntmps24
    go_wp2_with (first
      | (go_at_call 45; refine (DT.out _ KB3.out).mono ?_; rintro en w4 hh; obtain ⟨rfl, hbb⟩ := tells_false hh NT.out; have KB4 := Lib.hid (KB3.out.trans (hbb.mono KB3.out.size)); have G5 := Lib.hid (G4.out.call hbb); clear hh hbb)
      | ((with_reducible refine at_load (.tmp 25) ?_); refine wpList_load_part 42 (.tmp 25) rfl w.heap.size _ 5 376 T1 G4.out rfl (by rw [OO.out]; try rfl) rfl _ Try.underlying42 rfl HT1.out rfl ?_)
      | (go_at_call 44; refine (DC2.out _ KB2.out).mono ?_; rintro en w3 hh; obtain ⟨rfl, hbb⟩ := tells_true hh ND.out; have KB3 := Lib.hid (KB2.out.trans (hbb.mono KB2.out.size)); have G4 := Lib.hid (G3.out.call hbb); clear hh hbb)
      | ((with_reducible refine at_load (.tmp 20) ?_); refine wpList_load_part 37 (.tmp 20) rfl w.heap.size _ 4 341 D1 G3.out rfl (by rw [OO.out]; try rfl) rfl _ Try.underlying37 rfl HD1.out rfl ?_)
      | (go_at_call 44; refine (DC1.out _ KB1.out).mono ?_; rintro en w2 hh; obtain ⟨rfl, hbb⟩ := tells_true hh NC.out; have KB2 := Lib.hid (KB1.out.trans (hbb.mono KB1.out.size)); have G3 := Lib.hid (G2.out.call hbb); clear hh hbb)
      | ((with_reducible refine at_load (.tmp 14) ?_); refine wpList_load_part 37 (.tmp 14) rfl w.heap.size _ 3 306 C1 G2.out rfl (by rw [OO.out]; try rfl) rfl _ Try.underlying37 rfl HC1.out rfl ?_)
      | (go_at_call 43; refine (DA.out _ HB0.out).mono ?_; rintro en w1 hh; obtain ⟨rfl, hbb⟩ := tells_true hh NA.out; have KB1 := Lib.hid (HB0.out.trans (hbb.mono HB0.out.size)); have G2 := Lib.hid (G1.out.call hbb); clear hh hbb)
      | ((with_reducible refine at_load (.tmp 8) ?_); refine wpList_load_part 35 (.tmp 8) rfl w.heap.size _ 2 239 A1 G1.out rfl (by rw [OO.out]; try rfl) rfl _ Try.underlying35 rfl HA1.out rfl ?_)
      | ((with_reducible refine at_build (some 5) ?_); refine wpList_build_g 32 _ rfl #[] (by simp) (.agg BZ) (BB.out _) rfl ?_)
      | ((with_reducible refine at_load (.tmp 3) ?_); refine wpList_load_part 32 (.tmp 3) rfl w.heap.size _ 1 1 B1 G1.out rfl (by rw [OO.out]; try rfl) rfl _ Try.underlying32 rfl HB1.out rfl ?_)
      | fail)
    go_ret
    exact tells_no (fun h0 => by have h := HS.out.1 h0; exact NT.out h.2.2.2.2.1) KB4.out
  have NT := Lib.hid hq; clear hq
  cases rv
  case false =>
    have NV : Hid (¬ (qv)) := fun h => by have := HRV.out.2 h; cases this
    go_enter Try.func24, Try.ntmps24
    go_wp2_with (first
      | ((with_reducible refine at_build (some 32) ?_); refine wpList_build_g 46 _ rfl #[] (by simp) (.agg VZ) (BV.out _) rfl ?_)
      | ((with_reducible refine at_load (.tmp 30) ?_); refine wpList_load_part 46 (.tmp 30) rfl w.heap.size _ 6 410 V1 G5.out rfl (by rw [OO.out]; try rfl) rfl _ Try.underlying46 rfl HV1.out rfl ?_)
      | (go_at_call 45; refine (DT.out _ KB3.out).mono ?_; rintro en w4 hh; obtain ⟨rfl, hbb⟩ := tells_true hh NT.out; have KB4 := Lib.hid (KB3.out.trans (hbb.mono KB3.out.size)); have G5 := Lib.hid (G4.out.call hbb); clear hh hbb)
      | ((with_reducible refine at_load (.tmp 25) ?_); refine wpList_load_part 42 (.tmp 25) rfl w.heap.size _ 5 376 T1 G4.out rfl (by rw [OO.out]; try rfl) rfl _ Try.underlying42 rfl HT1.out rfl ?_)
      | (go_at_call 44; refine (DC2.out _ KB2.out).mono ?_; rintro en w3 hh; obtain ⟨rfl, hbb⟩ := tells_true hh ND.out; have KB3 := Lib.hid (KB2.out.trans (hbb.mono KB2.out.size)); have G4 := Lib.hid (G3.out.call hbb); clear hh hbb)
      | ((with_reducible refine at_load (.tmp 20) ?_); refine wpList_load_part 37 (.tmp 20) rfl w.heap.size _ 4 341 D1 G3.out rfl (by rw [OO.out]; try rfl) rfl _ Try.underlying37 rfl HD1.out rfl ?_)
      | (go_at_call 44; refine (DC1.out _ KB1.out).mono ?_; rintro en w2 hh; obtain ⟨rfl, hbb⟩ := tells_true hh NC.out; have KB2 := Lib.hid (KB1.out.trans (hbb.mono KB1.out.size)); have G3 := Lib.hid (G2.out.call hbb); clear hh hbb)
      | ((with_reducible refine at_load (.tmp 14) ?_); refine wpList_load_part 37 (.tmp 14) rfl w.heap.size _ 3 306 C1 G2.out rfl (by rw [OO.out]; try rfl) rfl _ Try.underlying37 rfl HC1.out rfl ?_)
      | (go_at_call 43; refine (DA.out _ HB0.out).mono ?_; rintro en w1 hh; obtain ⟨rfl, hbb⟩ := tells_true hh NA.out; have KB1 := Lib.hid (HB0.out.trans (hbb.mono HB0.out.size)); have G2 := Lib.hid (G1.out.call hbb); clear hh hbb)
      | ((with_reducible refine at_load (.tmp 8) ?_); refine wpList_load_part 35 (.tmp 8) rfl w.heap.size _ 2 239 A1 G1.out rfl (by rw [OO.out]; try rfl) rfl _ Try.underlying35 rfl HA1.out rfl ?_)
      | ((with_reducible refine at_build (some 5) ?_); refine wpList_build_g 32 _ rfl #[] (by simp) (.agg BZ) (BB.out _) rfl ?_)
      | ((with_reducible refine at_load (.tmp 3) ?_); refine wpList_load_part 32 (.tmp 3) rfl w.heap.size _ 1 1 B1 G1.out rfl (by rw [OO.out]; try rfl) rfl _ Try.underlying32 rfl HB1.out rfl ?_)
      | fail)
    go_ret
    exact tells_no (fun h0 => by have h := HS.out.1 h0; exact NV.out h.2.2.2.2.2.1) KB4.out
  have NV : Hid (qv) := HRV.out.1 rfl
  by_cases hq : x1 = 0
  case neg =>
    have qNW : (x1 == 0) = false := by simpa using hq
    have NW := Lib.hid hq; clear hq
    go_enter Try.func24, Try.ntmps24
    go_wp2_with (first
      | ((with_reducible refine at_load (.tmp 36) ?_); refine wpList_load_1 3 (.tmp 36) rfl w.heap.size 444 (.int .i64 x1) (G5.out.cellAt (k := 7) rfl (by rw [OO.out]; try rfl)) rfl _ Try.underlying3 rfl rfl ?_)
      | ((with_reducible refine at_build (some 32) ?_); refine wpList_build_g 46 _ rfl #[] (by simp) (.agg VZ) (BV.out _) rfl ?_)
      | ((with_reducible refine at_load (.tmp 30) ?_); refine wpList_load_part 46 (.tmp 30) rfl w.heap.size _ 6 410 V1 G5.out rfl (by rw [OO.out]; try rfl) rfl _ Try.underlying46 rfl HV1.out rfl ?_)
      | (go_at_call 45; refine (DT.out _ KB3.out).mono ?_; rintro en w4 hh; obtain ⟨rfl, hbb⟩ := tells_true hh NT.out; have KB4 := Lib.hid (KB3.out.trans (hbb.mono KB3.out.size)); have G5 := Lib.hid (G4.out.call hbb); clear hh hbb)
      | ((with_reducible refine at_load (.tmp 25) ?_); refine wpList_load_part 42 (.tmp 25) rfl w.heap.size _ 5 376 T1 G4.out rfl (by rw [OO.out]; try rfl) rfl _ Try.underlying42 rfl HT1.out rfl ?_)
      | (go_at_call 44; refine (DC2.out _ KB2.out).mono ?_; rintro en w3 hh; obtain ⟨rfl, hbb⟩ := tells_true hh ND.out; have KB3 := Lib.hid (KB2.out.trans (hbb.mono KB2.out.size)); have G4 := Lib.hid (G3.out.call hbb); clear hh hbb)
      | ((with_reducible refine at_load (.tmp 20) ?_); refine wpList_load_part 37 (.tmp 20) rfl w.heap.size _ 4 341 D1 G3.out rfl (by rw [OO.out]; try rfl) rfl _ Try.underlying37 rfl HD1.out rfl ?_)
      | (go_at_call 44; refine (DC1.out _ KB1.out).mono ?_; rintro en w2 hh; obtain ⟨rfl, hbb⟩ := tells_true hh NC.out; have KB2 := Lib.hid (KB1.out.trans (hbb.mono KB1.out.size)); have G3 := Lib.hid (G2.out.call hbb); clear hh hbb)
      | ((with_reducible refine at_load (.tmp 14) ?_); refine wpList_load_part 37 (.tmp 14) rfl w.heap.size _ 3 306 C1 G2.out rfl (by rw [OO.out]; try rfl) rfl _ Try.underlying37 rfl HC1.out rfl ?_)
      | (go_at_call 43; refine (DA.out _ HB0.out).mono ?_; rintro en w1 hh; obtain ⟨rfl, hbb⟩ := tells_true hh NA.out; have KB1 := Lib.hid (HB0.out.trans (hbb.mono HB0.out.size)); have G2 := Lib.hid (G1.out.call hbb); clear hh hbb)
      | ((with_reducible refine at_load (.tmp 8) ?_); refine wpList_load_part 35 (.tmp 8) rfl w.heap.size _ 2 239 A1 G1.out rfl (by rw [OO.out]; try rfl) rfl _ Try.underlying35 rfl HA1.out rfl ?_)
      | ((with_reducible refine at_build (some 5) ?_); refine wpList_build_g 32 _ rfl #[] (by simp) (.agg BZ) (BB.out _) rfl ?_)
      | ((with_reducible refine at_load (.tmp 3) ?_); refine wpList_load_part 32 (.tmp 3) rfl w.heap.size _ 1 1 B1 G1.out rfl (by rw [OO.out]; try rfl) rfl _ Try.underlying32 rfl HB1.out rfl ?_)
      | fail)
    go_ret
    exact tells_no (fun h0 => by have h := HS.out.1 h0; exact NW.out h.2.2.2.2.2.2.1) KB4.out
  have qNW : (x1 == 0) = true := by simpa using hq
  have NW := Lib.hid hq; clear hq
  by_cases hq : y1 = 0
  case neg =>
    have qNP : (y1 == 0) = false := by simpa using hq
    have NP := Lib.hid hq; clear hq
    go_enter Try.func24, Try.ntmps24
    go_wp2_with (first
      | ((with_reducible refine at_load (.tmp 41) ?_); refine wpList_load_1 3 (.tmp 41) rfl w.heap.size 445 (.int .i64 y1) (G5.out.cellAt (k := 8) rfl (by rw [OO.out]; try rfl)) rfl _ Try.underlying3 rfl rfl ?_)
      | ((with_reducible refine at_load (.tmp 36) ?_); refine wpList_load_1 3 (.tmp 36) rfl w.heap.size 444 (.int .i64 x1) (G5.out.cellAt (k := 7) rfl (by rw [OO.out]; try rfl)) rfl _ Try.underlying3 rfl rfl ?_)
      | ((with_reducible refine at_build (some 32) ?_); refine wpList_build_g 46 _ rfl #[] (by simp) (.agg VZ) (BV.out _) rfl ?_)
      | ((with_reducible refine at_load (.tmp 30) ?_); refine wpList_load_part 46 (.tmp 30) rfl w.heap.size _ 6 410 V1 G5.out rfl (by rw [OO.out]; try rfl) rfl _ Try.underlying46 rfl HV1.out rfl ?_)
      | (go_at_call 45; refine (DT.out _ KB3.out).mono ?_; rintro en w4 hh; obtain ⟨rfl, hbb⟩ := tells_true hh NT.out; have KB4 := Lib.hid (KB3.out.trans (hbb.mono KB3.out.size)); have G5 := Lib.hid (G4.out.call hbb); clear hh hbb)
      | ((with_reducible refine at_load (.tmp 25) ?_); refine wpList_load_part 42 (.tmp 25) rfl w.heap.size _ 5 376 T1 G4.out rfl (by rw [OO.out]; try rfl) rfl _ Try.underlying42 rfl HT1.out rfl ?_)
      | (go_at_call 44; refine (DC2.out _ KB2.out).mono ?_; rintro en w3 hh; obtain ⟨rfl, hbb⟩ := tells_true hh ND.out; have KB3 := Lib.hid (KB2.out.trans (hbb.mono KB2.out.size)); have G4 := Lib.hid (G3.out.call hbb); clear hh hbb)
      | ((with_reducible refine at_load (.tmp 20) ?_); refine wpList_load_part 37 (.tmp 20) rfl w.heap.size _ 4 341 D1 G3.out rfl (by rw [OO.out]; try rfl) rfl _ Try.underlying37 rfl HD1.out rfl ?_)
      | (go_at_call 44; refine (DC1.out _ KB1.out).mono ?_; rintro en w2 hh; obtain ⟨rfl, hbb⟩ := tells_true hh NC.out; have KB2 := Lib.hid (KB1.out.trans (hbb.mono KB1.out.size)); have G3 := Lib.hid (G2.out.call hbb); clear hh hbb)
      | ((with_reducible refine at_load (.tmp 14) ?_); refine wpList_load_part 37 (.tmp 14) rfl w.heap.size _ 3 306 C1 G2.out rfl (by rw [OO.out]; try rfl) rfl _ Try.underlying37 rfl HC1.out rfl ?_)
      | (go_at_call 43; refine (DA.out _ HB0.out).mono ?_; rintro en w1 hh; obtain ⟨rfl, hbb⟩ := tells_true hh NA.out; have KB1 := Lib.hid (HB0.out.trans (hbb.mono HB0.out.size)); have G2 := Lib.hid (G1.out.call hbb); clear hh hbb)
      | ((with_reducible refine at_load (.tmp 8) ?_); refine wpList_load_part 35 (.tmp 8) rfl w.heap.size _ 2 239 A1 G1.out rfl (by rw [OO.out]; try rfl) rfl _ Try.underlying35 rfl HA1.out rfl ?_)
      | ((with_reducible refine at_build (some 5) ?_); refine wpList_build_g 32 _ rfl #[] (by simp) (.agg BZ) (BB.out _) rfl ?_)
      | ((with_reducible refine at_load (.tmp 3) ?_); refine wpList_load_part 32 (.tmp 3) rfl w.heap.size _ 1 1 B1 G1.out rfl (by rw [OO.out]; try rfl) rfl _ Try.underlying32 rfl HB1.out rfl ?_)
      | fail)
    go_ret
    exact tells_no (fun h0 => by have h := HS.out.1 h0; exact NP.out h.2.2.2.2.2.2.2) KB4.out
  have qNP : (y1 == 0) = true := by simpa using hq
  have NP := Lib.hid hq; clear hq
  go_enter Try.func24, Try.ntmps24
  go_wp2_with (first
    | ((with_reducible refine at_load (.tmp 41) ?_); refine wpList_load_1 3 (.tmp 41) rfl w.heap.size 445 (.int .i64 y1) (G5.out.cellAt (k := 8) rfl (by rw [OO.out]; try rfl)) rfl _ Try.underlying3 rfl rfl ?_)
    | ((with_reducible refine at_load (.tmp 36) ?_); refine wpList_load_1 3 (.tmp 36) rfl w.heap.size 444 (.int .i64 x1) (G5.out.cellAt (k := 7) rfl (by rw [OO.out]; try rfl)) rfl _ Try.underlying3 rfl rfl ?_)
    | ((with_reducible refine at_build (some 32) ?_); refine wpList_build_g 46 _ rfl #[] (by simp) (.agg VZ) (BV.out _) rfl ?_)
    | ((with_reducible refine at_load (.tmp 30) ?_); refine wpList_load_part 46 (.tmp 30) rfl w.heap.size _ 6 410 V1 G5.out rfl (by rw [OO.out]; try rfl) rfl _ Try.underlying46 rfl HV1.out rfl ?_)
    | (go_at_call 45; refine (DT.out _ KB3.out).mono ?_; rintro en w4 hh; obtain ⟨rfl, hbb⟩ := tells_true hh NT.out; have KB4 := Lib.hid (KB3.out.trans (hbb.mono KB3.out.size)); have G5 := Lib.hid (G4.out.call hbb); clear hh hbb)
    | ((with_reducible refine at_load (.tmp 25) ?_); refine wpList_load_part 42 (.tmp 25) rfl w.heap.size _ 5 376 T1 G4.out rfl (by rw [OO.out]; try rfl) rfl _ Try.underlying42 rfl HT1.out rfl ?_)
    | (go_at_call 44; refine (DC2.out _ KB2.out).mono ?_; rintro en w3 hh; obtain ⟨rfl, hbb⟩ := tells_true hh ND.out; have KB3 := Lib.hid (KB2.out.trans (hbb.mono KB2.out.size)); have G4 := Lib.hid (G3.out.call hbb); clear hh hbb)
    | ((with_reducible refine at_load (.tmp 20) ?_); refine wpList_load_part 37 (.tmp 20) rfl w.heap.size _ 4 341 D1 G3.out rfl (by rw [OO.out]; try rfl) rfl _ Try.underlying37 rfl HD1.out rfl ?_)
    | (go_at_call 44; refine (DC1.out _ KB1.out).mono ?_; rintro en w2 hh; obtain ⟨rfl, hbb⟩ := tells_true hh NC.out; have KB2 := Lib.hid (KB1.out.trans (hbb.mono KB1.out.size)); have G3 := Lib.hid (G2.out.call hbb); clear hh hbb)
    | ((with_reducible refine at_load (.tmp 14) ?_); refine wpList_load_part 37 (.tmp 14) rfl w.heap.size _ 3 306 C1 G2.out rfl (by rw [OO.out]; try rfl) rfl _ Try.underlying37 rfl HC1.out rfl ?_)
    | (go_at_call 43; refine (DA.out _ HB0.out).mono ?_; rintro en w1 hh; obtain ⟨rfl, hbb⟩ := tells_true hh NA.out; have KB1 := Lib.hid (HB0.out.trans (hbb.mono HB0.out.size)); have G2 := Lib.hid (G1.out.call hbb); clear hh hbb)
    | ((with_reducible refine at_load (.tmp 8) ?_); refine wpList_load_part 35 (.tmp 8) rfl w.heap.size _ 2 239 A1 G1.out rfl (by rw [OO.out]; try rfl) rfl _ Try.underlying35 rfl HA1.out rfl ?_)
    | ((with_reducible refine at_build (some 5) ?_); refine wpList_build_g 32 _ rfl #[] (by simp) (.agg BZ) (BB.out _) rfl ?_)
    | ((with_reducible refine at_load (.tmp 3) ?_); refine wpList_load_part 32 (.tmp 3) rfl w.heap.size _ 1 1 B1 G1.out rfl (by rw [OO.out]; try rfl) rfl _ Try.underlying32 rfl HB1.out rfl ?_)
    | fail)
  go_ret
  exact tells_yes (HS.out.2 ⟨NB.out, NA.out, NC.out, ND.out, NT.out, NV.out, NW.out, NP.out⟩) KB4.out
end

end Go.Proofs.Ytmnojgdfbhdkhaa
