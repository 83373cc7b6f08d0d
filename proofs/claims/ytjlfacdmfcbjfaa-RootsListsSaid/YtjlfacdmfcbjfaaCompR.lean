/- slices.Compact at []api.Root: walked, over a row that the caller owns. -/
import Derived.Test.YtjlfacdmfcbjfaaRts
set_option linter.unusedVariables false
namespace Go.Proofs.Ytjlfacdmfcbjfaa
open Go.RowKit Go.Shelf Go.Sort Go.Lib

theorem flatK_set (d : Array Rt) (i : Nat) (x : Rt) (hi : i < d.size) : setMany (flatK encR 32 d) (i * 32) (encR x) = flatK encR 32 (d.setIfInBounds i x) := by
  refine ext_get! (by simp) fun t ht => ?_
  have ht' : t < d.size * 32 := by simpa using ht
  rw [get_setMany _ _ _ t (by simpa using ht'), get_flatK _ _ _ t ht', get_flatK _ _ _ t (by simpa using ht'), encR_len]
  by_cases a : t / 32 = i
  · rw [if_pos ((blk_iff 32 i t (by decide)).2 a), a, getElem!_set_same d i x hi]
    congr 1
    omega
  · rw [if_neg (fun h => a ((blk_iff 32 i t (by decide)).1 h)), getElem!_set_other d i (t / 32) x (fun h => a h)]

theorem holds_set {w : World} {g i : Nat} {d : Array Rt} (x : Rt) (h : HoldsK encR 32 w g 0 d) (hi : i < d.size) : HoldsK encR 32 (w.setCells g (i * 32) (encR x)) g 0 (d.setIfInBounds i x) := by
  have := holds_setCells_c h (i * 32) (encR x) (by rw [encR_len, size_flatK]; omega)
  rw [flatK_set d i x hi, Nat.zero_add] at this
  exact this

theorem holds_below {w w' : World} {g : Nat} {d : Array Rt} (h : HoldsK encR 32 w g 0 d) (hlt : g < w.heap.size) (hb : Below w.heap.size w w') : HoldsK encR 32 w' g 0 d := fun j hj => by
  obtain ⟨a, b⟩ := h j hj
  refine ⟨by rw [hb.cell (p := ⟨g, 0 + j, none⟩) hlt]; exact a, ?_⟩
  have := hb.block g hlt
  simp only [World.frozen?, this] at b ⊢
  exact b

theorem holds_range {w : World} {g : Nat} {d : Array Rt} (h : HoldsK encR 32 w g 0 d) {k : Nat} (hk : k < d.size) : w.rangeAt g (k * 32) (encR d[k]!) := by
  have h1 : HoldsK encR 32 w g 0 d.toList.toArray := by simpa using h
  have h2 := holds_rootsAt h1 k (by simpa using hk)
  rwa [show d.toList[k]! = d[k]! by simp [getElem!_pos, hk], Nat.zero_add] at h2

theorem wpQuiet_load_mid {P : Program} {ops : Array Oper} {C : World → Prop} {Q : Act → Prop} {o : Oper} {rest : List Oper} {a : Act} (ty : TypeId) (x : Operand) (ho : o.op = .load ty x) (b off : Nat) (hx : a.eval x = .pointer (some ⟨b, off, none⟩)) (cs : List Value) {d : TypeDesc}
    (hC : ∀ w, C w → w.rangeAt b off cs) (hu : P.underlying ty = some d) (hd : d.isRow = true) (hi : (P.info? ty).map (·.size) = some cs.length) (hw : Region.wanted o (yielded ops a.tmps) = true)
    (h : wpQuiet P ops C Q rest (a.put o.dst (.agg cs.toArray))) : wpQuiet P ops C Q (o :: rest) a := by
  refine BigFrame.wpQuiet_want hw fun K hK => ⟨.agg cs.toArray, fun w hw' => ?_, hK _ h⟩
  have hl := run_loadVar_mid (P := P) w b off ty cs d (hC w hw') hu hd hi
  unfold Oper.quietAt execOp
  simp only [ho, hx, Instr.loadAt, Instr.sureAddr, Sem.run_bind, Sem.run_pure, Result.andThen_ok, hl]
  exact ⟨rfl, rfl⟩

theorem infoRs (r : Rt) : (Try.prog.info? 25).map (·.size) = some (encR r).length := by rw [encR_len]; kernel_rfl

theorem run_clear_roots (w : World) (ty : TypeId) (g o n c : Nat) (hn : 0 < n) (hc : ∀ j, j < n * 32 → (w.cell? ⟨g, o + j, none⟩).isSome = true) (hf : ∀ j, j < n * 32 → w.frozen? ⟨g, o + j, none⟩ = false) :
    (Builtin.clear_ #[53] ty #[.slice (some ⟨g, o, none⟩) n c]).run Try.prog w = .ok (.tuple #[]) (w.setCells g o (Builtin.zeroCells (encR default).toArray n).toList) := by
  have hz : ∀ w, (zeroValue 25).run Try.prog w = .ok (.agg (encR default).toArray) w := Try.zeroValue25
  have hl : (Builtin.zeroCells (encR default).toArray n).toList.length = n * 32 := by simp [Builtin.zeroCells, encR_len]
  have h1 : ∀ v ∈ (Builtin.zeroCells (encR default).toArray n).toList, v.oneCell' = true := by
    intro v hv
    simp only [Builtin.zeroCells, Array.toList_map, List.mem_map] at hv
    obtain ⟨i, _, rfl⟩ := hv
    have := encR_get default (i := i % 32) (Nat.mod_lt _ (by decide))
    simp only [List.size_toArray, encR_len]
    exact encR_one default _ (by simpa using List.mem_of_getElem? this)
  have hst := run_storeCells_cells (P := Try.prog) g o (Builtin.zeroCells (encR default).toArray n).toList 0 w (by simpa [hl] using hc) (by simpa [hl] using hf) h1
  simp only [Nat.add_zero] at hst
  obtain ⟨m, rfl⟩ : ∃ m, n = m + 1 := ⟨n - 1, by omega⟩
  simp only [Builtin.clear_, go_sem]
  simp [hz, hst]

/-- Behind a clear from element k on: the elements below k are as they were. -/
theorem rootsAt_clear {w : World} {g k : Nat} {dk : Array Rt} (h : HoldsK encR 32 w g 0 dk) (hk : k ≤ dk.size) (vs : List Value) (hv : k * 32 + vs.length ≤ dk.size * 32) (d : List Rt) (hd : d.length = k) (he : ∀ j, j < k → d[j]? = some dk[j]!) : RootsAt (w.setCells g (k * 32) vs) g 0 d := by
  have := holds_setCells_c h (k * 32) vs (by simpa using hv)
  intro j hj i v hiv
  have hi : i < 32 := by
    have := (List.getElem?_eq_some_iff.1 hiv).1
    rwa [encR_len] at this
  have hlt : j * 32 + i < dk.size * 32 := by omega
  obtain ⟨c, _⟩ := this (j * 32 + i) (by simpa using hlt)
  rw [Nat.zero_add] at c
  have e1 : (j * 32 + i) / 32 = j := by omega
  have e2 : (j * 32 + i) % 32 = i := by omega
  rw [get_setMany _ _ _ _ (by simpa using hlt), if_neg (by omega), get_flatK _ _ _ _ hlt, e1, e2] at c
  have hd' : d[j]! = dk[j]! := by rw [List.getElem!_eq_getElem?_getD, he j (by omega)]; rfl
  rw [hd', encR_get _ hi] at hiv
  rw [show 0 + j * 32 + i = 0 + (j * 32 + i) by omega, c]
  exact hiv

theorem below_under {base g : Nat} {w0 w u : World} (h : Below base w0 w) (hb : Below w.heap.size w u) (hlt : g < w.heap.size) (hg : base ≤ g) : Below base w0 u :=
  h.trans (hb.mono (by omega))

set_option maxRecDepth 1000000 in
set_option maxHeartbeats 4000000 in
theorem compact_row (g cap base : Nat) (d : Array Rt) (w w0 : World) (hb : Below base w0 w) (hg : base ≤ g) (hlt : g < w.heap.size) (hsz : d.size ≤ 4398046511104) (hcap : d.size ≤ cap) (hH : HoldsK encR 32 w g 0 d) :
    Calls Try.prog 54 #[.slice (some ⟨g, 0, none⟩) d.size cap] w fun e w' =>
      e = .returned (.slice (some ⟨g, 0, none⟩) (compactUpTo d d.size).length cap) ∧ Below base w0 w' ∧ g < w'.heap.size ∧ RootsAt w' g 0 (compactUpTo d d.size) := by
  have HB := Lib.hid hb
  have HH := Lib.hid hH
  have HSame : Hid ((∀ j, j < d.size → keeps d j = true) → compactUpTo d d.size = d.toList) := Lib.hid fun hall => by rw [compactUpTo_all d _ hall, range_map_get]
  clear hb hH
  go_enter Try.func54, Try.ntmps54
  by_cases h2 : d.size < 2
  · go_wp2_with fail
    go_ret
    have e := HSame.out (fun j hj => keeps_lt_one d j (by omega))
    rw [e]
    exact ⟨by simp, HB.out, hlt, holds_rootsAt (by simpa using HH.out)⟩
  · go_wp2_with fail
    go_loopg [3] d.size (fun n s3 wr => ∃ k : Nat, 1 ≤ k ∧ k ≤ d.size ∧ d.size - k ≤ n ∧ s3 = .int .i64 k ∧ (Below w.heap.size w wr) ∧ ∀ j, j < k → keeps d j = true)
    case atStart => exact ⟨1, Nat.le_refl _, by omega, by omega, rfl, Below.refl _ _, keeps_lt_one d⟩
    case round =>
      obtain ⟨k, hk1, hk, hn, rfl, hbw, hall⟩ := hrel
      have HA := Lib.hid hall; clear hall
      by_cases hltk : k < d.size
      · have HX := Lib.hid (show ∀ u, Below w.heap.size w u → u.rangeAt g (k * 32) (encR d[k]!) from fun u hu => holds_range (holds_below HH.out hlt hu) hltk)
        have HY := Lib.hid (show ∀ u, Below w.heap.size w u → u.rangeAt g ((k - 1) * 32) (encR d[k - 1]!) from fun u hu => holds_range (holds_below HH.out hlt hu) (by omega))
        obtain ⟨x, hx⟩ : ∃ x, d[k]! = x := ⟨_, rfl⟩
        obtain ⟨y, hy⟩ : ∃ y, d[k - 1]! = y := ⟨_, rfl⟩
        rw [hx] at HX
        rw [hy] at HY
        have HXY := Lib.hid (And.intro hx hy)
        clear hx hy
        have HBW := Lib.hid hbw
        clear hbw
        have heq : ∀ u, Sem.run Try.prog (Op.equalIn 10000 25 (.agg (encR x).toArray) (.agg (encR y).toArray)) u = .ok (decide (x = y)) u := eq_rt x y
        obtain ⟨r, hr⟩ : ∃ r, decide (x = y) = r := ⟨_, rfl⟩
        rw [hr] at heq
        have HR := Lib.hid hr
        clear hr
        have I1 := infoRs x
        have I2 := infoRs y
        go_wp2_with fail
        refine wp_region_fam2 (by kernel_rfl) (by kernel_rfl) ?_
        intro T F hT hF hG
        have CX : ∀ u, (∃ t, u = F t) → u.rangeAt g (k * 32) (encR x) := by rintro _ ⟨t, rfl⟩; exact HX.out _ (bel0 HBW.out (hF t))
        have CY : ∀ u, (∃ t, u = F t) → u.rangeAt g ((k - 1) * 32) (encR y) := by rintro _ ⟨t, rfl⟩; exact HY.out _ (bel0 HBW.out (hF t))
        repeat (first
          | ((with_reducible refine at_qload (.tmp 18) ?_); refine wpQuiet_load_mid 25 _ rfl g (k * 32) rfl (encR x) CX Try.underlying25 rfl I1 (by kernel_rfl) ?_; simp only [Act.put, List.setIfInBounds_toArray, List.set_cons_succ, List.set_cons_zero])
          | ((with_reducible refine at_qload (.tmp 23) ?_); refine wpQuiet_load_mid 25 _ rfl g ((k - 1) * 32) rfl (encR y) CY Try.underlying25 rfl I2 (by kernel_rfl) ?_; simp only [Act.put, List.setIfInBounds_toArray, List.set_cons_succ, List.set_cons_zero])
          | (go_big_quiet_step (fail)))
        refine wpQuiet_nil ?_
        rintro _ ⟨t, rfl⟩
        have HB1 := Lib.hid (bel0 HBW.out (hF t))
        obtain ⟨wv, hwv⟩ : ∃ v, F t = v := ⟨_, rfl⟩
        rw [hwv] at HB1
        rw [hwv]
        clear CX CY hF hG hT hwv HBW HX HY I1 I2
        clear t F T
        cases r
        case true =>
          have HN := Lib.hid (keeps_neg (d := d) (m := k) (by omega) (by rw [HXY.out.1, HXY.out.2]; exact of_decide_eq_true HR.out))
          clear heq
          go_wp2_with fail
          go_loopg [3, 5] d.size (fun n s3 s5 wr => ∃ (kk k2 : Nat) (dk : Array Rt), s3 = .int .i64 kk ∧ s5 = .int .i64 k2 ∧ 1 ≤ k2 ∧ k + k2 ≤ d.size ∧ d.size - (k + k2) ≤ n ∧ Below base w0 wr ∧ g < wr.heap.size ∧ HoldsK encR 32 wr g 0 dk ∧ CompInv d (k + k2) kk dk)
          case atStart => exact ⟨k, 1, d, rfl, rfl, Nat.le_refl _, by omega, by omega, below_under HB.out HB1.out hlt hg, Nat.lt_of_lt_of_le hlt HB1.out.size, holds_below HH.out hlt HB1.out, CompInv.start HA.out HN.out⟩
          case round =>
            obtain ⟨kk, k2, dk, rfl, rfl, h1, hle, hg2, hbr, hgr, hHk, hI⟩ := hrel
            have hkk := hI.lt
            have hds := hI.size
            have HI := Lib.hid hI
            have HHk := Lib.hid hHk
            have HBr := Lib.hid hbr
            clear hI hHk hbr
            by_cases hlt2 : k + k2 < d.size
            · have HU := Lib.hid (show ∀ u, Below wr.heap.size wr u → u.rangeAt g (k * 32 + k2 * 32) (encR dk[k + k2]!) from fun u hu => by
                have := holds_range (holds_below HHk.out hgr hu) (k := k + k2) (by omega)
                rwa [Nat.add_mul] at this)
              have HV := Lib.hid (show ∀ u, Below wr.heap.size wr u → u.rangeAt g (k * 32 + (k2 - 1) * 32) (encR dk[k + (k2 - 1)]!) from fun u hu => by
                have := holds_range (holds_below HHk.out hgr hu) (k := k + (k2 - 1)) (by omega)
                rwa [Nat.add_mul] at this)
              obtain ⟨u, hu⟩ : ∃ u, d[k + k2]! = u := ⟨_, rfl⟩
              obtain ⟨v, hv⟩ : ∃ v, d[k + k2 - 1]! = v := ⟨_, rfl⟩
              rw [HI.out.high (k + k2) (by omega), hu] at HU
              rw [HI.out.high (k + (k2 - 1)) (by omega), show k + (k2 - 1) = k + k2 - 1 by omega, hv] at HV
              have HUV := Lib.hid (And.intro hu hv)
              clear hu hv
              have heq : ∀ z, Sem.run Try.prog (Op.equalIn 10000 25 (.agg (encR u).toArray) (.agg (encR v).toArray)) z = .ok (decide (u = v)) z := eq_rt u v
              obtain ⟨r, hr⟩ : ∃ r, decide (u = v) = r := ⟨_, rfl⟩
              rw [hr] at heq
              have HR := Lib.hid hr
              clear hr
              have I1 := infoRs u
              have I2 := infoRs v
              go_wp2_with fail
              refine wp_region_fam2 (by kernel_rfl) (by kernel_rfl) ?_
              intro T F hT hF hG
              have CX : ∀ z, (∃ t, z = F t) → z.rangeAt g (k * 32 + k2 * 32) (encR u) := by rintro _ ⟨t, rfl⟩; exact HU.out _ (hF t)
              have CY : ∀ z, (∃ t, z = F t) → z.rangeAt g (k * 32 + (k2 - 1) * 32) (encR v) := by rintro _ ⟨t, rfl⟩; exact HV.out _ (hF t)
              repeat (first
                | ((with_reducible refine at_qload (.tmp 37) ?_); refine wpQuiet_load_mid 25 _ rfl g (k * 32 + k2 * 32) rfl (encR u) CX Try.underlying25 rfl I1 (by kernel_rfl) ?_; simp only [Act.put, List.setIfInBounds_toArray, List.set_cons_succ, List.set_cons_zero])
                | ((with_reducible refine at_qload (.tmp 42) ?_); refine wpQuiet_load_mid 25 _ rfl g (k * 32 + (k2 - 1) * 32) rfl (encR v) CY Try.underlying25 rfl I2 (by kernel_rfl) ?_; simp only [Act.put, List.setIfInBounds_toArray, List.set_cons_succ, List.set_cons_zero])
                | (go_big_quiet_step (fail)))
              refine wpQuiet_nil ?_
              rintro _ ⟨t, rfl⟩
              have HB2 := Lib.hid (hF t)
              obtain ⟨wz, hwz⟩ : ∃ v, F t = v := ⟨_, rfl⟩
              rw [hwz] at HB2
              rw [hwz]
              clear CX CY hF hG hT hwz I2 heq
              clear t F T
              have HHz := Lib.hid (holds_below HHk.out hgr HB2.out)
              have HBz := Lib.hid (below_under HBr.out HB2.out hgr hg)
              have hgz := Nat.lt_of_lt_of_le hgr HB2.out.size
              cases r
              case true =>
                go_wp2_with fail
                go_roundg (d.size - (k + (k2 + 1)))
                case measure => omega
                case rel => exact ⟨kk, k2 + 1, dk, rfl, by go_num, by omega, by omega, Nat.le_refl _, HBz.out, hgz, HHz.out, HI.out.skip (keeps_neg (by omega) (by rw [HUV.out.1, HUV.out.2]; exact of_decide_eq_true HR.out))⟩
              case false =>
                have HX := Lib.hid (HU.out wz HB2.out)
                have HT := Lib.hid (show wz.there g (kk * 32) (encR u).toArray.size from fun j hj => by
                  have := HHz.out.cell (i := kk) (c := j) (by omega) (by simpa [encR_len] using hj)
                  rw [Nat.zero_add] at this
                  exact ⟨by rw [this.1]; rfl, this.2⟩)
                have I3 : (Try.prog.info? 25).map (·.size) = some (encR u).toArray.size := by simpa using I1
                have H1 := Lib.hid (all_oneCell_toArray (encR_one u))
                go_wp2_with (first
                  | ((with_reducible refine at_load (.tmp 49) ?_); refine wpList_load_mid rfl 25 _ rfl g (k * 32 + k2 * 32) rfl (encR u) _ HX.out Try.underlying25 rfl I1 ?_)
                  | ((with_reducible refine at_store (.tmp 51) ?_); refine wpList_store_mid rfl 25 _ _ rfl g (kk * 32) (encR u).toArray rfl rfl HT.out I3 H1.out ?_))
                go_roundg (d.size - (k + (k2 + 1)))
                case measure => omega
                case rel =>
                  refine ⟨kk + 1, k2 + 1, dk.setIfInBounds kk u, by go_num, by go_num, by omega, by omega, Nat.le_refl _, take_all.below HBz.out hg, by rw [take_all.size]; exact hgz, holds_set u HHz.out (by omega), ?_⟩
                  have := HI.out.keep hlt2 (keeps_pos (by rw [HUV.out.1, HUV.out.2]; exact of_decide_eq_false HR.out))
                  rwa [HUV.out.1] at this
            · have hend : k + k2 = d.size := by omega
              have hcl : ∀ ty, (Builtin.clear_ #[53] ty #[.slice (some ⟨g, kk * 32, none⟩) (d.size - kk) (cap - kk)]).run Try.prog wr = .ok (.tuple #[]) (wr.setCells g (kk * 32) (Builtin.zeroCells (encR default).toArray (d.size - kk)).toList) := fun ty =>
                run_clear_roots wr ty g (kk * 32) (d.size - kk) (cap - kk) (by omega)
                  (fun j hj => by
                    have := HHk.out.cell (i := kk + j / 32) (c := j % 32) (by omega) (Nat.mod_lt _ (by decide))
                    rw [show (0 : Nat) + (kk + j / 32) * 32 + j % 32 = kk * 32 + j by omega] at this
                    rw [this.1]; rfl)
                  (fun j hj => by
                    have := HHk.out.cell (i := kk + j / 32) (c := j % 32) (by omega) (Nat.mod_lt _ (by decide))
                    rw [show (0 : Nat) + (kk + j / 32) * 32 + j % 32 = kk * 32 + j by omega] at this
                    exact this.2)
              go_wp2_with fail
              go_ret
              have hI := HI.out
              rw [hend] at hI
              refine ⟨by rw [hI.len]; rfl, take_all.below HBr.out hg, by rw [take_all.size]; exact hgr, ?_⟩
              exact rootsAt_clear HHk.out (by omega) _ (by simp [Builtin.zeroCells, encR_len]; omega) _ hI.len hI.low
        case false =>
          go_wp2_with fail
          go_roundg (d.size - (k + 1))
          case measure => omega
          case rel =>
            refine ⟨k + 1, by omega, by omega, Nat.le_refl _, by go_num, HB1.out, fun j hj => ?_⟩
            by_cases e : j = k
            · subst e
              exact keeps_pos (by rw [HXY.out.1, HXY.out.2]; exact of_decide_eq_false HR.out)
            · exact HA.out j (by omega)
      · have hkd : k = d.size := by omega
        have e := HSame.out (fun j hj => HA.out j (by omega))
        have HE := Lib.hid e
        have HBW := Lib.hid hbw
        clear e hbw
        go_wp2_with fail
        go_ret
        rw [HE.out]
        exact ⟨by simp, below_under HB.out HBW.out hlt hg, Nat.lt_of_lt_of_le hlt HBW.out.size, holds_rootsAt (by simpa using holds_below HH.out hlt HBW.out)⟩

end Go.Proofs.Ytjlfacdmfcbjfaa
