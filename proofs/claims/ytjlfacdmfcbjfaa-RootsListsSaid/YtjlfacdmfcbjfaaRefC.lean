/- The reference's Contains at roots; roots.Greatest. -/
import Derived.Test.YtjlfacdmfcbjfaaUniq
import Derived.Test.YtjlfacdmfcbjfaaL3s
set_option linter.unusedVariables false
namespace Go.Proofs.Ytjlfacdmfcbjfaa
open Go.RowKit

set_option maxHeartbeats 400000 in
theorem rcontains_zero (a : Option Addr) (cap : Nat) (X : Array Value) (w : World) :
    Calls Try.prog 38 #[.slice a 0 cap, .agg X] w fun e w' => e = .returned (.bool false) ∧ Below w.heap.size w w' := by
  go_enter Try.func38, Try.ntmps38
  go_wp2_with fail
  refine wp_loop_rounds 1 ?_
  rw [rounds_succ]
  go_wp2_with fail
  go_ret
  exact ⟨rfl, (Below.refl _ _).alloc (Nat.le_refl _) _⟩

set_option maxRecDepth 1000000 in
set_option maxHeartbeats 4000000 in
theorem rcontains_row (b off len cap : Nat) (d : List Rt) (x : Rt) (w : World) (h : Rts w (.slice (some ⟨b, off, none⟩) len cap) d) (hp : 0 < len) :
    Calls Try.prog 38 #[.slice (some ⟨b, off, none⟩) len cap, .agg (encR x).toArray] w fun e w' => e = .returned (.bool (decide (x ∈ d))) ∧ Below w.heap.size w w' := by
  have hl := h.len
  have hm : len ≤ 9223372036854775807 := by
    obtain ⟨a', l', c', e, _, hm, _⟩ := h; cases e; exact hm
  obtain ⟨b', o', e, hlt, hr⟩ := h.row hp
  cases e
  have HR := Lib.hid hr
  have HL := Lib.hid hl
  clear h hr hl
  obtain ⟨res, HRes⟩ : ∃ r, Hid (decide (x ∈ d) = r) := ⟨_, rfl⟩
  rw [HRes.out]
  have HX := Lib.hid (show Blk (w.alloc (.cells (encR x).toArray 25)) w.heap.size (encR x).toArray from Blk.new rfl)
  have HB := Lib.hid (show Below w.heap.size w (w.alloc (.cells (encR x).toArray 25)) from (Below.refl _ _).alloc (Nat.le_refl _) _)
  have IX : (Try.prog.info? 25).map (·.size) = some (encR x).toArray.size := by simpa using infoRs x
  go_enter Try.func38, Try.ntmps38
  go_wp2_with fail
  go_loopg [5] len (fun n i wr => ∃ k : Nat, k ≤ len ∧ len - k ≤ n ∧ i = .int .i64 k ∧ Below w.heap.size w wr ∧ Blk wr w.heap.size (encR x).toArray ∧ ∀ j, j < k → d[j]! ≠ x)
  case atStart => exact ⟨0, by omega, by omega, rfl, HB.out, HX.out, fun j hj => absurd hj (Nat.not_lt_zero _)⟩
  case round =>
    obtain ⟨k, hk, hn, rfl, hbr, hX, hall⟩ := hrel
    have HBr := Lib.hid hbr
    have HX' := Lib.hid hX
    have HA := Lib.hid hall
    clear hbr hX hall
    by_cases hltk : k < len
    · obtain ⟨y, hy⟩ : ∃ y, d[k]! = y := ⟨_, rfl⟩
      have HY := Lib.hid (show ∀ u, Below wr.heap.size wr u → u.rangeAt b (off + k * 32) (encR y) from fun u hu => (HR.out.below hlt (bel0 HBr.out hu)).get (by rw [HL.out]; exact hltk) hy)
      have IY := infoRs y
      have heq : ∀ z, Sem.run Try.prog (Op.equalIn 10000 25 (.agg (encR y).toArray) (.agg (encR x).toArray)) z = .ok (decide (y = x)) z := eq_rt y x
      obtain ⟨r, hr⟩ : ∃ r, decide (y = x) = r := ⟨_, rfl⟩
      rw [hr] at heq
      have HRr := Lib.hid hr
      have HYd := Lib.hid hy
      clear hr hy
      go_wp2_with fail
      refine wp_region_fam2 (by kernel_rfl) (by kernel_rfl) ?_
      intro T F hT hF hG
      have C1 : ∀ z, (∃ t, z = F t) → z.rangeAt b (off + k * 32) (encR y) := by rintro _ ⟨t, rfl⟩; exact HY.out _ (hF t)
      have C2 : ∀ z, (∃ t, z = F t) → Blk z w.heap.size (encR x).toArray := by rintro _ ⟨t, rfl⟩; exact HX'.out.call (hF t)
      repeat (first
        | ((with_reducible refine at_qload (.tmp 14) ?_); refine wpQuiet_load_mid 25 _ rfl b (off + k * 32) rfl (encR y) C1 Try.underlying25 rfl IY (by kernel_rfl) ?_; simp only [Act.put, List.setIfInBounds_toArray, List.set_cons_succ, List.set_cons_zero])
        | ((with_reducible refine at_qload (.tmp 3) ?_); refine wpQuiet_load 25 _ rfl w.heap.size rfl (encR x).toArray C2 Try.underlying25 rfl IX (by kernel_rfl) ?_; simp only [Act.put, List.setIfInBounds_toArray, List.set_cons_succ, List.set_cons_zero])
        | (go_big_quiet_step (fail)))
      refine wpQuiet_nil ?_
      rintro _ ⟨t, rfl⟩
      have HB' := Lib.hid (bel0 HBr.out (hF t))
      have HX2 := Lib.hid (HX'.out.call (hF t))
      obtain ⟨wv, hwv⟩ : ∃ v, F t = v := ⟨_, rfl⟩
      rw [hwv] at HB' HX2
      rw [hwv]
      clear C1 C2 hF hG hT hwv heq HY IY
      clear t F T
      cases r
      case true =>
        go_wp2_with fail
        go_ret
        have hx : x ∈ d := by
          rw [← of_decide_eq_true HRr.out, ← HYd.out]
          exact get_mem (by rw [HL.out]; exact hltk)
        exact ⟨by rw [← HRes.out, decide_eq_true hx]; rfl, HB'.out⟩
      case false =>
        go_wp2_with fail
        go_roundg (len - (k + 1))
        case measure => omega
        case rel =>
          refine ⟨k + 1, by omega, Nat.le_refl _, by go_num, HB'.out, HX2.out, fun j hj => ?_⟩
          by_cases e : j = k
          · subst e
            rw [HYd.out]; exact of_decide_eq_false HRr.out
          · exact HA.out j (by omega)
    · go_wp2_with fail
      go_ret
      have hx : x ∉ d := by
        intro hx
        obtain ⟨j, hj, e⟩ := List.mem_iff_getElem.1 hx
        have hL := HL.out
        exact HA.out j (by omega) (by rw [getElem!_pos _ j hj]; exact e)
      exact ⟨by rw [← HRes.out, decide_eq_false hx]; rfl, HBr.out⟩

theorem rcontains_any (v : Value) (d : List Rt) (x : Rt) (w : World) (h : Rts w v d) :
    Calls Try.prog 38 #[v, .agg (encR x).toArray] w fun e w' => e = .returned (.bool (decide (x ∈ d))) ∧ Below w.heap.size w w' := by
  have h' := h
  obtain ⟨a, len, cap, rfl, hl, hm, h0⟩ := h
  by_cases hz : len = 0
  · subst hz
    obtain rfl := List.eq_nil_of_length_eq_zero hl
    simpa using rcontains_zero a cap (encR x).toArray w
  · obtain ⟨b, off, rfl, _⟩ := h'.row (by omega)
    exact rcontains_row b off len cap d x w h' (by omega)

end Go.Proofs.Ytjlfacdmfcbjfaa
