/- The reference's is, isStatus, Find, New. -/
import Derived.Test.YtidimiioglgliaaNd
import Derived.Test.YtidimiioglgliaaOwL
set_option linter.unusedVariables false

set_option linter.unusedSimpArgs false
namespace Go.Proofs.Ytidimiioglgliaa
open Go.RowKit

set_option maxRecDepth 100000

/-- The index of the first node with this root from i on, -1 if there is none. -/
def findGo (ns : List NdD) (r : List Int) : Nat → Nat → Int
  | 0, _ => -1
  | f + 1, i => if ((ns[i]?).map (fun d => d.b.root)) = some r then i else findGo ns r f (i + 1)

def findN (ns : List NdD) (r : List Int) : Int := findGo ns r ns.length 0

theorem findGo_step {ns : List NdD} {r : List Int} {k : Nat} (hk : k < ns.length) : findGo ns r (ns.length - k) k = if ns[k].b.root = r then (k : Int) else findGo ns r (ns.length - (k + 1)) (k + 1) := by
  rw [show ns.length - k = (ns.length - (k + 1)) + 1 by omega]
  show (if ((ns[k]?).map (fun d => d.b.root)) = some r then (k : Int) else findGo ns r (ns.length - (k + 1)) (k + 1)) = _
  rw [List.getElem?_eq_getElem hk]
  simp

theorem findGo_spec (ns : List NdD) (r : List Int) : ∀ f i, (findGo ns r f i = -1 ∧ ∀ j, i ≤ j → j < i + f → (hj : j < ns.length) → ns[j].b.root ≠ r) ∨ ∃ k : Nat, i ≤ k ∧ k < i + f ∧ ∃ hk : k < ns.length, findGo ns r f i = k ∧ ns[k].b.root = r ∧ ∀ j, i ≤ j → j < k → (hj : j < ns.length) → ns[j].b.root ≠ r
  | 0, i => .inl ⟨rfl, fun j h1 h2 _ => by omega⟩
  | f + 1, i => by
    unfold findGo
    by_cases h : ((ns[i]?).map (fun d => d.b.root)) = some r
    · rw [if_pos h]
      by_cases hi : i < ns.length
      · rw [List.getElem?_eq_getElem hi] at h
        exact .inr ⟨i, Nat.le_refl _, by omega, hi, rfl, by simpa using h, fun j h1 h2 _ => by omega⟩
      · rw [List.getElem?_eq_none (by omega)] at h; cases h
    · rw [if_neg h]
      have hni : ∀ hi : i < ns.length, ns[i].b.root ≠ r := fun hi e => h (by rw [List.getElem?_eq_getElem hi]; simp [e])
      rcases findGo_spec ns r f (i + 1) with ⟨h1, h2⟩ | ⟨k, h1, h2, hk, h3, h4, h5⟩
      · refine .inl ⟨h1, fun j h3 h4 hj => ?_⟩
        by_cases e : j = i
        · subst e; exact hni hj
        · exact h2 j (by omega) (by omega) hj
      · refine .inr ⟨k, by omega, by omega, hk, h3, h4, fun j h6 h7 hj => ?_⟩
        by_cases e : j = i
        · subst e; exact hni hj
        · exact h5 j (by omega) h7 hj

theorem findN_spec (ns : List NdD) (r : List Int) : (findN ns r = -1 ∧ ∀ j, (hj : j < ns.length) → ns[j].b.root ≠ r) ∨ ∃ k : Nat, ∃ hk : k < ns.length, findN ns r = k ∧ ns[k].b.root = r ∧ ∀ j, j < k → (hj : j < ns.length) → ns[j].b.root ≠ r := by
  rcases findGo_spec ns r ns.length 0 with ⟨h1, h2⟩ | ⟨k, _, _, hk, h3, h4, h5⟩
  · exact .inl ⟨h1, fun j hj => h2 j (Nat.zero_le _) (by omega) hj⟩
  · exact .inr ⟨k, hk, h3, h4, fun j hj => h5 j (Nat.zero_le _) hj⟩

theorem findN_rng (ns : List NdD) (r : List Int) : -1 ≤ findN ns r ∧ findN ns r < ns.length := by
  rcases findN_spec ns r with ⟨h, _⟩ | ⟨k, hk, h, _⟩ <;> rw [h] <;> omega

def FindI (w : World) (ns : List NdD) (r : List Int) (T X : Array Value) (i : Value) (wr : World) : Prop :=
  ∃ k : Nat, k ≤ ns.length ∧ i = .int .i64 k ∧ findGo ns r (ns.length - k) k = findN ns r ∧ Blk wr w.heap.size T ∧ Blk wr (w.heap.size + 1) X ∧ Below w.heap.size w wr

set_option maxHeartbeats 4000000 in
theorem find_any (v : Value) (ns : List NdD) (r : List Int) (w : World) (hN : NodesV w v ns) (hr : IsBytes 32 r) :
    Calls Try.prog 29 #[.agg #[v], .agg (bytesL r).toArray] w fun e w' => e = .returned (.int .i64 (findN ns r)) ∧ Below w.heap.size w w' := by
  obtain ⟨a, cap, rfl, hmx⟩ := hN.shape
  unfold maxLen at hmx
  have HN := Lib.hid hN
  have HR := Lib.hid hr
  obtain ⟨q, hq⟩ : ∃ q, Hid (findN ns r = q) := ⟨_, Lib.hid rfl⟩
  rw [hq.out]
  obtain ⟨X, hX⟩ : ∃ X, Hid ((bytesL r).toArray = X) := ⟨_, Lib.hid rfl⟩
  rw [hX.out]
  have hsX : X.size = 32 := by rw [← hX.out, List.size_toArray, bytesL_len hr]
  have hiX : (Try.prog.info? 28).map (·.size) = some X.size := by rw [hsX]; kernel_rfl
  obtain ⟨m, hm⟩ : ∃ m, Hid (ns.length = m) := ⟨_, Lib.hid rfl⟩
  rw [hm.out] at hmx ⊢
  have HBA := Lib.hid (((Below.refl w.heap.size w).alloc (Nat.le_refl _) (.cells #[.slice a m cap] 43)).alloc (by simp) (.cells X 28))
  have HT : Hid (Blk ((w.alloc (.cells #[.slice a m cap] 43)).alloc (.cells X 28)) w.heap.size #[.slice a m cap]) := (Blk.new rfl).alloc _
  have HX : Hid (Blk ((w.alloc (.cells #[.slice a m cap] 43)).alloc (.cells X 28)) (w.heap.size + 1) X) := Blk.new (by simp)
  clear hN hr
  go_enter Try.func29, Try.ntmps29
  go_wp2_with fail
  go_loopw [5] (fun i wr => FindI w ns r #[.slice a m cap] X i wr) (fun i _ => m - (intOf i).toNat)
  case atStart => exact ⟨0, Nat.zero_le _, rfl, rfl, HT.out, HX.out, HBA.out⟩
  case round =>
    obtain ⟨k, hk, rfl, hf, ht, hx, hbl⟩ := hrel
    have HF := Lib.hid hf
    have HTr := Lib.hid ht
    have HXr := Lib.hid hx
    have HBL := Lib.hid hbl
    have hlt0 := ht.lt
    have HC0 : Hid (wr.cell? ⟨w.heap.size, 0, none⟩ = some (.slice a m cap)) := ht.cell 0
    rw [hm.out] at hk
    clear hf ht hx hbl
    by_cases hlt : k < m
    case neg =>
      obtain rfl : k = m := by omega
      have hqv : q = -1 := by rw [← hq.out, ← HF.out, hm.out, Nat.sub_self]; rfl
      have HQ := Lib.hid hqv
      clear hqv
      go_wp2_with (first
        | ((with_reducible refine at_load (.tmp 7) ?_); refine wpList_load_1 41 (.tmp 7) rfl w.heap.size 0 (.slice a k cap) HC0.out rfl _ Try.underlying41 rfl rfl ?_))
      go_ret
      exact ⟨by rw [HQ.out]; rfl, HBL.out⟩
    have hlt' : (k : Int) < m := by omega
    have hkn : k < ns.length := by rw [hm.out]; exact hlt
    obtain ⟨b, off, rfl, hlm, hbb, hna, hok⟩ := HN.out.elem (i := k) hkn
    have hrt := Below.rng HBL.out hbb hna.bk.root
    have HRT := Lib.hid hrt
    have hbw : b < wr.heap.size := Nat.lt_of_lt_of_le hbb HBL.out.size
    have hst := findGo_step (r := r) hkn
    have HEQ := fun u => eq_root hok.1.2.2.2.1 HR.out u
    have hiY : (Try.prog.info? 28).map (·.size) = some (bytesL ns[k].b.root).length := by rw [bytesL_len hok.1.2.2.2.1]; kernel_rfl
    obtain ⟨qr, hqr⟩ : ∃ q : Bool, decide (ns[k].b.root = r) = q := ⟨_, rfl⟩
    rw [hqr] at HEQ
    have HQR : Hid (qr = true ↔ ns[k].b.root = r) := by show _ ↔ _; rw [← hqr]; exact decide_eq_true_iff
    simp only [bytesL_V] at HEQ
    rw [hX.out] at HEQ
    obtain ⟨R, hR⟩ : ∃ R, bytesL ns[k].b.root = R := ⟨_, rfl⟩
    rw [hR] at HRT HEQ hiY
    have HST := Lib.hid hst
    clear hna hok hrt hst hqr hR hlm
    go_wp2_with (first
      | ((with_reducible refine at_load (.tmp 7) ?_); refine wpList_load_1 41 (.tmp 7) rfl w.heap.size 0 (.slice (some ⟨b, off, none⟩) m cap) HC0.out rfl _ Try.underlying41 rfl rfl ?_))
    refine wp_region_fam2 (by kernel_rfl) (by kernel_rfl) ?_
    intro T F hT hF hG
    have c0 : ∀ t, (F t).cell? ⟨w.heap.size, 0, none⟩ = some (.slice (some ⟨b, off, none⟩) m cap) := fun t => ((hF t).cell (p := ⟨w.heap.size, 0, none⟩) hlt0).trans HC0.out
    have CR := Lib.hid (show ∀ u, (∃ t, u = F t) → u.rangeAt b (off + k * 240 + 67) R by rintro _ ⟨t, rfl⟩; exact Below.rng (hF t) hbw HRT.out)
    have CX := Lib.hid (show ∀ u, (∃ t, u = F t) → Blk u (w.heap.size + 1) X by rintro _ ⟨t, rfl⟩; exact HXr.out.call (hF t))
    repeat (first
      | ((with_reducible refine at_qload (.tmp 18) ?_); refine wpQuiet_load_midE 28 _ rfl b (off + k * 240 + 67) (by simp [Act.eval]) R CR.out Try.underlying28 rfl hiY (by kernel_rfl) ?_; simp only [Act.put, List.setIfInBounds_toArray, List.set_cons_succ, List.set_cons_zero])
      | ((with_reducible refine at_qload (.tmp 3) ?_); refine wpQuiet_load 28 _ rfl (w.heap.size + 1) rfl X CX.out Try.underlying28 rfl hiX (by kernel_rfl) ?_; simp only [Act.put, List.setIfInBounds_toArray, List.set_cons_succ, List.set_cons_zero])
      | (go_big_quiet_step (fail)))
    refine wpQuiet_nil ?_
    rintro _ ⟨t, rfl⟩
    have hft := hF t
    obtain ⟨u, hu⟩ : ∃ u, F t = u := ⟨_, rfl⟩
    rw [hu] at hft ⊢
    have HB1 := Lib.hid (HBL.out.trans (hft.mono HBL.out.size))
    have HT1 := Lib.hid (HTr.out.call hft)
    have HX1 := Lib.hid (HXr.out.call hft)
    clear c0 CR CX hG hu hft hF hT
    clear t F T
    cases qr
    case false =>
      have hne : ¬ ns[k].b.root = r := fun h => by have := HQR.out.2 h; cases this
      rw [if_neg hne] at HST
      go_wp2_with fail
      go_roundw
      case rel => exact ⟨k + 1, by rw [hm.out]; omega, by go_num, by rw [← HST.out]; exact HF.out, HT1.out, HX1.out, HB1.out⟩
      case measure => simp [intOf]; omega
    case true =>
      rw [if_pos (HQR.out.1 rfl)] at HST
      have hqv : q = (k : Int) := by rw [← hq.out, ← HF.out]; exact HST.out
      have HQ := Lib.hid hqv
      clear hqv
      go_wp2_with fail
      go_ret
      exact ⟨by rw [HQ.out]; rfl, HB1.out⟩

set_option maxHeartbeats 4000000 in
theorem isn_any (v : Value) (ns : List NdD) (i : Int) (w : World) (hN : NodesV w v ns) :
    Calls Try.prog 33 #[.agg #[v], .int .i64 i] w fun e w' => e = .returned (.bool (decide (0 ≤ i ∧ i < ns.length))) ∧ Below w.heap.size w w' := by
  obtain ⟨a, cap, rfl, hmx⟩ := hN.shape
  unfold maxLen at hmx
  obtain ⟨m, hm⟩ : ∃ m, Hid (ns.length = m) := ⟨_, Lib.hid rfl⟩
  rw [hm.out] at hmx ⊢
  obtain ⟨q, hq⟩ : ∃ q : Bool, decide (0 ≤ i ∧ i < (m : Int)) = q := ⟨_, rfl⟩
  rw [hq]
  have HBA := Lib.hid ((Below.refl w.heap.size w).alloc (Nat.le_refl _) (.cells #[.slice a m cap] 43))
  have HC0 : Hid ((w.alloc (.cells #[.slice a m cap] 43)).cell? ⟨w.heap.size, 0, none⟩ = some (.slice a m cap)) := (Blk.new rfl).cell 0
  clear hN
  by_cases h0 : 0 ≤ i
  · have hge : ¬ i < 0 := by omega
    by_cases h1 : i < (m : Int)
    · have hqv : q = true := by rw [← hq]; exact decide_eq_true ⟨h0, h1⟩
      subst hqv
      go_enter Try.func33, Try.ntmps33
      go_wp2_with (first
        | ((with_reducible refine at_load (.tmp 9) ?_); refine wpList_load_1 41 (.tmp 9) rfl w.heap.size 0 (.slice a m cap) HC0.out rfl _ Try.underlying41 rfl rfl ?_))
      go_ret
      exact ⟨rfl, HBA.out⟩
    · have hqv : q = false := by rw [← hq]; exact decide_eq_false (fun h => h1 h.2)
      subst hqv
      go_enter Try.func33, Try.ntmps33
      go_wp2_with (first
        | ((with_reducible refine at_load (.tmp 9) ?_); refine wpList_load_1 41 (.tmp 9) rfl w.heap.size 0 (.slice a m cap) HC0.out rfl _ Try.underlying41 rfl rfl ?_))
      go_ret
      exact ⟨rfl, HBA.out⟩
  · have hqv : q = false := by rw [← hq]; exact decide_eq_false (fun h => h0 h.1)
    subst hqv
    have h0' : (0 ≤ i) = False := eq_false h0
    clear h0
    go_enter Try.func33, Try.ntmps33
    go_wp2_with fail
    go_ret
    exact ⟨rfl, HBA.out⟩
end Go.Proofs.Ytidimiioglgliaa
