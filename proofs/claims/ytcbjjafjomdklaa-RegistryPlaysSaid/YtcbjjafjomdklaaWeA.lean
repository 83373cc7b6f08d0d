/- Slices of roots; the reference's Contains (layer 1) and Weight. -/
import Derived.Test.YtcbjjafjomdklaaVoA
import Derived.Test.YtcbjjafjomdklaaEvA
set_option linter.unusedVariables false

set_option linter.unusedSimpArgs false
namespace Go.Proofs.Ytcbjjafjomdklaa
open Go.RowKit

set_option maxRecDepth 100000

/-- An element of a slice of roots. -/
def RtEl (P : Value → Prop) (w : World) (X : Array Value) (r : List Int) : Prop := X = (bytesL r).toArray ∧ IsBytes 32 r

theorem rtOK : ElOK 32 RtEl where
  size := fun h => by rw [h.1, List.size_toArray, bytesL_len h.2]
  one := fun h v hv => by rw [h.1] at hv; exact bytesL_one _ v (by simpa using hv)
  mono := fun h _ => h
  grown := fun h _ _ => h
  off := fun h _ => h

/-- A slice of roots. -/
abbrev RootsV (w : World) (v : Value) (rs : List (List Int)) : Prop := ElV RtEl 32 w v rs

theorem RootsV.call {w w' : World} {v : Value} {rs : List (List Int)} (h : RootsV w v rs) (hb : Below w.heap.size w w') : RootsV w' v rs := ElV.below rtOK h hb

theorem RootsV.elem {w : World} {a : Option Addr} {l cap : Nat} {rs : List (List Int)} (h : RootsV w (.slice a l cap) rs) {i : Nat} (hi : i < rs.length) :
    ∃ b off, a = some ⟨b, off, none⟩ ∧ l = rs.length ∧ b < w.heap.size ∧ w.rangeAt b (off + i * 32) (bytesL rs[i]) ∧ IsBytes 32 rs[i] := by
  obtain ⟨b, off, X, h1, h2, h3, h4, ⟨h5, h6⟩, _⟩ := ElV.at rtOK h hi
  exact ⟨b, off, h1, h2, h3, by rw [h5] at h4; exact h4, h6⟩

set_option maxHeartbeats 4000000 in
theorem contains_rt (v : Value) (rs : List (List Int)) (r : List Int) (w : World) (hN : RootsV w v rs) (hr : IsBytes 32 r) :
    Calls Try.prog 47 #[v, .agg (bytesL r).toArray] w fun e w' => e = .returned (.bool (decide (r ∈ rs))) ∧ Below w.heap.size w w' := by
  obtain ⟨a, cap, rfl, hmx⟩ := hN.shape
  unfold maxLen at hmx
  have HN := Lib.hid hN
  have HR := Lib.hid hr
  obtain ⟨q, hq⟩ : ∃ q, Hid (decide (r ∈ rs) = q) := ⟨_, Lib.hid rfl⟩
  rw [hq.out]
  obtain ⟨X, hX⟩ : ∃ X, Hid ((bytesL r).toArray = X) := ⟨_, Lib.hid rfl⟩
  rw [hX.out]
  have hsX : X.size = 32 := by rw [← hX.out, List.size_toArray, bytesL_len hr]
  have hiX : (Try.prog.info? 28).map (·.size) = some X.size := by rw [hsX]; kernel_rfl
  obtain ⟨m, hm⟩ : ∃ m, Hid (rs.length = m) := ⟨_, Lib.hid rfl⟩
  rw [hm.out] at hmx HN ⊢
  have HBA := Lib.hid ((Below.refl w.heap.size w).alloc (Nat.le_refl _) (.cells X 28))
  have HX : Hid (Blk (w.alloc (.cells X 28)) w.heap.size X) := Blk.new rfl
  clear hN hr
  go_enter Try.func47, Try.ntmps47
  go_wp2_with fail
  go_loopw [5] (fun i wr => ∃ k : Nat, k ≤ m ∧ i = .int .i64 k ∧ (∀ j, (hj : j < rs.length) → j < k → rs[j] ≠ r) ∧ Blk wr w.heap.size X ∧ Below w.heap.size w wr) (fun i _ => m - (intOf i).toNat)
  case atStart => exact ⟨0, Nat.zero_le _, rfl, fun j _ h => by omega, HX.out, HBA.out⟩
  case round =>
    obtain ⟨k, hk, rfl, hno, hx, hbl⟩ := hrel
    have HNO := Lib.hid hno
    have HXr := Lib.hid hx
    have HBL := Lib.hid hbl
    clear hno hx hbl
    by_cases hlt : k < m
    case neg =>
      obtain rfl : k = m := by omega
      have HQ : Hid (q = false) := by
        show q = false
        rw [← hq.out, decide_eq_false_iff_not]
        intro hmem
        obtain ⟨j, hj, e⟩ := List.mem_iff_getElem.1 hmem
        exact HNO.out j hj (by rw [← hm.out]; exact hj) e
      go_wp2_with fail
      go_ret
      exact ⟨by rw [HQ.out]; rfl, HBL.out⟩
    have hlt' : (k : Int) < m := by omega
    have hkn : k < rs.length := by rw [hm.out]; exact hlt
    obtain ⟨b, off, rfl, hlm, hbb, hra, hok⟩ := HN.out.elem hkn
    have HRT := Lib.hid (Below.rng HBL.out hbb hra)
    have hbw : b < wr.heap.size := Nat.lt_of_lt_of_le hbb HBL.out.size
    have HEQ := fun u => eq_root hok HR.out u
    have hiY : (Try.prog.info? 28).map (·.size) = some (bytesL rs[k]).length := by rw [bytesL_len hok]; kernel_rfl
    obtain ⟨qr, hqr⟩ : ∃ q : Bool, decide (rs[k] = r) = q := ⟨_, rfl⟩
    rw [hqr] at HEQ
    have HQR : Hid (qr = true ↔ rs[k] = r) := by show _ ↔ _; rw [← hqr]; exact decide_eq_true_iff
    simp only [bytesL_V] at HEQ
    rw [hX.out] at HEQ
    have HMEM := Lib.hid (List.getElem_mem hkn)
    obtain ⟨R, hR⟩ : ∃ R, bytesL rs[k] = R := ⟨_, rfl⟩
    rw [hR] at HRT HEQ hiY
    clear hra hok hqr hR hlm
    go_wp2_with fail
    refine wp_region_fam2 (by kernel_rfl) (by kernel_rfl) ?_
    intro T F hT hF hG
    have CR := Lib.hid (show ∀ u, (∃ t, u = F t) → u.rangeAt b (off + k * 32) R by rintro _ ⟨t, rfl⟩; exact Below.rng (hF t) hbw HRT.out)
    have CX := Lib.hid (show ∀ u, (∃ t, u = F t) → Blk u w.heap.size X by rintro _ ⟨t, rfl⟩; exact HXr.out.call (hF t))
    repeat (first
      | ((with_reducible refine at_qload (.tmp 14) ?_); refine wpQuiet_load_midE 28 _ rfl b (off + k * 32) (by simp [Act.eval]) R CR.out Try.underlying28 rfl hiY (by kernel_rfl) ?_; simp only [Act.put, List.setIfInBounds_toArray, List.set_cons_succ, List.set_cons_zero])
      | ((with_reducible refine at_qload (.tmp 3) ?_); refine wpQuiet_load 28 _ rfl w.heap.size rfl X CX.out Try.underlying28 rfl hiX (by kernel_rfl) ?_; simp only [Act.put, List.setIfInBounds_toArray, List.set_cons_succ, List.set_cons_zero])
      | (go_big_quiet_step (fail)))
    refine wpQuiet_nil ?_
    rintro _ ⟨t, rfl⟩
    have hft := hF t
    obtain ⟨u, hu⟩ : ∃ u, F t = u := ⟨_, rfl⟩
    rw [hu] at hft ⊢
    have HB1 := Lib.hid (HBL.out.trans (hft.mono HBL.out.size))
    have HX1 := Lib.hid (HXr.out.call hft)
    clear CR CX hG hu hft hF hT
    clear t F T
    cases qr
    case false =>
      have HNE : Hid (rs[k] ≠ r) := fun h => by have := HQR.out.2 h; cases this
      go_wp2_with fail
      go_roundw
      case rel => exact ⟨k + 1, by omega, by go_num, fun j hj hjk => by
        by_cases e : j = k
        · subst e; exact HNE.out
        · exact HNO.out j hj (by omega), HX1.out, HB1.out⟩
      case measure => simp [intOf]; omega
    case true =>
      have HQ : Hid (q = true) := by
        show q = true
        rw [← hq.out, decide_eq_true_iff, ← HQR.out.1 rfl]
        exact HMEM.out
      go_wp2_with fail
      go_ret
      exact ⟨by rw [HQ.out]; rfl, HB1.out⟩

/-- Whether validator k counts for these roots. -/
def weiP (vs : List VoD) (es : List Int) (rs : List (List Int)) (k : Nat) : Bool := (vs.getD k zeV).has && !decide ((k : Int) ∈ es) && decide ((vs.getD k zeV).r ∈ rs)

def weiK (vs : List VoD) (es : List Int) (bs : List Int) (rs : List (List Int)) : Nat → Int
  | 0 => 0
  | k + 1 => if weiP vs es rs k then IntKind.u64.wrap (weiK vs es bs rs k + bs.getD k 0) else weiK vs es bs rs k

def weiN (vs : List VoD) (es : List Int) (bs : List Int) (rs : List (List Int)) : Int := weiK vs es bs rs (min bs.length vs.length)

theorem weiK_yes {vs : List VoD} {es bs : List Int} {rs : List (List Int)} {k : Nat} (h : weiP vs es rs k = true) : weiK vs es bs rs (k + 1) = IntKind.u64.wrap (weiK vs es bs rs k + bs.getD k 0) := by
  show (if weiP vs es rs k = true then IntKind.u64.wrap (weiK vs es bs rs k + bs.getD k 0) else weiK vs es bs rs k) = _
  rw [if_pos h]

theorem weiK_no {vs : List VoD} {es bs : List Int} {rs : List (List Int)} {k : Nat} (h : weiP vs es rs k = false) : weiK vs es bs rs (k + 1) = weiK vs es bs rs k := by
  show (if weiP vs es rs k = true then IntKind.u64.wrap (weiK vs es bs rs k + bs.getD k 0) else weiK vs es bs rs k) = _
  rw [if_neg (by rw [h]; simp)]
end Go.Proofs.Ytcbjjafjomdklaa
