/- Several texts as one: WeA, WeB, WeC, WeD, WeE. -/
import Derived.Test.YtdlbobpglgjhiaaVoA
import Derived.Test.YtdlbobpglgjhiaaEvA
import Derived.Test.YtdlbobpglgjhiaaPas
import Derived.Test.YtdlbobpglgjhiaaCl
import Derived.Test.YtdlbobpglgjhiaaZ0
import Derived.Test.YtdlbobpglgjhiaaEls
import Derived.Test.YtdlbobpglgjhiaaHeld4
import Derived.Deep.MidRow
import Derived.Deep.RegionHeld3
namespace Go.Proofs.Ytdlbobpglgjhiaa

/-! WeA -/
section
set_option linter.unusedVariables false
set_option linter.unusedSimpArgs false
open Go.RowKit

set_option maxRecDepth 100000

/-- An element of a slice of roots. -/
def RtEl (P : Value → Prop) (w : World) (X : Array Value) (r : List Int) : Prop := X = (bytesL r).toArray ∧ IsBytes 32 r

theorem rtOK : ElOK 32 RtEl where
  size := fun h => by rw [h.1, List.size_toArray, bytesL_len h.2]
  one := fun h v hv => by rw [h.1] at hv; exact bytesL_one _ v (by simpa using hv)
  mono := fun h _ => h
  grown := fun h _ _ => h
  off := fun h _ => h

/-- A slice of roots. -/
abbrev RootsV (w : World) (v : Value) (rs : List (List Int)) : Prop := ElV RtEl 32 w v rs

theorem RootsV.call {w w' : World} {v : Value} {rs : List (List Int)} (h : RootsV w v rs) (hb : Below w.heap.size w w') : RootsV w' v rs := ElV.below rtOK h hb

theorem RootsV.elem {w : World} {a : Option Addr} {l cap : Nat} {rs : List (List Int)} (h : RootsV w (.slice a l cap) rs) {i : Nat} (hi : i < rs.length) :
    ∃ b off, a = some ⟨b, off, none⟩ ∧ l = rs.length ∧ b < w.heap.size ∧ w.rangeAt b (off + i * 32) (bytesL rs[i]) ∧ IsBytes 32 rs[i] := by
  obtain ⟨b, off, X, h1, h2, h3, h4, ⟨h5, h6⟩, _⟩ := ElV.at rtOK h hi
  exact ⟨b, off, h1, h2, h3, by rw [h5] at h4; exact h4, h6⟩

set_option maxHeartbeats 4000000 in
theorem contains_rt (v : Value) (rs : List (List Int)) (r : List Int) (w : World) (hN : RootsV w v rs) (hr : IsBytes 32 r) :
    Calls Try.prog 47 #[v, .agg (bytesL r).toArray] w fun e w' => e = .returned (.bool (decide (r ∈ rs))) ∧ Below w.heap.size w w' := by
  obtain ⟨a, cap, rfl, hmx⟩ := hN.shape
  unfold maxLen at hmx
  have HN := Lib.hid hN
  have HR := Lib.hid hr
  obtain ⟨q, hq⟩ : ∃ q, Hid (decide (r ∈ rs) = q) := ⟨_, Lib.hid rfl⟩
  rw [hq.out]
  obtain ⟨X, hX⟩ : ∃ X, Hid ((bytesL r).toArray = X) := ⟨_, Lib.hid rfl⟩
  rw [hX.out]
  have hsX : X.size = 32 := by rw [← hX.out, List.size_toArray, bytesL_len hr]
  have hiX : (Try.prog.info? 57).map (·.size) = some X.size := by rw [hsX]; kernel_rfl
  obtain ⟨m, hm⟩ : ∃ m, Hid (rs.length = m) := ⟨_, Lib.hid rfl⟩
  rw [hm.out] at hmx HN ⊢
  have HBA := Lib.hid ((Below.refl w.heap.size w).alloc (Nat.le_refl _) (.cells X 57))
  have HX : Hid (Blk (w.alloc (.cells X 57)) w.heap.size X) := Blk.new rfl
  clear hN hr
  go_enter Try.func47, Try.ntmps47
  go_wp2_with fail
  go_loopw [5] (fun i wr => ∃ k : Nat, k ≤ m ∧ i = .int .i64 k ∧ (∀ j, (hj : j < rs.length) → j < k → rs[j] ≠ r) ∧ Blk wr w.heap.size X ∧ Below w.heap.size w wr) (fun i _ => m - (intOf i).toNat)
  case atStart => exact ⟨0, Nat.zero_le _, rfl, fun j _ h => by omega, HX.out, HBA.out⟩
  case round =>
    obtain ⟨k, hk, rfl, hno, hx, hbl⟩ := hrel
    have HNO := Lib.hid hno
    have HXr := Lib.hid hx
    have HBL := Lib.hid hbl
    clear hno hx hbl
    by_cases hlt : k < m
    case neg =>
      obtain rfl : k = m := by omega
      have HQ : Hid (q = false) := by
        show q = false
        rw [← hq.out, decide_eq_false_iff_not]
        intro hmem
        obtain ⟨j, hj, e⟩ := List.mem_iff_getElem.1 hmem
        exact HNO.out j hj (by rw [← hm.out]; exact hj) e
      go_wp2_with fail
      go_ret
      exact ⟨by rw [HQ.out]; rfl, HBL.out⟩
    have hlt' : (k : Int) < m := by omega
    have hkn : k < rs.length := by rw [hm.out]; exact hlt
    obtain ⟨b, off, rfl, hlm, hbb, hra, hok⟩ := HN.out.elem hkn
    have HRT := Lib.hid (Below.rng HBL.out hbb hra)
    have hbw : b < wr.heap.size := Nat.lt_of_lt_of_le hbb HBL.out.size
    have HEQ := fun u => eq_root hok HR.out u
    have hiY : (Try.prog.info? 57).map (·.size) = some (bytesL rs[k]).length := by rw [bytesL_len hok]; kernel_rfl
    obtain ⟨qr, hqr⟩ : ∃ q : Bool, decide (rs[k] = r) = q := ⟨_, rfl⟩
    rw [hqr] at HEQ
    have HQR : Hid (qr = true ↔ rs[k] = r) := by show _ ↔ _; rw [← hqr]; exact decide_eq_true_iff
    simp only [bytesL_V] at HEQ
    rw [hX.out] at HEQ
    have HMEM := Lib.hid (List.getElem_mem hkn)
    obtain ⟨R, hR⟩ : ∃ R, bytesL rs[k] = R := ⟨_, rfl⟩
    rw [hR] at HRT HEQ hiY
    clear hra hok hqr hR hlm
    go_wp2_with fail
    refine wp_region_fam2 (by kernel_rfl) (by kernel_rfl) ?_
    intro T F hT hF hG
    have CR := Lib.hid (show ∀ u, (∃ t, u = F t) → u.rangeAt b (off + k * 32) R by rintro _ ⟨t, rfl⟩; exact Below.rng (hF t) hbw HRT.out)
    have CX := Lib.hid (show ∀ u, (∃ t, u = F t) → Blk u w.heap.size X by rintro _ ⟨t, rfl⟩; exact HXr.out.call (hF t))
    repeat (first
      | ((with_reducible refine at_qload (.tmp 14) ?_); refine wpQuiet_load_midE 57 _ rfl b (off + k * 32) (by simp [Act.eval]) R CR.out Try.underlying57 rfl hiY (by kernel_rfl) ?_; simp only [Act.put, List.setIfInBounds_toArray, List.set_cons_succ, List.set_cons_zero])
      | ((with_reducible refine at_qload (.tmp 3) ?_); refine wpQuiet_load 57 _ rfl w.heap.size rfl X CX.out Try.underlying57 rfl hiX (by kernel_rfl) ?_; simp only [Act.put, List.setIfInBounds_toArray, List.set_cons_succ, List.set_cons_zero])
      | (go_big_quiet_step (fail)))
    refine wpQuiet_nil ?_
    rintro _ ⟨t, rfl⟩
    have hft := hF t
    obtain ⟨u, hu⟩ : ∃ u, F t = u := ⟨_, rfl⟩
    rw [hu] at hft ⊢
    have HB1 := Lib.hid (HBL.out.trans (hft.mono HBL.out.size))
    have HX1 := Lib.hid (HXr.out.call hft)
    clear CR CX hG hu hft hF hT
    clear t F T
    cases qr
    case false =>
      have HNE : Hid (rs[k] ≠ r) := fun h => by have := HQR.out.2 h; cases this
      go_wp2_with fail
      go_roundw
      case rel => exact ⟨k + 1, by omega, by go_num, fun j hj hjk => by
        by_cases e : j = k
        · subst e; exact HNE.out
        · exact HNO.out j hj (by omega), HX1.out, HB1.out⟩
      case measure => simp [intOf]; omega
    case true =>
      have HQ : Hid (q = true) := by
        show q = true
        rw [← hq.out, decide_eq_true_iff, ← HQR.out.1 rfl]
        exact HMEM.out
      go_wp2_with fail
      go_ret
      exact ⟨by rw [HQ.out]; rfl, HB1.out⟩

/-- Whether validator k counts for these roots. -/
def weiP (vs : List VoD) (es : List Int) (rs : List (List Int)) (k : Nat) : Bool := (vs.getD k zeV).has && !decide ((k : Int) ∈ es) && decide ((vs.getD k zeV).r ∈ rs)

def weiK (vs : List VoD) (es : List Int) (bs : List Int) (rs : List (List Int)) : Nat → Int
  | 0 => 0
  | k + 1 => if weiP vs es rs k then IntKind.u64.wrap (weiK vs es bs rs k + bs.getD k 0) else weiK vs es bs rs k

def weiN (vs : List VoD) (es : List Int) (bs : List Int) (rs : List (List Int)) : Int := weiK vs es bs rs (min bs.length vs.length)

theorem weiK_yes {vs : List VoD} {es bs : List Int} {rs : List (List Int)} {k : Nat} (h : weiP vs es rs k = true) : weiK vs es bs rs (k + 1) = IntKind.u64.wrap (weiK vs es bs rs k + bs.getD k 0) := by
  show (if weiP vs es rs k = true then IntKind.u64.wrap (weiK vs es bs rs k + bs.getD k 0) else weiK vs es bs rs k) = _
  rw [if_pos h]

theorem weiK_no {vs : List VoD} {es bs : List Int} {rs : List (List Int)} {k : Nat} (h : weiP vs es rs k = false) : weiK vs es bs rs (k + 1) = weiK vs es bs rs k := by
  show (if weiP vs es rs k = true then IntKind.u64.wrap (weiK vs es bs rs k + bs.getD k 0) else weiK vs es bs rs k) = _
  rw [if_neg (by rw [h]; simp)]
end

/-! WeB -/
section
set_option linter.unusedVariables false
set_option linter.unusedSimpArgs false
open Go.RowKit

set_option maxRecDepth 100000

theorem NumsV.shapeW {w : World} {v : Value} {l : List Int} (h : NumsV w v l) : ∃ a k, v = .slice a l.length k ∧ l.length ≤ maxLen := by
  obtain ⟨⟨a, n, c, e, hl, hm, hr⟩, _⟩ := h
  cases e; subst hl
  exact ⟨a, c, rfl, hm⟩

theorem NumsV.elemW {w : World} {a : Option Addr} {n c : Nat} {l : List Int} (h : NumsV w (.slice a n c) l) {k : Nat} (hk : k < l.length) :
    ∃ b off, a = some ⟨b, off, none⟩ ∧ b < w.heap.size ∧ w.cell? ⟨b, off + k, none⟩ = some (.int .u64 (l.getD k 0)) := by
  obtain ⟨⟨a', n', c', e, hl, hm, hr⟩, _⟩ := h
  cases e
  rcases hr with h0 | ⟨b, off, rfl, hb, hc⟩
  · omega
  · exact ⟨b, off, rfl, hb, hc k (by omega)⟩

set_option maxHeartbeats 8000000 in
theorem weight_any (lv ev bv rv : Value) (vs : List VoD) (es bs : List Int) (rs : List (List Int)) (w : World) (hV : VotesV w lv vs) (hE : IntsV w ev es) (hB : NumsV w bv bs) (hR : RootsV w rv rs) :
    Calls Try.prog 39 #[.agg #[lv, ev], bv, rv] w fun e w' => e = .returned (.int .u64 (weiN vs es bs rs)) ∧ Below w.heap.size w w' := by
  obtain ⟨va, vc, rfl, hmx⟩ := hV.shape
  obtain ⟨ba, bc, rfl, hmb⟩ := NumsV.shapeW hB
  obtain ⟨ea, el, ec, rfl⟩ := ints_shape' hE.1
  unfold maxLen at hmx hmb
  have HV := Lib.hid hV
  have HBS := Lib.hid hB
  have HHAS := Lib.hid (fun (n : Int) u (hu : Below w.heap.size w u) => has_any _ es n u (hE.below hu))
  have HCON := Lib.hid (fun (r : List Int) u (hr : IsBytes 32 r) (hu : Below w.heap.size w u) => contains_rt _ rs r u (hR.call hu) hr)
  obtain ⟨m, hm⟩ : ∃ m, Hid (vs.length = m) := ⟨_, Lib.hid rfl⟩
  obtain ⟨p, hp⟩ : ∃ p, Hid (bs.length = p) := ⟨_, Lib.hid rfl⟩
  have HW : Hid (weiN vs es bs rs = weiK vs es bs rs (min p m)) := by show weiN vs es bs rs = _; rw [← hm.out, ← hp.out]; rfl
  rw [hm.out] at hmx HV ⊢
  rw [hp.out] at hmb HBS ⊢
  have hi2 : (Try.prog.info? 44).map (·.size) = some 2 := by kernel_rfl
  have S0 := Lib.hid (pas_new w #[.slice va m vc, .slice ea el ec] 44)
  clear hV hE hB hR
  go_enter Try.func39, Try.ntmps39
  go_wp2_with fail
  go_loopw [7, 8] (fun n i wr => ∃ k : Nat, k ≤ p ∧ k ≤ m ∧ i = .int .i64 k ∧ n = .int .u64 (weiK vs es bs rs k) ∧ PaS w #[.slice va m vc, .slice ea el ec] wr) (fun _ i _ => p - (intOf i).toNat)
  case atStart => exact ⟨0, Nat.zero_le _, Nat.zero_le _, rfl, rfl, S0.out⟩
  case round =>
    obtain ⟨k, hkp, hkm, rfl, rfl, hs⟩ := hrel
    have S1 := Lib.hid hs
    have HC0 := Lib.hid (hs.t.cell 0)
    have HC1 := Lib.hid (hs.t.cell 1)
    clear hs
    by_cases hlp : k < p
    case neg =>
      obtain rfl : k = p := by omega
      have hn1 : ¬ ((k : Int) < k) := by omega
      have HE : Hid (weiN vs es bs rs = weiK vs es bs rs k) := by show _ = _; rw [HW.out, Nat.min_eq_left hkm]
      go_wp2_with fail
      go_ret
      exact ⟨by rw [HE.out]; rfl, S1.out.b⟩
    have hlp' : (k : Int) < p := by omega
    by_cases hlm : k < m
    case neg =>
      obtain rfl : k = m := by omega
      have hn1 : ¬ ((k : Int) < k) := by omega
      have HE : Hid (weiN vs es bs rs = weiK vs es bs rs k) := by show _ = _; rw [HW.out, Nat.min_eq_right hkp]
      go_wp2_with (first
        | ((with_reducible refine at_load (.tmp 15) ?_); refine wpList_load_1 42 (.tmp 15) rfl w.heap.size 0 (.slice va k vc) HC0.out rfl _ Try.underlying42 rfl rfl ?_))
      go_ret
      exact ⟨by rw [HE.out]; rfl, S1.out.b⟩
    have hlm' : (k : Int) < m := by omega
    have hkv : k < vs.length := by rw [hm.out]; exact hlm
    obtain ⟨b, off, rfl, _hlv, hbb, hra, hok⟩ := HV.out.elem hkv
    obtain ⟨b2, off2, rfl, hbb2, hcb⟩ := NumsV.elemW HBS.out (by rw [hp.out]; exact hlp)
    have HDP : Hid (weiP vs es rs k = ((vs.getD k zeV).has && !decide ((k : Int) ∈ es) && decide ((vs.getD k zeV).r ∈ rs))) := rfl
    obtain ⟨d, hd⟩ : ∃ d, vs.getD k zeV = d := ⟨_, rfl⟩
    rw [hd] at hra hok HDP
    obtain ⟨dh, dn, dr⟩ := d
    obtain ⟨_hd0, _hd1, hdr⟩ := hok
    obtain ⟨L, hL⟩ : ∃ L, Hid (bytesL dr = L) := ⟨_, rfl⟩
    have HLL : Hid (L.length = 32) := by show _ = _; rw [← hL.out, bytesL_len hdr]
    have HRA := Lib.hid hra
    have HCH : Hid (w.cell? ⟨b, off + k * 34, none⟩ = some (.bool dh)) := hra 0 (.bool dh) rfl
    have HRT : Hid (w.rangeAt b (off + k * 34 + 2) L) := by
      intro j v hv
      have := hra (j + 2) v (by rw [← hL.out] at hv; exact hv)
      rw [show off + k * 34 + 2 + j = off + k * 34 + (j + 2) by omega]; exact this
    have hiR : (Try.prog.info? 57).map (·.size) = some L.length := by rw [HLL.out]; kernel_rfl
    have HCR := Lib.hid (fun u hu => HCON.out dr u hdr hu)
    have HHK := Lib.hid (fun u hu => HHAS.out (k : Int) u hu)
    rw [hL.out] at HCR
    obtain ⟨q, hq⟩ : ∃ q, decide ((k : Int) ∈ es) = q := ⟨_, rfl⟩
    obtain ⟨q2, hq2⟩ : ∃ q, decide (dr ∈ rs) = q := ⟨_, rfl⟩
    simp only at HDP
    rw [hq] at HHK HDP
    rw [hq2] at HCR HDP
    obtain ⟨x, hx⟩ : ∃ x, bs.getD k 0 = x := ⟨_, rfl⟩
    rw [hx] at hcb
    have HNY := Lib.hid (weiK_yes (vs := vs) (es := es) (bs := bs) (rs := rs) (k := k))
    have HNN := Lib.hid (weiK_no (vs := vs) (es := es) (bs := bs) (rs := rs) (k := k))
    rw [hx] at HNY
    obtain ⟨n, hn⟩ : ∃ n, Hid (weiK vs es bs rs k = n) := ⟨_, rfl⟩
    rw [hn.out] at HNY HNN ⊢
    have HCB := Lib.hid hcb
    have HH1 := Lib.hid ((S1.out.b.cell (p := ⟨b, off + k * 34, none⟩) hbb).trans HCH.out)
    clear hra hd hq hq2 hx hcb hdr _hlv _hd0 _hd1
    cases dh
    case false =>
      have HX : Hid (weiK vs es bs rs (k + 1) = n) := HNN.out (by rw [HDP.out]; rfl)
      go_wp2_with (first
        | ((with_reducible refine at_load (.tmp 15) ?_); refine wpList_load_1 42 (.tmp 15) rfl w.heap.size 0 (.slice (some ⟨b, off, none⟩) m vc) HC0.out rfl _ Try.underlying42 rfl rfl ?_)
        | ((with_reducible refine at_load (.tmp 22) ?_); refine wpList_load_1 42 (.tmp 22) rfl w.heap.size 0 (.slice (some ⟨b, off, none⟩) m vc) HC0.out rfl _ Try.underlying42 rfl rfl ?_)
        | ((with_reducible refine at_load (.tmp 26) ?_); refine wpList_load_1 4 (.tmp 26) rfl b (off + k * 34) (.bool false) HH1.out rfl _ Try.underlying4 rfl rfl ?_))
      go_roundw
      case rel => exact ⟨k + 1, by omega, by omega, by go_num, by rw [HX.out], S1.out⟩
      case measure => simp [intOf]; omega
    case true =>
      cases q
      case true =>
        have HX : Hid (weiK vs es bs rs (k + 1) = n) := HNN.out (by rw [HDP.out]; rfl)
        go_wp2_with (first
          | ((with_reducible refine at_load (.tmp 15) ?_); refine wpList_load_1 42 (.tmp 15) rfl w.heap.size 0 (.slice (some ⟨b, off, none⟩) m vc) HC0.out rfl _ Try.underlying42 rfl rfl ?_)
          | ((with_reducible refine at_load (.tmp 22) ?_); refine wpList_load_1 42 (.tmp 22) rfl w.heap.size 0 (.slice (some ⟨b, off, none⟩) m vc) HC0.out rfl _ Try.underlying42 rfl rfl ?_)
          | ((with_reducible refine at_load (.tmp 26) ?_); refine wpList_load_1 4 (.tmp 26) rfl b (off + k * 34) (.bool true) HH1.out rfl _ Try.underlying4 rfl rfl ?_)
          | ((with_reducible refine at_load (.tmp 29) ?_); refine wpList_load_1 22 (.tmp 29) rfl w.heap.size 1 (.slice ea el ec) HC1.out rfl _ Try.underlying22 rfl rfl ?_)
          | (go_at_call 46; refine (HHK.out _ S1.out.b).mono ?_; rintro e w2 ⟨rfl, hb2⟩; have S2 := Lib.hid (S1.out.call hb2); clear hb2))
        go_roundw
        case rel => exact ⟨k + 1, by omega, by omega, by go_num, by rw [HX.out], S2.out⟩
        case measure => simp [intOf]; omega
      case false =>
        cases q2
        case false =>
          have HX : Hid (weiK vs es bs rs (k + 1) = n) := HNN.out (by rw [HDP.out]; rfl)
          go_wp2_with (first
            | ((with_reducible refine at_load (.tmp 15) ?_); refine wpList_load_1 42 (.tmp 15) rfl w.heap.size 0 (.slice (some ⟨b, off, none⟩) m vc) HC0.out rfl _ Try.underlying42 rfl rfl ?_)
            | ((with_reducible refine at_load (.tmp 22) ?_); refine wpList_load_1 42 (.tmp 22) rfl w.heap.size 0 (.slice (some ⟨b, off, none⟩) m vc) HC0.out rfl _ Try.underlying42 rfl rfl ?_)
            | ((with_reducible refine at_load (.tmp 26) ?_); refine wpList_load_1 4 (.tmp 26) rfl b (off + k * 34) (.bool true) HH1.out rfl _ Try.underlying4 rfl rfl ?_)
            | ((with_reducible refine at_load (.tmp 29) ?_); refine wpList_load_1 22 (.tmp 29) rfl w.heap.size 1 (.slice ea el ec) HC1.out rfl _ Try.underlying22 rfl rfl ?_)
            | ((with_reducible refine at_load (.tmp 37) ?_); refine wpList_load_1 42 (.tmp 37) rfl w.heap.size 0 (.slice (some ⟨b, off, none⟩) m vc) (S2.out.t.cell 0) rfl _ Try.underlying42 rfl rfl ?_)
            | ((with_reducible refine at_load (.tmp 41) ?_); refine wpList_load_rng 57 (.tmp 41) rfl b (off + k * 34 + 2) L HR2.out rfl _ Try.underlying57 rfl hiR rfl ?_)
            | (go_at_call 46; refine (HHK.out _ S1.out.b).mono ?_; rintro e w2 ⟨rfl, hb2⟩; have S2 := Lib.hid (S1.out.call hb2); have HR2 := Lib.hid (Below.rng S2.out.b hbb HRT.out); clear hb2)
            | (go_at_call 47; refine (HCR.out _ S2.out.b).mono ?_; rintro e w3 ⟨rfl, hb3⟩; have S3 := Lib.hid (S2.out.call hb3); clear hb3))
          go_roundw
          case rel => exact ⟨k + 1, by omega, by omega, by go_num, by rw [HX.out], S3.out⟩
          case measure => simp [intOf]; omega
        case true =>
          have HX : Hid (weiK vs es bs rs (k + 1) = IntKind.u64.wrap (n + x)) := HNY.out (by rw [HDP.out]; rfl)
          go_wp2_with (first
            | ((with_reducible refine at_load (.tmp 15) ?_); refine wpList_load_1 42 (.tmp 15) rfl w.heap.size 0 (.slice (some ⟨b, off, none⟩) m vc) HC0.out rfl _ Try.underlying42 rfl rfl ?_)
            | ((with_reducible refine at_load (.tmp 22) ?_); refine wpList_load_1 42 (.tmp 22) rfl w.heap.size 0 (.slice (some ⟨b, off, none⟩) m vc) HC0.out rfl _ Try.underlying42 rfl rfl ?_)
            | ((with_reducible refine at_load (.tmp 26) ?_); refine wpList_load_1 4 (.tmp 26) rfl b (off + k * 34) (.bool true) HH1.out rfl _ Try.underlying4 rfl rfl ?_)
            | ((with_reducible refine at_load (.tmp 29) ?_); refine wpList_load_1 22 (.tmp 29) rfl w.heap.size 1 (.slice ea el ec) HC1.out rfl _ Try.underlying22 rfl rfl ?_)
            | ((with_reducible refine at_load (.tmp 37) ?_); refine wpList_load_1 42 (.tmp 37) rfl w.heap.size 0 (.slice (some ⟨b, off, none⟩) m vc) (S2.out.t.cell 0) rfl _ Try.underlying42 rfl rfl ?_)
            | ((with_reducible refine at_load (.tmp 41) ?_); refine wpList_load_rng 57 (.tmp 41) rfl b (off + k * 34 + 2) L HR2.out rfl _ Try.underlying57 rfl hiR rfl ?_)
            | ((with_reducible refine at_load (.tmp 48) ?_); refine wpList_load_1 53 (.tmp 48) rfl b2 (off2 + k) (.int .u64 x) HB3.out rfl _ Try.underlying53 rfl rfl ?_)
            | (go_at_call 46; refine (HHK.out _ S1.out.b).mono ?_; rintro e w2 ⟨rfl, hb2⟩; have S2 := Lib.hid (S1.out.call hb2); have HR2 := Lib.hid (Below.rng S2.out.b hbb HRT.out); clear hb2)
            | (go_at_call 47; refine (HCR.out _ S2.out.b).mono ?_; rintro e w3 ⟨rfl, hb3⟩; have S3 := Lib.hid (S2.out.call hb3); have HB3 := Lib.hid ((S3.out.b.cell (p := ⟨b2, off2 + k, none⟩) hbb2).trans HCB.out); clear hb3))
          go_roundw
          case rel => exact ⟨k + 1, by omega, by omega, by go_num, by rw [HX.out], S3.out⟩
          case measure => simp [intOf]; omega
end

/-! WeC -/
section
set_option linter.unusedVariables false
set_option linter.unusedSimpArgs false
open Go.RowKit

set_option maxRecDepth 100000

/-- The balances of the first k validators that are not in es. -/
def totK (es bs : List Int) : Nat → Int
  | 0 => 0
  | k + 1 => if (k : Int) ∈ es then totK es bs k else IntKind.u64.wrap (totK es bs k + bs.getD k 0)

theorem totK_yes {es bs : List Int} {k : Nat} (h : decide ((k : Int) ∈ es) = true) : totK es bs (k + 1) = totK es bs k := by
  show (if (k : Int) ∈ es then totK es bs k else IntKind.u64.wrap (totK es bs k + bs.getD k 0)) = _
  rw [if_pos (of_decide_eq_true h)]

theorem totK_no {es bs : List Int} {k : Nat} (h : decide ((k : Int) ∈ es) = false) : totK es bs (k + 1) = IntKind.u64.wrap (totK es bs k + bs.getD k 0) := by
  show (if (k : Int) ∈ es then totK es bs k else IntKind.u64.wrap (totK es bs k + bs.getD k 0)) = _
  rw [if_neg (of_decide_eq_false h)]
end

/-! WeD -/
section
set_option linter.unusedVariables false
set_option linter.unusedSimpArgs false
open Go.RowKit

set_option maxRecDepth 100000

/-- The sum of the entries that d names. -/
def sumDl (dl d : List Int) : Nat → Int
  | 0 => 0
  | k + 1 => IntKind.u64.wrap (sumDl dl d k + dl.getD (d.getD k 0).toNat 0)

theorem sumDl_succ (dl d : List Int) (k : Nat) : sumDl dl d (k + 1) = IntKind.u64.wrap (sumDl dl d k + dl.getD (d.getD k 0).toNat 0) := rfl

def sbtV (ns : List NdD) (dl : List Int) (i : Int) : Int := sumDl dl (descN ns i) (descN ns i).length

def sbtL (ns : List NdD) (dl : List Int) : Nat → List Int
  | 0 => []
  | k + 1 => sbtL ns dl k ++ [sbtV ns dl (k : Int)]

theorem sbtL_succ (ns : List NdD) (dl : List Int) (k : Nat) : sbtL ns dl (k + 1) = sbtL ns dl k ++ [sbtV ns dl (k : Int)] := rfl

theorem sbtL_len (ns : List NdD) (dl : List Int) : ∀ k, (sbtL ns dl k).length = k
  | 0 => rfl
  | k + 1 => by rw [sbtL_succ, List.length_append, sbtL_len ns dl k]; rfl

theorem descN_len (ns : List NdD) (i : Int) : (descN ns i).length ≤ ns.length := by unfold descN; exact selK_len _ _

theorem descN_rng (ns : List NdD) (i : Int) {k : Nat} (hk : k < (descN ns i).length) : 0 ≤ (descN ns i).getD k 0 ∧ (descN ns i).getD k 0 < ns.length := by
  rw [getD_at hk]
  exact selK_rng _ _ _ (by unfold descN; exact List.getElem_mem _)

theorem desc_ints (ns : List NdD) (i : Int) (hlen : ns.length ≤ 100000) {w : World} {B : Nat} {v : Value} (h : OwnK .i64 3 w B v (descN ns i)) : IntsV w v (descN ns i) :=
  ⟨h.ints (by have := descN_len ns i; unfold maxLen; omega), fun x hx => by have := selK_rng _ _ x (by unfold descN at hx; exact hx); omega⟩

theorem OwnK.off1u {w wr : World} {v : Value} {xs : List Int} (h : OwnK .u64 53 wr (w.heap.size + 1) v xs) : ∀ j, v.ownBlock = some j → w.heap.size < j := fun j hj => by have := (h.lt j hj).1; omega

set_option maxHeartbeats 8000000 in
theorem subtree_any (ns : List NdD) (hok : TrOK ns) (hlen : ns.length ≤ 100000) (dl : List Int) (v dv : Value) (w : World) (hN : NodesV w v ns) (hD : NumsV w dv dl) (hdl : dl.length = ns.length) :
    Calls Try.prog 23 #[.agg #[v], dv] w fun e w' => ∃ v', e = .returned v' ∧ OwnK .u64 53 w' w.heap.size v' (sbtL ns dl ns.length) ∧ Below w.heap.size w w' := by
  obtain ⟨a, cap, rfl, hmx⟩ := hN.shape
  obtain ⟨da, dc, rfl, hmd⟩ := NumsV.shapeW hD
  unfold maxLen at hmx hmd
  have HDE := Lib.hid (fun (k : Int) u (hu : Below w.heap.size w u) => desc_any ns hok hlen k _ u (hN.call hu))
  have HDI := Lib.hid (fun (k : Int) (u : World) B x (h : OwnK .i64 3 u B x (descN ns k)) => desc_ints ns k hlen h)
  have HDL := Lib.hid (fun (k : Int) => descN_len ns k)
  have HDR := Lib.hid (fun (i : Int) (k : Nat) (hk : k < (descN ns i).length) => descN_rng ns i hk)
  have HD := Lib.hid hD
  have hi1 : (Try.prog.info? 25).map (·.size) = some 1 := by kernel_rfl
  obtain ⟨m, hm⟩ : ∃ m, ns.length = m := ⟨_, rfl⟩
  rw [hm] at hmx HDE HDL HDR hlen hdl ⊢
  have HLD := Lib.hid hdl
  rw [hdl] at HD ⊢
  have S0 := Lib.hid (pas_new w #[.slice a m cap] 25)
  clear hN hm hok hD hdl hmd
  go_enter Try.func23, Try.ntmps23
  go_wp2_with fail
  go_loopw [5, 6] (fun q i wr => ∃ k : Nat, k ≤ m ∧ i = .int .i64 k ∧ OwnK .u64 53 wr (w.heap.size + 1) q (sbtL ns dl k) ∧ PaS w #[.slice a m cap] wr) (fun _ i _ => m - (intOf i).toNat)
  case atStart => exact ⟨0, Nat.zero_le _, rfl, OwnK.nil _ _ _ _, S0.out⟩
  case round =>
    obtain ⟨k, hk, rfl, hown, hs⟩ := hrel
    have HOW := Lib.hid hown
    have S1 := Lib.hid hs
    have HXL := Lib.hid (sbtL_len ns dl k)
    have HC0 := Lib.hid (hs.t.cell 0)
    clear hown hs
    by_cases hlt : k < m
    case neg =>
      obtain rfl : k = m := by omega
      go_wp2_with (first
        | ((with_reducible refine at_load (.tmp 11) ?_); refine wpList_load_1 23 (.tmp 11) rfl w.heap.size 0 (.slice a k cap) HC0.out rfl _ Try.underlying23 rfl rfl ?_))
      go_ret
      exact ⟨_, rfl, HOW.out.lower (by omega), S1.out.b⟩
    have hlt' : (k : Int) < m := by omega
    have HNX := Lib.hid (sbtL_succ ns dl k)
    have HSV : Hid (sbtV ns dl (k : Int) = sumDl dl (descN ns (k : Int)) (descN ns (k : Int)).length) := rfl
    have HP1 := Lib.hid (fun u hu => HDE.out (k : Int) u hu)
    have HP2 := Lib.hid (fun u B x h => HDI.out (k : Int) u B x h)
    have HP3 := Lib.hid (HDL.out (k : Int))
    have HP4 := Lib.hid (HDR.out (k : Int))
    obtain ⟨P, hP⟩ : ∃ P, descN ns (k : Int) = P := ⟨_, rfl⟩
    rw [hP] at HSV HP1 HP2 HP3 HP4
    obtain ⟨sv, hsv⟩ : ∃ z, sbtV ns dl (k : Int) = z := ⟨_, rfl⟩
    rw [hsv] at HSV HNX
    clear hP hsv
    go_wp2_with (first
      | ((with_reducible refine at_load (.tmp 11) ?_); refine wpList_load_1 23 (.tmp 11) rfl w.heap.size 0 (.slice a m cap) HC0.out rfl _ Try.underlying23 rfl rfl ?_)
      | ((with_reducible refine at_load (.tmp 2) ?_); refine wpList_load_g 25 (.tmp 2) rfl w.heap.size rfl #[.slice a m cap] _ S1.out.t Try.underlying25 rfl hi1 rfl ?_)
      | (go_at_call 34; refine (HP1.out _ S1.out.b).mono ?_; rintro e w2 ⟨v2, rfl, ho2, hb2⟩; have hi2 := HP2.out _ _ _ ho2; obtain ⟨pa, pn, pc, rfl⟩ := ints_shape' hi2.1; have HI2 := Lib.hid hi2; have S2 := Lib.hid (S1.out.call hb2); have HO2 := Lib.hid (HOW.out.call hb2); clear ho2 hb2 hi2))
    have HPN := HI2.out.len
    have hpx := HPN.2
    unfold maxLen at hpx
    have HPL : Hid (P.length = pn) := HPN.1
    clear HPN
    go_loopw [7, 9] (fun q i wy => ∃ j : Nat, j ≤ pn ∧ i = .int .i64 j ∧ q = .int .u64 (sumDl dl P j) ∧ wy = w2) (fun _ i _ => pn - (intOf i).toNat)
    case atStart => exact ⟨0, Nat.zero_le _, rfl, rfl, rfl⟩
    case round =>
      obtain ⟨j, hj, rfl, rfl, rfl⟩ := hrel
      by_cases hjt : j < pn
      case neg =>
        obtain rfl : j = pn := by omega
        have HSE : Hid (sumDl dl P j = sv) := by show _ = _; rw [HSV.out, HPL.out]
        rw [HSE.out]
        go_wp2_with (first
          | ((with_reducible refine at_app (.tmp 35) (.tmp 37) ?_); refine wpList_app1 info_u64c (by omega) Try.underlying27 (.tmp 35) (.tmp 37) rfl rfl (w.heap.size + 1) _ _ rfl (HO2.out.grown (World.grownBy_alloc _ (.cells #[.int .u64 sv] 53) none) (fun n _ => by simp)) wr.heap.size 1 sv rfl ((Blk.new rfl).cell 0) (by have := HXL.out; omega) (by have := S2.out.t.lt; simp; omega) ?_; intro v3 w3 h3 g3 o3; rw [← HNX.out] at h3; have HO3 := Lib.hid h3; have S3 := Lib.hid ((S2.out.call ((Below.refl wr.heap.size wr).alloc (Nat.le_refl _) (.cells #[.int .u64 sv] 53))).grown g3 HO2.out.off1u); clear h3 g3 o3))
        go_roundw
        case rel => exact ⟨k + 1, by omega, by go_num, HO3.out, S3.out⟩
        case measure => simp [intOf]; omega
      have hjt' : (j : Int) < pn := by omega
      have hjP : j < P.length := by rw [HPL.out]; exact hjt
      obtain ⟨pb, po, rfl, hpb, hce⟩ := HI2.out.at hjP
      obtain ⟨hx0, hx1⟩ := HP4.out j hjP
      have HNS := Lib.hid (sumDl_succ dl P j)
      obtain ⟨x, hx⟩ : ∃ x : Nat, P.getD j 0 = x := ⟨(P.getD j 0).toNat, by omega⟩
      rw [hx] at hce hx1 HNS
      simp only [Int.toNat_natCast] at HNS
      have hxm : x < m := by omega
      have hxm' : (x : Int) < m := by omega
      obtain ⟨db, doo, rfl, hdb, hdc⟩ := NumsV.elemW HD.out (by rw [HLD.out]; exact hxm)
      obtain ⟨y, hy⟩ : ∃ y, dl.getD x 0 = y := ⟨_, rfl⟩
      rw [hy] at hdc HNS
      obtain ⟨n, hn⟩ : ∃ n, sumDl dl P j = n := ⟨_, rfl⟩
      rw [hn] at HNS ⊢
      have HCE := Lib.hid hce
      have HDC := Lib.hid ((S2.out.b.cell (p := ⟨db, doo + x, none⟩) hdb).trans hdc)
      clear hx hy hn hce hdc hx0 hx1
      go_wp2_with (first
        | ((with_reducible refine at_load (.tmp 30) ?_); refine wpList_load_1 3 (.tmp 30) rfl pb (po + j) (.int .i64 (x : Int)) HCE.out rfl _ Try.underlying3 rfl rfl ?_)
        | ((with_reducible refine at_load (.tmp 32) ?_); refine wpList_load_1 53 (.tmp 32) rfl db (doo + x) (.int .u64 y) HDC.out rfl _ Try.underlying53 rfl rfl ?_))
      go_roundw
      case rel => exact ⟨j + 1, by omega, by go_num, by rw [HNS.out], trivial⟩
      case measure => simp [intOf]; omega
end

/-! WeE -/
section
set_option linter.unusedVariables false
set_option linter.unusedSimpArgs false
open Go.RowKit

set_option maxRecDepth 100000

/-- Two variables, and what was before. -/
structure PaD (w : World) (T V : Array Value) (u : World) : Prop where
  t : Blk u w.heap.size T
  v : Blk u (w.heap.size + 1) V
  b : Below w.heap.size w u

theorem PaD.call {w u u' : World} {T V : Array Value} (h : PaD w T V u) (hb : Below u.heap.size u u') : PaD w T V u' := ⟨h.t.call hb, h.v.call hb, h.b.trans (hb.mono h.b.size)⟩

theorem PaD.grown {w u u' : World} {T V : Array Value} {row : Option Nat} (h : PaD w T V u) (hg : u.grownBy u' row) (hr : ∀ j, row = some j → w.heap.size + 1 < j) : PaD w T V u' :=
  ⟨h.t.grown hg (fun e => by have := hr _ e.symm; omega), h.v.grown hg (fun e => by have := hr _ e.symm; omega), h.b.grown hg h.b.size (fun j hj => by have := hr j hj; omega)⟩

theorem pad_new (w : World) (T V : Array Value) (t s : TypeId) : PaD w T V ((w.alloc (.cells T t)).alloc (.cells V s)) := by
  have h1 : Blk (w.alloc (.cells T t)) w.heap.size T := Blk.new rfl
  have hb : Below (w.alloc (.cells T t)).heap.size (w.alloc (.cells T t)) ((w.alloc (.cells T t)).alloc (.cells V s)) := (Below.refl _ _).alloc (Nat.le_refl _) _
  exact ⟨h1.call hb, Blk.new (by simp), ((Below.refl w.heap.size w).alloc (Nat.le_refl _) (.cells T t)).trans (hb.mono (by simp))⟩

theorem one_roots {r : List Int} (hr : IsBytes 32 r) (u : World) : RootsV (u.alloc (.cells (bytesL r).toArray 57)) (.slice (some ⟨u.heap.size, 0, none⟩) 1 1) [r] := by
  have hB : Blk (u.alloc (.cells (bytesL r).toArray 57)) u.heap.size (bytesL r).toArray := Blk.new rfl
  refine ⟨_, _, rfl, by unfold maxLen; simp, .inr ⟨u.heap.size, 0, rfl, hB.lt, [(bytesL r).toArray], ?_, by simp, ?_⟩⟩
  · have e : rowsL [(bytesL r).toArray] = bytesL r := by simp [rowsL]
    rw [e]; exact hB.range
  · intro p hp
    simp only [List.zip_cons_cons, List.zip_nil_right, List.mem_singleton] at hp
    subst hp
    exact ⟨rfl, hr⟩

theorem bs_root {r : List Int} (hr : IsBytes 32 r) (u : World) : (Instr.buildSlice 89 1 #[(0, .agg (bytesL r).toArray)]).run Try.prog u = .ok (.slice (some ⟨u.heap.size, 0, none⟩) 1 1) (u.alloc (.cells (bytesL r).toArray 57)) :=
  buildEl (Z := (bytesL zeroR).toArray) (sz := 32) Try.underlying89 (fun w => by kernel_rfl) (by kernel_rfl) (by rw [List.size_toArray, bytesL_len zeroR_is]) (by rw [List.size_toArray, bytesL_len hr]) (by omega) (by omega) u

def dirV (vs : List VoD) (es bs : List Int) (x : NdD) : Int := if x.st = 2 then 0 else weiN vs es bs [x.b.root]

def dirL (ns : List NdD) (vs : List VoD) (es bs : List Int) (k : Nat) : List Int := (ns.take k).map (dirV vs es bs)

theorem dirL_succ {ns : List NdD} (vs : List VoD) (es bs : List Int) {k : Nat} (hk : k < ns.length) : dirL ns vs es bs (k + 1) = dirL ns vs es bs k ++ [dirV vs es bs ns[k]] := by
  unfold dirL
  rw [List.take_add_one, List.getElem?_eq_getElem hk, List.map_append]; rfl

theorem dirL_len {ns : List NdD} (vs : List VoD) (es bs : List Int) {k : Nat} (hk : k ≤ ns.length) : (dirL ns vs es bs k).length = k := by
  unfold dirL; simp; omega

theorem OwnK.off2u {w wr : World} {v : Value} {xs : List Int} (h : OwnK .u64 53 wr (w.heap.size + 2) v xs) : ∀ j, v.ownBlock = some j → w.heap.size + 1 < j := fun j hj => by have := (h.lt j hj).1; omega

set_option maxHeartbeats 8000000 in
theorem direct_any (ns : List NdD) (hlen : ns.length ≤ 100000) (v lv ev bv : Value) (vs : List VoD) (es bs : List Int) (w : World) (hN : NodesV w v ns) (hV : VotesV w lv vs) (hE : IntsV w ev es) (hB : NumsV w bv bs) :
    Calls Try.prog 24 #[.agg #[v], .agg #[lv, ev], bv] w fun e w' => ∃ v', e = .returned v' ∧ OwnK .u64 53 w' w.heap.size v' (dirL ns vs es bs ns.length) ∧ Below w.heap.size w w' := by
  obtain ⟨a, cap, rfl, hmx⟩ := hN.shape
  unfold maxLen at hmx
  have HN := Lib.hid hN
  have HWE := Lib.hid (fun (r : List Int) u (rv : Value) (hu : Below w.heap.size w u) (hR : RootsV u rv [r]) => weight_any lv ev bv rv vs es bs [r] u (hV.call hu) (hE.below hu) (hB.below hu) hR)
  have HSU := Lib.hid (fun (k : Nat) (hk : k < ns.length) => dirL_succ (ns := ns) vs es bs hk)
  have HLE := Lib.hid (fun (k : Nat) (hk : k ≤ ns.length) => dirL_len (ns := ns) vs es bs hk)
  obtain ⟨m, hm⟩ : ∃ m, Hid (ns.length = m) := ⟨_, Lib.hid rfl⟩
  rw [hm.out] at hmx hlen HN HLE ⊢
  have S0 := Lib.hid (pad_new w #[.slice a m cap] #[lv, ev] 25 44)
  clear hN hV hE hB
  go_enter Try.func24, Try.ntmps24
  go_wp2_with fail
  go_loopw [7, 8] (fun q i wr => ∃ k : Nat, k ≤ m ∧ i = .int .i64 k ∧ OwnK .u64 53 wr (w.heap.size + 2) q (dirL ns vs es bs k) ∧ PaD w #[.slice a m cap] #[lv, ev] wr) (fun _ i _ => m - (intOf i).toNat)
  case atStart => exact ⟨0, Nat.zero_le _, rfl, OwnK.nil _ _ _ _, S0.out⟩
  case round =>
    obtain ⟨k, hk, rfl, hown, hs⟩ := hrel
    have HOW := Lib.hid hown
    have S1 := Lib.hid hs
    have HXL := Lib.hid (HLE.out k hk)
    have HC0 := Lib.hid (hs.t.cell 0)
    clear hown hs
    by_cases hlt : k < m
    case neg =>
      obtain rfl : k = m := by omega
      go_wp2_with (first
        | ((with_reducible refine at_load (.tmp 11) ?_); refine wpList_load_1 23 (.tmp 11) rfl w.heap.size 0 (.slice a k cap) HC0.out rfl _ Try.underlying23 rfl rfl ?_))
      go_ret
      exact ⟨_, rfl, HOW.out.lower (by omega), S1.out.b⟩
    have hlt' : (k : Int) < m := by omega
    have hkn : k < ns.length := by rw [hm.out]; exact hlt
    have HNX := Lib.hid (HSU.out k hkn)
    obtain ⟨b, off, rfl, hlm, hbb, hna, hdk⟩ := HN.out.elem hkn
    obtain ⟨x, hx⟩ : ∃ x, ns[k] = x := ⟨_, rfl⟩
    rw [hx] at hna hdk HNX
    have HRK := hdk.1.2.2.2.1
    have HST := Lib.hid hna.st
    have HRT := Lib.hid hna.bk.root
    have HST1 := Lib.hid ((S1.out.b.cell (p := ⟨b, off + k * 240 + 239, none⟩) hbb).trans HST.out)
    have HWX := Lib.hid (fun u rv hu hr => HWE.out x.b.root u rv hu hr)
    have HDV : Hid (dirV vs es bs x = if x.st = 2 then 0 else weiN vs es bs [x.b.root]) := rfl
    obtain ⟨dv, hdv⟩ : ∃ z, dirV vs es bs x = z := ⟨_, rfl⟩
    obtain ⟨st, hst⟩ : ∃ z, x.st = z := ⟨_, rfl⟩
    obtain ⟨wn, hwn⟩ : ∃ z, weiN vs es bs [x.b.root] = z := ⟨_, rfl⟩
    have HBS := Lib.hid (fun u => bs_root HRK u)
    have HOR := Lib.hid (fun u => one_roots HRK u)
    have hRl := bytesL_len HRK
    obtain ⟨R, hR⟩ : ∃ R, bytesL x.b.root = R := ⟨_, rfl⟩
    rw [hdv, hst, hwn] at HDV
    rw [hdv] at HNX
    rw [hst] at HST1
    rw [hwn] at HWX
    rw [hR] at HRT HBS HOR hRl
    have HRL := Lib.hid hRl
    clear hlm hna hdk hx hdv hst hwn HST hR hRl HRK
    by_cases h2 : st = 2
    · subst h2
      have HZ : Hid (dv = 0) := by show _ = _; rw [HDV.out, if_pos rfl]
      go_wp2_with (first
        | ((with_reducible refine at_load (.tmp 11) ?_); refine wpList_load_1 23 (.tmp 11) rfl w.heap.size 0 (.slice (some ⟨b, off, none⟩) m cap) HC0.out rfl _ Try.underlying23 rfl rfl ?_)
        | ((with_reducible refine at_load (.tmp 17) ?_); refine wpList_load_1 23 (.tmp 17) rfl w.heap.size 0 (.slice (some ⟨b, off, none⟩) m cap) HC0.out rfl _ Try.underlying23 rfl rfl ?_)
        | ((with_reducible refine at_load (.tmp 21) ?_); refine wpList_load_1 3 (.tmp 21) rfl b (off + k * 240 + 239) (.int .i64 2) HST1.out rfl _ Try.underlying3 rfl rfl ?_)
        | ((with_reducible refine at_app (.tmp 35) (.tmp 37) ?_); refine wpList_app1 info_u64c (by omega) Try.underlying27 (.tmp 35) (.tmp 37) rfl rfl (w.heap.size + 2) _ _ rfl (HOW.out.grown (World.grownBy_alloc _ (.cells #[.int .u64 0] 53) none) (fun n _ => by simp)) wr.heap.size 1 0 rfl ((Blk.new rfl).cell 0) (by have := HXL.out; omega) (by have := S1.out.v.lt; simp; omega) ?_; intro v3 w3 h3 g3 o3; have HO3 := Lib.hid h3; have S3 := Lib.hid ((S1.out.call ((Below.refl wr.heap.size wr).alloc (Nat.le_refl _) (.cells #[.int .u64 0] 53))).grown g3 HOW.out.off2u); clear h3 g3 o3))
      go_roundw
      case rel => exact ⟨k + 1, by omega, by go_num, by rw [HNX.out, HZ.out]; exact HO3.out, S3.out⟩
      case measure => simp [intOf]; omega
    · have h2' : (st == 2) = false := by simp [h2]
      have HZ : Hid (dv = wn) := by show _ = _; rw [HDV.out, if_neg h2]
      go_wp2_with (first
        | ((with_reducible refine at_load (.tmp 11) ?_); refine wpList_load_1 23 (.tmp 11) rfl w.heap.size 0 (.slice (some ⟨b, off, none⟩) m cap) HC0.out rfl _ Try.underlying23 rfl rfl ?_)
        | ((with_reducible refine at_load (.tmp 17) ?_); refine wpList_load_1 23 (.tmp 17) rfl w.heap.size 0 (.slice (some ⟨b, off, none⟩) m cap) HC0.out rfl _ Try.underlying23 rfl rfl ?_)
        | ((with_reducible refine at_load (.tmp 21) ?_); refine wpList_load_1 3 (.tmp 21) rfl b (off + k * 240 + 239) (.int .i64 st) HST1.out rfl _ Try.underlying3 rfl rfl ?_))
      have SD : Hid (PaD w #[.slice (some ⟨b, off, none⟩) m cap] #[lv, ev] wr.drew) := ⟨S1.out.t, S1.out.v, S1.out.b.drew⟩
      have HO1 : Hid (OwnK .u64 53 wr.drew (w.heap.size + 2) _ (dirL ns vs es bs k)) := HOW.out.call ⟨rfl, rfl, rfl, Nat.le_refl _, fun _ _ => rfl⟩
      have i24 : (Try.prog.info? 57).map (·.size) = some R.length := by rw [HRL.out]; kernel_rfl
      have hi2 : (Try.prog.info? 44).map (·.size) = some [lv, ev].length := by kernel_rfl
      refine wp_region_held_drew (S := fun z => PaD w #[.slice (some ⟨b, off, none⟩) m cap] #[lv, ev] z) (by kernel_rfl) (SD.out) (fun _ => ?_)
      (try simp only [Act.put, List.setIfInBounds_toArray, List.set_cons_zero, List.set_cons_succ])
      refine held_load (oi := ⟨some 24, _, _, _, _, _⟩) 0 rfl (by kernel_rfl) (by kernel_rfl) (by kernel_rfl) (fun _ _ _ _ h => h) rfl 44 (.tmp 4) rfl (w.heap.size + 1) 0 rfl [lv, ev] _ (fun u' hu => hu.v.range) Try.underlying44 rfl hi2 SD.out ?_
      (try simp only [Act.put, List.setIfInBounds_toArray, List.set_cons_zero, List.set_cons_succ])
      refine wpAnyH_take (i := 1) (oi := ⟨some 25, _, _, _, _, _⟩) (v := bv) rfl (by kernel_rfl) (by kernel_rfl) (by kernel_rfl) (fun _ _ _ h => h) (Or.inl ⟨by rfl, fun wz hz => ?_⟩) SD.out ?_
      · clear hz; go_simp; first | done | with_reducible rfl | rfl
      (try simp only [Act.put, List.setIfInBounds_toArray, List.set_cons_zero, List.set_cons_succ])
      refine wpAnyH_take (i := 2) (oi := ⟨some 26, _, _, _, _, _⟩) (v := .pointer (some ⟨w.heap.size, 0, none⟩)) rfl (by kernel_rfl) (by kernel_rfl) (by kernel_rfl) (fun _ _ _ h => h) (Or.inl ⟨by rfl, fun wz hz => ?_⟩) SD.out ?_
      · clear hz; go_simp; first | done | with_reducible rfl | rfl
      (try simp only [Act.put, List.setIfInBounds_toArray, List.set_cons_zero, List.set_cons_succ])
      refine held_load1 (oi := ⟨some 27, _, _, _, _, _⟩) 3 rfl (by kernel_rfl) (by kernel_rfl) (by kernel_rfl) (fun _ _ _ _ h => h) rfl 23 (.tmp 26) rfl w.heap.size (0) rfl (.slice (some ⟨b, off, none⟩) m cap) _ (fun u' hu => hu.t.cell 0) Try.underlying23 rfl SD.out ?_
      (try simp only [Act.put, List.setIfInBounds_toArray, List.set_cons_zero, List.set_cons_succ])
      refine wpAnyH_take (i := 4) (oi := ⟨some 28, _, _, _, _, _⟩) (v := .int .i64 k) rfl (by kernel_rfl) (by kernel_rfl) (by kernel_rfl) (fun _ _ _ h => h) (Or.inl ⟨by rfl, fun wz hz => ?_⟩) SD.out ?_
      · clear hz; go_simp; first | done | with_reducible rfl | rfl
      (try simp only [Act.put, List.setIfInBounds_toArray, List.set_cons_zero, List.set_cons_succ])
      refine wpAnyH_take (i := 5) (oi := ⟨some 29, _, _, _, _, _⟩) (v := .pointer (some ⟨b, off + k * 240, none⟩)) rfl (by kernel_rfl) (by kernel_rfl) (by kernel_rfl) (fun _ _ _ h => h) (Or.inl ⟨by rfl, fun wz hz => ?_⟩) SD.out ?_
      · clear hz; go_simp; first | done | with_reducible rfl | rfl
      (try simp only [Act.put, List.setIfInBounds_toArray, List.set_cons_zero, List.set_cons_succ])
      refine wpAnyH_take (i := 6) (oi := ⟨some 30, _, _, _, _, _⟩) (v := .pointer (some ⟨b, off + k * 240, none⟩)) rfl (by kernel_rfl) (by kernel_rfl) (by kernel_rfl) (fun _ _ _ h => h) (Or.inl ⟨by rfl, fun wz hz => ?_⟩) SD.out ?_
      · clear hz; go_simp; first | done | with_reducible rfl | rfl
      (try simp only [Act.put, List.setIfInBounds_toArray, List.set_cons_zero, List.set_cons_succ])
      refine wpAnyH_take (i := 7) (oi := ⟨some 31, _, _, _, _, _⟩) (v := .pointer (some ⟨b, off + k * 240 + 67, none⟩)) rfl (by kernel_rfl) (by kernel_rfl) (by kernel_rfl) (fun _ _ _ h => h) (Or.inl ⟨by rfl, fun wz hz => ?_⟩) SD.out ?_
      · clear hz; go_simp; first | done | with_reducible rfl | rfl
      (try simp only [Act.put, List.setIfInBounds_toArray, List.set_cons_zero, List.set_cons_succ])
      refine held_load (oi := ⟨some 32, _, _, _, _, _⟩) 8 rfl (by kernel_rfl) (by kernel_rfl) (by kernel_rfl) (fun _ _ _ _ h => h) rfl 57 (.tmp 31) rfl b (off + k * 240 + 67) rfl R _ (fun u' hu => Below.rng hu.b hbb HRT.out) Try.underlying57 rfl i24 SD.out ?_
      (try simp only [Act.put, List.setIfInBounds_toArray, List.set_cons_zero, List.set_cons_succ])
      refine wpAnyH_ready (rs := [9]) (by kernel_rfl) (by simp) ?_
      refine AllReadyH.cons (o := ⟨some 33, _, _, _, _, _⟩) rfl (fun K hK => ?_) AllReadyH.nil
      refine wp_buildSlice 89 1 _ rfl #[(0, .agg R.toArray)] (by simp [Act.eval, Act.put]) _ (HBS.out wr.drew) ?_
      have hal : Below wr.drew.heap.size wr.drew (wr.drew.alloc (.cells R.toArray 57)) := (Below.refl _ _).alloc (Nat.le_refl _) _
      have S2 := Lib.hid (SD.out.call hal)
      have HO2 := Lib.hid (HO1.out.call hal)
      have HOR2 := Lib.hid (HOR.out wr.drew)
      clear hal
      refine hK.out _ _ (S2.out) (fun _ => ?_)
      clear hK K
      (try simp only [Act.put, List.setIfInBounds_toArray, List.set_cons_zero, List.set_cons_succ])
      refine wpAnyH_ready (rs := [10]) (by kernel_rfl) (by simp) ?_
      refine AllReadyH.cons (o := ⟨some 34, _, _, _, _, _⟩) rfl (fun K hK => ?_) AllReadyH.nil
      go_simp
      refine (HWX.out _ _ S2.out.b HOR2.out).mono ?_
      rintro e w3 ⟨rfl, hb3⟩
      have S3 := Lib.hid (S2.out.call hb3)
      have HO3 := Lib.hid (HO2.out.call hb3)
      clear hb3
      refine hK.out _ _ (S3.out) (fun _ => ?_)
      clear hK K
      (try simp only [Act.put, List.setIfInBounds_toArray, List.set_cons_zero, List.set_cons_succ])
      refine wpAnyH_ready (rs := [11]) (by kernel_rfl) (by simp) ?_
      refine AllReadyH.cons (o := ⟨some 9, _, _, _, _, _⟩) rfl (fun K hK => ?_) AllReadyH.nil
      go_simp
      refine hK.out _ _ (S3.out) (fun _ => ?_)
      clear hK K
      (try simp only [Act.put, List.setIfInBounds_toArray, List.set_cons_zero, List.set_cons_succ])
      refine wpAnyH_done (by kernel_rfl) ?_ _
      go_wp2_with (first
        | ((with_reducible refine at_app (.tmp 35) (.tmp 37) ?_); refine wpList_app1 info_u64c (by omega) Try.underlying27 (.tmp 35) (.tmp 37) rfl rfl (w.heap.size + 2) _ _ rfl (HO3.out.grown (World.grownBy_alloc _ (.cells #[.int .u64 wn] 53) none) (fun n _ => by simp)) w3.heap.size 1 wn rfl ((Blk.new rfl).cell 0) (by have := HXL.out; omega) (by have := S3.out.v.lt; simp; omega) ?_; intro v4 w4 h4 g4 o4; have HO4 := Lib.hid h4; have S4 := Lib.hid ((S3.out.call ((Below.refl w3.heap.size w3).alloc (Nat.le_refl _) (.cells #[.int .u64 wn] 53))).grown g4 HO3.out.off2u); clear h4 g4 o4))
      go_roundw
      case rel => exact ⟨k + 1, by omega, by go_num, by rw [HNX.out, HZ.out]; exact HO4.out, S4.out⟩
      case measure => simp [intOf]; omega
end

end Go.Proofs.Ytdlbobpglgjhiaa
