/- Several texts as one: Pas, WeB, RgH, RgP. -/
import Derived.Test.YtcbjjafjomdklaaLt
import Derived.Test.YtcbjjafjomdklaaWeA
import Derived.Test.YtcbjjafjomdklaaCl
import Derived.Test.YtcbjjafjomdklaaZ2
import Derived.Test.YtcbjjafjomdklaaZ6
import Derived.Test.YtcbjjafjomdklaaZ3
import Derived.Test.YtcbjjafjomdklaaOwL
namespace Go.Proofs.Ytcbjjafjomdklaa

/-! Pas -/
section
set_option linter.unusedVariables false
set_option linter.unusedSimpArgs false
open Go.RowKit

/-- The tree's variable, and what was before. -/
structure PaS (w : World) (T : Array Value) (u : World) : Prop where
  t : Blk u w.heap.size T
  b : Below w.heap.size w u

theorem PaS.call {w u u' : World} {T : Array Value} (h : PaS w T u) (hb : Below u.heap.size u u') : PaS w T u' := ⟨h.t.call hb, h.b.trans (hb.mono h.b.size)⟩

theorem PaS.grown {w u u' : World} {T : Array Value} {row : Option Nat} (h : PaS w T u) (hg : u.grownBy u' row) (hr : ∀ j, row = some j → w.heap.size < j) : PaS w T u' := ⟨h.t.grown hg (fun e => by have := hr _ e.symm; omega), h.b.grown hg h.b.size (fun j hj => by have := hr j hj; omega)⟩

theorem pas_new (w : World) (T : Array Value) (t : TypeId) : PaS w T (w.alloc (.cells T t)) := ⟨Blk.new rfl, (Below.refl w.heap.size w).alloc (Nat.le_refl _) (.cells T t)⟩
end

/-! WeB -/
section
set_option linter.unusedVariables false
set_option linter.unusedSimpArgs false
open Go.RowKit

set_option maxRecDepth 100000

theorem NumsV.shapeW {w : World} {v : Value} {l : List Int} (h : NumsV w v l) : ∃ a k, v = .slice a l.length k ∧ l.length ≤ maxLen := by
  obtain ⟨⟨a, n, c, e, hl, hm, hr⟩, _⟩ := h
  cases e; subst hl
  exact ⟨a, c, rfl, hm⟩

theorem NumsV.elemW {w : World} {a : Option Addr} {n c : Nat} {l : List Int} (h : NumsV w (.slice a n c) l) {k : Nat} (hk : k < l.length) :
    ∃ b off, a = some ⟨b, off, none⟩ ∧ b < w.heap.size ∧ w.cell? ⟨b, off + k, none⟩ = some (.int .u64 (l.getD k 0)) := by
  obtain ⟨⟨a', n', c', e, hl, hm, hr⟩, _⟩ := h
  cases e
  rcases hr with h0 | ⟨b, off, rfl, hb, hc⟩
  · omega
  · exact ⟨b, off, rfl, hb, hc k (by omega)⟩

set_option maxHeartbeats 8000000 in
theorem weight_any (lv ev bv rv : Value) (vs : List VoD) (es bs : List Int) (rs : List (List Int)) (w : World) (hV : VotesV w lv vs) (hE : IntsV w ev es) (hB : NumsV w bv bs) (hR : RootsV w rv rs) :
    Calls Try.prog 33 #[.agg #[lv, ev], bv, rv] w fun e w' => e = .returned (.int .u64 (weiN vs es bs rs)) ∧ Below w.heap.size w w' := by
  obtain ⟨va, vc, rfl, hmx⟩ := hV.shape
  obtain ⟨ba, bc, rfl, hmb⟩ := NumsV.shapeW hB
  obtain ⟨ea, el, ec, rfl⟩ := ints_shape' hE.1
  unfold maxLen at hmx hmb
  have HV := Lib.hid hV
  have HBS := Lib.hid hB
  have HHAS := Lib.hid (fun (n : Int) u (hu : Below w.heap.size w u) => has_any _ es n u (hE.below hu))
  have HCON := Lib.hid (fun (r : List Int) u (hr : IsBytes 32 r) (hu : Below w.heap.size w u) => contains_rt _ rs r u (hR.call hu) hr)
  obtain ⟨m, hm⟩ : ∃ m, Hid (vs.length = m) := ⟨_, Lib.hid rfl⟩
  obtain ⟨p, hp⟩ : ∃ p, Hid (bs.length = p) := ⟨_, Lib.hid rfl⟩
  have HW : Hid (weiN vs es bs rs = weiK vs es bs rs (min p m)) := by show weiN vs es bs rs = _; rw [← hm.out, ← hp.out]; rfl
  rw [hm.out] at hmx HV ⊢
  rw [hp.out] at hmb HBS ⊢
  have hi2 : (Try.prog.info? 47).map (·.size) = some 2 := by kernel_rfl
  have S0 := Lib.hid (pas_new w #[.slice va m vc, .slice ea el ec] 47)
  clear hV hE hB hR
  go_enter Try.func33, Try.ntmps33
  go_wp2_with fail
  go_loopw [7, 8] (fun n i wr => ∃ k : Nat, k ≤ p ∧ k ≤ m ∧ i = .int .i64 k ∧ n = .int .u64 (weiK vs es bs rs k) ∧ PaS w #[.slice va m vc, .slice ea el ec] wr) (fun _ i _ => p - (intOf i).toNat)
  case atStart => exact ⟨0, Nat.zero_le _, Nat.zero_le _, rfl, rfl, S0.out⟩
  case round =>
    obtain ⟨k, hkp, hkm, rfl, rfl, hs⟩ := hrel
    have S1 := Lib.hid hs
    have HC0 := Lib.hid (hs.t.cell 0)
    have HC1 := Lib.hid (hs.t.cell 1)
    clear hs
    by_cases hlp : k < p
    case neg =>
      obtain rfl : k = p := by omega
      have hn1 : ¬ ((k : Int) < k) := by omega
      have HE : Hid (weiN vs es bs rs = weiK vs es bs rs k) := by show _ = _; rw [HW.out, Nat.min_eq_left hkm]
      go_wp2_with fail
      go_ret
      exact ⟨by rw [HE.out]; rfl, S1.out.b⟩
    have hlp' : (k : Int) < p := by omega
    by_cases hlm : k < m
    case neg =>
      obtain rfl : k = m := by omega
      have hn1 : ¬ ((k : Int) < k) := by omega
      have HE : Hid (weiN vs es bs rs = weiK vs es bs rs k) := by show _ = _; rw [HW.out, Nat.min_eq_right hkp]
      go_wp2_with (first
        | ((with_reducible refine at_load (.tmp 15) ?_); refine wpList_load_1 44 (.tmp 15) rfl w.heap.size 0 (.slice va k vc) HC0.out rfl _ Try.underlying44 rfl rfl ?_))
      go_ret
      exact ⟨by rw [HE.out]; rfl, S1.out.b⟩
    have hlm' : (k : Int) < m := by omega
    have hkv : k < vs.length := by rw [hm.out]; exact hlm
    obtain ⟨b, off, rfl, _hlv, hbb, hra, hok⟩ := HV.out.elem hkv
    obtain ⟨b2, off2, rfl, hbb2, hcb⟩ := NumsV.elemW HBS.out (by rw [hp.out]; exact hlp)
    have HDP : Hid (weiP vs es rs k = ((vs.getD k zeV).has && !decide ((k : Int) ∈ es) && decide ((vs.getD k zeV).r ∈ rs))) := rfl
    obtain ⟨d, hd⟩ : ∃ d, vs.getD k zeV = d := ⟨_, rfl⟩
    rw [hd] at hra hok HDP
    obtain ⟨dh, dn, dr⟩ := d
    obtain ⟨_hd0, _hd1, hdr⟩ := hok
    obtain ⟨L, hL⟩ : ∃ L, Hid (bytesL dr = L) := ⟨_, rfl⟩
    have HLL : Hid (L.length = 32) := by show _ = _; rw [← hL.out, bytesL_len hdr]
    have HRA := Lib.hid hra
    have HCH : Hid (w.cell? ⟨b, off + k * 34, none⟩ = some (.bool dh)) := hra 0 (.bool dh) rfl
    have HRT : Hid (w.rangeAt b (off + k * 34 + 2) L) := by
      intro j v hv
      have := hra (j + 2) v (by rw [← hL.out] at hv; exact hv)
      rw [show off + k * 34 + 2 + j = off + k * 34 + (j + 2) by omega]; exact this
    have hiR : (Try.prog.info? 28).map (·.size) = some L.length := by rw [HLL.out]; kernel_rfl
    have HCR := Lib.hid (fun u hu => HCON.out dr u hdr hu)
    have HHK := Lib.hid (fun u hu => HHAS.out (k : Int) u hu)
    rw [hL.out] at HCR
    obtain ⟨q, hq⟩ : ∃ q, decide ((k : Int) ∈ es) = q := ⟨_, rfl⟩
    obtain ⟨q2, hq2⟩ : ∃ q, decide (dr ∈ rs) = q := ⟨_, rfl⟩
    simp only at HDP
    rw [hq] at HHK HDP
    rw [hq2] at HCR HDP
    obtain ⟨x, hx⟩ : ∃ x, bs.getD k 0 = x := ⟨_, rfl⟩
    rw [hx] at hcb
    have HNY := Lib.hid (weiK_yes (vs := vs) (es := es) (bs := bs) (rs := rs) (k := k))
    have HNN := Lib.hid (weiK_no (vs := vs) (es := es) (bs := bs) (rs := rs) (k := k))
    rw [hx] at HNY
    obtain ⟨n, hn⟩ : ∃ n, Hid (weiK vs es bs rs k = n) := ⟨_, rfl⟩
    rw [hn.out] at HNY HNN ⊢
    have HCB := Lib.hid hcb
    have HH1 := Lib.hid ((S1.out.b.cell (p := ⟨b, off + k * 34, none⟩) hbb).trans HCH.out)
    clear hra hd hq hq2 hx hcb hdr _hlv _hd0 _hd1
    cases dh
    case false =>
      have HX : Hid (weiK vs es bs rs (k + 1) = n) := HNN.out (by rw [HDP.out]; rfl)
      go_wp2_with (first
        | ((with_reducible refine at_load (.tmp 15) ?_); refine wpList_load_1 44 (.tmp 15) rfl w.heap.size 0 (.slice (some ⟨b, off, none⟩) m vc) HC0.out rfl _ Try.underlying44 rfl rfl ?_)
        | ((with_reducible refine at_load (.tmp 22) ?_); refine wpList_load_1 44 (.tmp 22) rfl w.heap.size 0 (.slice (some ⟨b, off, none⟩) m vc) HC0.out rfl _ Try.underlying44 rfl rfl ?_)
        | ((with_reducible refine at_load (.tmp 26) ?_); refine wpList_load_1 4 (.tmp 26) rfl b (off + k * 34) (.bool false) HH1.out rfl _ Try.underlying4 rfl rfl ?_))
      go_roundw
      case rel => exact ⟨k + 1, by omega, by omega, by go_num, by rw [HX.out], S1.out⟩
      case measure => simp [intOf]; omega
    case true =>
      cases q
      case true =>
        have HX : Hid (weiK vs es bs rs (k + 1) = n) := HNN.out (by rw [HDP.out]; rfl)
        go_wp2_with (first
          | ((with_reducible refine at_load (.tmp 15) ?_); refine wpList_load_1 44 (.tmp 15) rfl w.heap.size 0 (.slice (some ⟨b, off, none⟩) m vc) HC0.out rfl _ Try.underlying44 rfl rfl ?_)
          | ((with_reducible refine at_load (.tmp 22) ?_); refine wpList_load_1 44 (.tmp 22) rfl w.heap.size 0 (.slice (some ⟨b, off, none⟩) m vc) HC0.out rfl _ Try.underlying44 rfl rfl ?_)
          | ((with_reducible refine at_load (.tmp 26) ?_); refine wpList_load_1 4 (.tmp 26) rfl b (off + k * 34) (.bool true) HH1.out rfl _ Try.underlying4 rfl rfl ?_)
          | ((with_reducible refine at_load (.tmp 29) ?_); refine wpList_load_1 45 (.tmp 29) rfl w.heap.size 1 (.slice ea el ec) HC1.out rfl _ Try.underlying45 rfl rfl ?_)
          | (go_at_call 46; refine (HHK.out _ S1.out.b).mono ?_; rintro e w2 ⟨rfl, hb2⟩; have S2 := Lib.hid (S1.out.call hb2); clear hb2))
        go_roundw
        case rel => exact ⟨k + 1, by omega, by omega, by go_num, by rw [HX.out], S2.out⟩
        case measure => simp [intOf]; omega
      case false =>
        cases q2
        case false =>
          have HX : Hid (weiK vs es bs rs (k + 1) = n) := HNN.out (by rw [HDP.out]; rfl)
          go_wp2_with (first
            | ((with_reducible refine at_load (.tmp 15) ?_); refine wpList_load_1 44 (.tmp 15) rfl w.heap.size 0 (.slice (some ⟨b, off, none⟩) m vc) HC0.out rfl _ Try.underlying44 rfl rfl ?_)
            | ((with_reducible refine at_load (.tmp 22) ?_); refine wpList_load_1 44 (.tmp 22) rfl w.heap.size 0 (.slice (some ⟨b, off, none⟩) m vc) HC0.out rfl _ Try.underlying44 rfl rfl ?_)
            | ((with_reducible refine at_load (.tmp 26) ?_); refine wpList_load_1 4 (.tmp 26) rfl b (off + k * 34) (.bool true) HH1.out rfl _ Try.underlying4 rfl rfl ?_)
            | ((with_reducible refine at_load (.tmp 29) ?_); refine wpList_load_1 45 (.tmp 29) rfl w.heap.size 1 (.slice ea el ec) HC1.out rfl _ Try.underlying45 rfl rfl ?_)
            | ((with_reducible refine at_load (.tmp 37) ?_); refine wpList_load_1 44 (.tmp 37) rfl w.heap.size 0 (.slice (some ⟨b, off, none⟩) m vc) (S2.out.t.cell 0) rfl _ Try.underlying44 rfl rfl ?_)
            | ((with_reducible refine at_load (.tmp 41) ?_); refine wpList_load_rng 28 (.tmp 41) rfl b (off + k * 34 + 2) L HR2.out rfl _ Try.underlying28 rfl hiR rfl ?_)
            | (go_at_call 46; refine (HHK.out _ S1.out.b).mono ?_; rintro e w2 ⟨rfl, hb2⟩; have S2 := Lib.hid (S1.out.call hb2); have HR2 := Lib.hid (Below.rng S2.out.b hbb HRT.out); clear hb2)
            | (go_at_call 47; refine (HCR.out _ S2.out.b).mono ?_; rintro e w3 ⟨rfl, hb3⟩; have S3 := Lib.hid (S2.out.call hb3); clear hb3))
          go_roundw
          case rel => exact ⟨k + 1, by omega, by omega, by go_num, by rw [HX.out], S3.out⟩
          case measure => simp [intOf]; omega
        case true =>
          have HX : Hid (weiK vs es bs rs (k + 1) = IntKind.u64.wrap (n + x)) := HNY.out (by rw [HDP.out]; rfl)
          go_wp2_with (first
            | ((with_reducible refine at_load (.tmp 15) ?_); refine wpList_load_1 44 (.tmp 15) rfl w.heap.size 0 (.slice (some ⟨b, off, none⟩) m vc) HC0.out rfl _ Try.underlying44 rfl rfl ?_)
            | ((with_reducible refine at_load (.tmp 22) ?_); refine wpList_load_1 44 (.tmp 22) rfl w.heap.size 0 (.slice (some ⟨b, off, none⟩) m vc) HC0.out rfl _ Try.underlying44 rfl rfl ?_)
            | ((with_reducible refine at_load (.tmp 26) ?_); refine wpList_load_1 4 (.tmp 26) rfl b (off + k * 34) (.bool true) HH1.out rfl _ Try.underlying4 rfl rfl ?_)
            | ((with_reducible refine at_load (.tmp 29) ?_); refine wpList_load_1 45 (.tmp 29) rfl w.heap.size 1 (.slice ea el ec) HC1.out rfl _ Try.underlying45 rfl rfl ?_)
            | ((with_reducible refine at_load (.tmp 37) ?_); refine wpList_load_1 44 (.tmp 37) rfl w.heap.size 0 (.slice (some ⟨b, off, none⟩) m vc) (S2.out.t.cell 0) rfl _ Try.underlying44 rfl rfl ?_)
            | ((with_reducible refine at_load (.tmp 41) ?_); refine wpList_load_rng 28 (.tmp 41) rfl b (off + k * 34 + 2) L HR2.out rfl _ Try.underlying28 rfl hiR rfl ?_)
            | ((with_reducible refine at_load (.tmp 48) ?_); refine wpList_load_1 22 (.tmp 48) rfl b2 (off2 + k) (.int .u64 x) HB3.out rfl _ Try.underlying22 rfl rfl ?_)
            | (go_at_call 46; refine (HHK.out _ S1.out.b).mono ?_; rintro e w2 ⟨rfl, hb2⟩; have S2 := Lib.hid (S1.out.call hb2); have HR2 := Lib.hid (Below.rng S2.out.b hbb HRT.out); clear hb2)
            | (go_at_call 47; refine (HCR.out _ S2.out.b).mono ?_; rintro e w3 ⟨rfl, hb3⟩; have S3 := Lib.hid (S2.out.call hb3); have HB3 := Lib.hid ((S3.out.b.cell (p := ⟨b2, off2 + k, none⟩) hbb2).trans HCB.out); clear hb3))
          go_roundw
          case rel => exact ⟨k + 1, by omega, by omega, by go_num, by rw [HX.out], S3.out⟩
          case measure => simp [intOf]; omega
end

/-! RgH -/
section
set_option linter.unusedVariables false
set_option linter.unusedSimpArgs false
open Go.RowKit Go.Maps

set_option maxRecDepth 100000

theorem build_cp0 (n : Int) (u : World) : (Instr.build 34 #[(0, .int .u64 n)]).run Try.prog u = .ok (cpX ⟨n, zeroR⟩) u := by
  refine build_struct (zero := flatP [[.int .u64 0], bytesL zeroR]) (fun w => by kernel_rfl) Try.underlying34 (places := #[(0, 1), (1, 32)]) (fun w => by kernel_rfl) ?_ u
  show Instr.fill _ (flatP [[.int .u64 0], bytesL zeroR]) [(0, .int .u64 n)] = _
  rw [fill_part 0 [.int .u64 0] [.int .u64 n] rfl rfl rfl rfl rfl]
  unfold Instr.fill
  simp [flatP, CpD.cells]

theorem size_root (w : World) : (sizeOf 28).run Try.prog w = .ok 32 w := Try.sizeOf28 w

/-- What one table gives. -/
theorem tab_data {w : World} {lo hi : Nat} {ra : RgA} {n lim : Int} {vs : List VoD} {gs : List Bool} {E : List TeD} {ds : List (CpD × List Int)} (hR : RgI w lo hi ra n lim vs gs E) (hm : Match E ds) {d : CpD × List Int} (hd : d ∈ ds) (rs : List (List Int)) :
    weiN vs (memS gs) d.2 rs = wsK vs gs (tlst E d.1) rs vs.length := by
  have hl := hm.lst (ents_nodup hR.book) hd
  have hb := hR.bal d.1
  have hn : (d.2.length : Int) = n := by
    obtain ⟨e, he, rfl⟩ := List.mem_map.1 (hm.perm.mem_iff.2 hd)
    exact (hR.book.rows e he).2.1
  have h1 := hR.nv
  have h2 := hR.ng
  rw [hl] at hb ⊢
  exact weiN_ws (by omega) hb.1 hb.2 (by omega)

/-- What holds in the law's loops. -/
structure WsI (w : World) (g : Nat) (lv ev : Value) (rs : List (List Int)) (u : World) : Prop where
  b : Below w.heap.size w u
  x : Blk u w.heap.size #[lv, ev]
  r : RootsV u (.slice (some ⟨g, 0, none⟩) rs.length rs.length) rs

theorem WsI.call {w u u' : World} {g : Nat} {lv ev : Value} {rs : List (List Int)} (h : WsI w g lv ev rs u) (hb : Below u.heap.size u u') : WsI w g lv ev rs u' := ⟨h.b.trans (hb.mono h.b.size), h.x.call hb, h.r.call hb⟩

set_option maxHeartbeats 16000000 in
theorem weighs_any (lo hi : Nat) (ra : RgA) (n lim : Int) (vs : List VoD) (gs : List Bool) (E : List TeD) (ds : List (CpD × List Int)) (lv ev tv : Value) (w : World) (hR : RgI w lo hi ra n lim vs gs E) (hm : Match E ds) (hE : E.length ≤ 1000) (hV : VotesV w lv vs) (hI : IntsV w ev (memS gs)) (hT : TabsV w tv ds) (h77 : tlst E ⟨77, zeroR⟩ = []) :
    Calls Try.prog 18 #[.pointer (some ⟨ra.b, 0, none⟩), .agg #[lv, ev], tv] w fun e w' => e = .returned (.bool true) ∧ Below w.heap.size w w' := by
  obtain ⟨la, lc, rfl, _⟩ := hV.shape
  obtain ⟨ea, en, ec, rfl⟩ := ints_shape' hI.1
  obtain ⟨ta, tc, rfl, hmt⟩ := hT.shape
  unfold maxLen at hmt
  have HRG := Lib.hid hR
  have HV := Lib.hid hV
  have HI := Lib.hid hI
  have HT := Lib.hid hT
  have HTD := Lib.hid (fun (d : CpD × List Int) (hd : d ∈ ds) rs => tab_data hR hm hd rs)
  have HWG := Lib.hid (fun (c : CpD) (rv : Value) (rs : List (List Int)) u (hu : Below w.heap.size w u) (hc : c.ok) (hV : RootsV u rv rs) => wgt_any lo hi ra n lim vs gs E c rv rs u (hR.call hu) hc hV)
  unfold cpX at HWG
  have HWT := Lib.hid (fun (bv rv : Value) (bs : List Int) (rs : List (List Int)) u (hu : Below w.heap.size w u) (hB : NumsV u bv bs) (hr : RootsV u rv rs) => weight_any _ _ bv rv vs (memS gs) bs rs u (ElV.below voOK hV hu) (hI.call hu) hB hr)
  obtain ⟨r1, h1⟩ : ∃ r, rootK 1 = r := ⟨_, rfl⟩
  obtain ⟨r2, h2⟩ : ∃ r, rootK 2 = r := ⟨_, rfl⟩
  obtain ⟨r3, h3⟩ : ∃ r, rootK 3 = r := ⟨_, rfl⟩
  have HK1 : Hid (∀ u, Calls Try.prog 10 #[.int .i64 1] u fun e w' => e = .returned (.agg (bytesL r1).toArray) ∧ Below u.heap.size u w') := fun u => by rw [← h1]; exact root_k 1 u
  have HK2 : Hid (∀ u, Calls Try.prog 10 #[.int .i64 2] u fun e w' => e = .returned (.agg (bytesL r2).toArray) ∧ Below u.heap.size u w') := fun u => by rw [← h2]; exact root_k 2 u
  have HK3 : Hid (∀ u, Calls Try.prog 10 #[.int .i64 3] u fun e w' => e = .returned (.agg (bytesL r3).toArray) ∧ Below u.heap.size u w') := fun u => by rw [← h3]; exact root_k 3 u
  have HIS : Hid (∀ r ∈ [r1, r2, r3, r2], IsBytes 32 r) := by
    intro r hr
    simp only [List.mem_cons, List.not_mem_nil, or_false] at hr
    rcases hr with rfl | rfl | rfl | rfl
    · rw [← h1]; exact rootK_is 1
    · rw [← h2]; exact rootK_is 2
    · rw [← h3]; exact rootK_is 3
    · rw [← h2]; exact rootK_is 2
  have HBS := Lib.hid (fun u => bs_roots HIS.out (by simp) (by simp) u)
  have HNR := Lib.hid (fun u => new_roots HIS.out (by simp) u)
  obtain ⟨CC, hCC⟩ : ∃ CC, Hid (rowsL (rtX [r1, r2, r3, r2]) = CC) := ⟨_, Lib.hid rfl⟩
  rw [hCC.out] at HBS HNR
  have HPS : Hid ((prtN 0 (rtX [r1, r2, r3, r2])).toArray = #[(0, .agg (bytesL r1).toArray), (1, .agg (bytesL r2).toArray), (2, .agg (bytesL r3).toArray), (3, .agg (bytesL r2).toArray)]) := rfl
  rw [HPS.out] at HBS
  obtain ⟨X1, hX1⟩ : ∃ X, Hid ((bytesL r1).toArray = X) := ⟨_, Lib.hid rfl⟩
  obtain ⟨X2, hX2⟩ : ∃ X, Hid ((bytesL r2).toArray = X) := ⟨_, Lib.hid rfl⟩
  obtain ⟨X3, hX3⟩ : ∃ X, Hid ((bytesL r3).toArray = X) := ⟨_, Lib.hid rfl⟩
  rw [hX1.out] at HK1 HBS
  rw [hX2.out] at HK2 HBS
  rw [hX3.out] at HK3 HBS
  have HSL := Lib.hid (fun (g k : Nat) (hk : k ≤ 4) u => runSlHi Try.underlying93 (by kernel_rfl) size_root (some ⟨g, 0, none⟩) 4 4 k hk u)
  have H77 := Lib.hid h77
  have HB77 := Lib.hid (fun u => build_cp0 77 u)
  unfold cpX at HB77
  obtain ⟨Z77, hZ77⟩ : ∃ Z, Hid ((CpD.mk 77 zeroR).cells.toArray = Z) := ⟨_, Lib.hid rfl⟩
  rw [hZ77.out] at HB77
  have hi2 : (Try.prog.info? 47).map (·.size) = some [Value.slice la vs.length lc, .slice ea en ec].length := by kernel_rfl
  have HBA := Lib.hid ((Below.refl w.heap.size w).alloc (Nat.le_refl _) (.cells #[.slice la vs.length lc, .slice ea en ec] 47))
  have HBX : Hid (Blk (w.alloc (.cells #[.slice la vs.length lc, .slice ea en ec] 47)) w.heap.size #[.slice la vs.length lc, .slice ea en ec]) := Blk.new rfl
  obtain ⟨m, hmm⟩ : ∃ m, Hid (ds.length = m) := ⟨_, Lib.hid rfl⟩
  rw [hmm.out] at hmt HT ⊢
  clear hR hm hE hV hI hT h77 h1 h2 h3
  go_enter Try.func18, Try.ntmps18
  go_wp2_with (first
    | (go_at_call_of 10 (Value.int IntKind.i64 1); refine (HK1.out _).mono ?_; rintro e w1 ⟨rfl, hb1⟩; have HBX1 := Lib.hid (HBX.out.call hb1); have HB1 := Lib.hid (HBA.out.trans (hb1.mono HBA.out.size)); clear hb1)
    | (go_at_call_of 10 (Value.int IntKind.i64 3); refine (HK3.out _).mono ?_; rintro e w3 ⟨rfl, hb3⟩; have HBX3 := Lib.hid (HBX2.out.call hb3); have HB3 := Lib.hid (HB2.out.trans (hb3.mono HB2.out.size)); clear hb3)
    | (go_at_call_of 10 (Value.int IntKind.i64 2); have _d := HB3.out; refine (HK2.out _).mono ?_; rintro e w4 ⟨rfl, hb4⟩; have HBX4 := Lib.hid (HBX3.out.call hb4); have HB4 := Lib.hid (HB3.out.trans (hb4.mono HB3.out.size)); clear hb4 _d)
    | (go_at_call_of 10 (Value.int IntKind.i64 2); refine (HK2.out _).mono ?_; rintro e w2 ⟨rfl, hb2⟩; have HBX2 := Lib.hid (HBX1.out.call hb2); have HB2 := Lib.hid (HB1.out.trans (hb2.mono HB1.out.size)); clear hb2)
    | ((with_reducible refine at_buildSliceE (some 14) ?_); refine wpList_buildSliceE rfl 93 4 _ rfl #[(0, .agg X1), (1, .agg X2), (2, .agg X3), (3, .agg X2)] (by simp [Act.eval, Act.put]) _ (HBS.out _) ?_; have HW0 : Hid (WsI w w4.heap.size (.slice la vs.length lc) (.slice ea en ec) [r1, r2, r3, r2] (w4.alloc (.cells CC.toArray 28))) := ⟨HB4.out.alloc HB4.out.size _, HBX4.out.alloc _, HNR.out w4⟩))
  go_loopw [8] (fun i wr => ∃ k : Nat, k ≤ m ∧ i = .int .i64 k ∧ WsI w w4.heap.size (.slice la vs.length lc) (.slice ea en ec) [r1, r2, r3, r2] wr) (fun i _ => m - (intOf i).toNat)
  case atStart => exact ⟨0, Nat.zero_le _, rfl, HW0.out⟩
  case round =>
    obtain ⟨k, hk, rfl, hW⟩ := hrel
    have HW := Lib.hid hW
    clear hW HW0
    by_cases hlt : k < m
    case neg =>
      obtain rfl : k = m := by omega
      go_wp2_with (first
        | ((with_reducible refine at_build (some 49) ?_); refine wpList_build rfl 34 _ rfl #[(0, .int .u64 77)] (by simp [Act.eval]) (.agg Z77) (HB77.out _) ?_)
        | (go_at_call 19; have hwg := HWG.out ⟨77, zeroR⟩ _ _ wr HW.out.b ⟨by show (0 : Int) ≤ 77; omega, by show (77 : Int) ≤ _; omega, zeroR_is⟩ HW.out.r; rw [hZ77.out, H77.out, wsK_none] at hwg; refine hwg.mono ?_; rintro e w9 ⟨rfl, hb9⟩; have HB9 := Lib.hid (HW.out.b.trans (hb9.mono HW.out.b.size)); clear hwg hb9))
      go_ret
      exact ⟨rfl, HB9.out⟩
    have hlt' : (k : Int) < m := by omega
    have hkn : k < ds.length := by rw [hmm.out]; exact hlt
    obtain ⟨tb, toff, bx, bn, by', rfl, _hlm, hbb, hra, hok, hnv⟩ := TabsV.elem HT.out hkn
    have HDW := Lib.hid (fun rs => HTD.out ds[k] (List.getElem_mem hkn) rs)
    obtain ⟨d, hd⟩ : ∃ d, Hid (ds[k] = d) := ⟨_, Lib.hid rfl⟩
    rw [hd.out] at hra hok hnv HDW
    obtain ⟨c, bl⟩ := d
    have HCK := Lib.hid hok
    have HRA := Lib.hid (And.intro hbb hra)
    have HNV := Lib.hid hnv
    have hiC : (Try.prog.info? 34).map (·.size) = some c.cells.length := by rw [CpD.len hok]; kernel_rfl
    clear _hlm hra hok hnv hbb
    go_wp2_with fail
    go_loopw [9] (fun j wr2 => ∃ q : Nat, q ≤ 5 ∧ j = .int .i64 q ∧ WsI w w4.heap.size (.slice la vs.length lc) (.slice ea en ec) [r1, r2, r3, r2] wr2) (fun j _ => 5 - (intOf j).toNat)
    case atStart => exact ⟨0, by omega, rfl, HW.out⟩
    case round =>
      obtain ⟨q, hq, rfl, hW2⟩ := hrel
      have HW2 := Lib.hid hW2
      clear hW2 HW
      by_cases hq4 : q ≤ 4
      case neg =>
        obtain rfl : q = 5 := by omega
        go_wp2_with fail
        go_roundw
        case rel => exact ⟨k + 1, by omega, by go_num, HW2.out⟩
        case measure => simp [intOf]; omega
      have hq4' : (q : Int) ≤ 4 := by omega
      obtain ⟨x0, hx0⟩ : ∃ x0, Hid (wsK vs gs (tlst E c) ([r1, r2, r3, r2].take q) vs.length = x0) := ⟨_, Lib.hid rfl⟩
      have HXD : Hid (weiN vs (memS gs) bl ([r1, r2, r3, r2].take q) = x0) := (HDW.out _).trans hx0.out
      have HSQ := Lib.hid (HSL.out w4.heap.size q hq4)
      have hxx : (x0 != x0) = false := by simp
      go_wp2_with fail
      refine wp_region_fam2 (by kernel_rfl) (by kernel_rfl) ?_
      intro T F hT hF hG
      have CW := Lib.hid (fun t => HW2.out.call (hF t))
      have CCP := Lib.hid (show ∀ u, (∃ t, u = F t) → u.rangeAt tb (toff + k * 34) c.cells by rintro _ ⟨t, rfl⟩; exact Below.rng (CW.out t).b HRA.out.1 (elem_cp HRA.out.2))
      have cv : ∀ t, (F t).cell? ⟨tb, toff + k * 34 + 33, none⟩ = some (.slice bx bn by') := fun t => elem_v HCK.out (Below.rng (CW.out t).b HRA.out.1 HRA.out.2)
      have CX := Lib.hid (show ∀ u, (∃ t, u = F t) → Blk u w.heap.size #[.slice la vs.length lc, .slice ea en ec] by rintro _ ⟨t, rfl⟩; exact (CW.out t).x)
      have C1 := Lib.hid (fun t => HWG.out c (.slice (some ⟨w4.heap.size, 0, none⟩) q 4) ([r1, r2, r3, r2].take q) (F t) (CW.out t).b HCK.out ((CW.out t).r.slTake hq4))
      rw [hx0.out] at C1
      have C2 := Lib.hid (fun t => HWT.out (.slice bx bn by') (.slice (some ⟨w4.heap.size, 0, none⟩) q 4) bl ([r1, r2, r3, r2].take q) (F t) (CW.out t).b (NumsV.below HNV.out (CW.out t).b) ((CW.out t).r.slTake hq4))
      rw [HXD.out] at C2
      repeat (first
        | ((with_reducible refine at_qload (.tmp 31) ?_); refine wpQuiet_load_midE 34 _ rfl tb (toff + k * 34) (by simp [Act.eval]) c.cells CCP.out Try.underlying34 rfl hiC (by kernel_rfl) ?_; simp only [Act.put, List.setIfInBounds_toArray, List.set_cons_succ, List.set_cons_zero])
        | ((with_reducible refine at_qload (.tmp 4) ?_); refine wpQuiet_load 47 _ rfl w.heap.size rfl #[.slice la vs.length lc, .slice ea en ec] CX.out Try.underlying47 rfl hi2 (by kernel_rfl) ?_; simp only [Act.put, List.setIfInBounds_toArray, List.set_cons_succ, List.set_cons_zero])
        | ((with_reducible refine at_qslice (some 35) ?_); refine wpQuiet_slice 93 _ _ _ _ rfl (.slice (some ⟨w4.heap.size, 0, none⟩) 4 4) none (some (.int .i64 q)) none (by simp [Act.eval]) rfl (by simp [Act.eval]) rfl (.slice (some ⟨w4.heap.size, 0, none⟩) q 4) HSQ.out (by kernel_rfl) ?_; simp only [Act.put, List.setIfInBounds_toArray, List.set_cons_succ, List.set_cons_zero])
        | ((with_reducible refine at_qslice (some 45) ?_); refine wpQuiet_slice 93 _ _ _ _ rfl (.slice (some ⟨w4.heap.size, 0, none⟩) 4 4) none (some (.int .i64 q)) none (by simp [Act.eval]) rfl (by simp [Act.eval]) rfl (.slice (some ⟨w4.heap.size, 0, none⟩) q 4) HSQ.out (by kernel_rfl) ?_; simp only [Act.put, List.setIfInBounds_toArray, List.set_cons_succ, List.set_cons_zero])
        | (go_big_quiet_step ((first | (go_at_call 19; exact fam_call hF hG (Nat.le_refl _) (C1.out _)) | (go_at_call 33; exact fam_call hF hG (Nat.le_refl _) (C2.out _))))))
      refine wpQuiet_nil ?_
      rintro _ ⟨t, rfl⟩
      have HW3 := Lib.hid (CW.out t)
      obtain ⟨u, hu⟩ : ∃ u, F t = u := ⟨_, rfl⟩
      rw [hu] at HW3 ⊢
      clear CW CCP cv CX C1 C2 hG hu hF hT HW2
      clear t F T
      go_wp2_with fail
      go_roundw
      case rel => exact ⟨q + 1, by omega, by go_num, HW3.out⟩
      case measure => simp [intOf]; omega
end

/-! RgP -/
section
set_option linter.unusedVariables false
set_option linter.unusedSimpArgs false
open Go.RowKit Go.Maps

set_option maxRecDepth 100000

/-- Off whatever may turn. -/
def Safe (lo hi : Nat) (v : Value) : Prop := ∀ g, lo ≤ g → g < hi → Off g v

theorem New.safe {lo hi N : Nat} {v : Value} (h : New N v) (hn : hi ≤ N) : Safe lo hi v := fun g _ hg => h.off (by omega)

theorem TabsCN.newG {lo hi g : Nat} {w w' : World} {v : Value} {ds : List (CpD × List Int)} (h : TabsCN (Safe lo hi) w v ds) (hn : New hi v) (hg : w.grownBy w' (some g)) (hgl : lo ≤ g) (hgN : g < hi) : TabsCN (Safe lo hi) w' v ds := by
  obtain ⟨⟨a, cap, rfl, hl, hr⟩, hs⟩ := h
  refine ⟨⟨a, cap, rfl, hl, ?_⟩, hs⟩
  rcases hr with h0 | ⟨b', off, rfl, hlt, Xs, h1, h2⟩
  · exact .inl h0
  by_cases h0 : ds.length = 0
  · exact .inl h0
  have hne : some b' ≠ some g := fun e => hn.off hgN _ _ _ rfl (by omega) (by cases e; rfl)
  refine .inr ⟨b', off, rfl, Nat.lt_of_lt_of_le hlt hg.size, Xs, fun j u hj => by rw [hg.cell_far ⟨b', off + j, none⟩ hlt hne]; exact h1 j u hj, h2.imp fun X d hX => ?_⟩
  have hE := tabOKP (Safe lo hi) False
  have hX' : TabElP (Safe lo hi) False (Off g) w X d := by
    obtain ⟨hc, a', n, k, e, h1, h2, h3, h4⟩ := hX
    exact ⟨hc, a', n, k, e, h1, h2, h3, h2 g hgl hgN⟩
  exact hE.mono (hE.grown hX' hg fun g y e hy => by cases e; exact hy) fun _ _ => trivial

/-- A block of two slices is no part of what else is held. -/
theorem ints_offS {k : IntKind} {w : World} {v : Value} {l : List Int} {b : Nat} {a1 a2 : Option Addr} {n1 c1 n2 c2 : Nat} (h : Ints k w v l) (hB : Blk w b #[.slice a1 n1 c1, .slice a2 n2 c2]) : Off b v := by
  obtain ⟨a, n, c, rfl, hl, _, hr⟩ := h
  intro z l' c' e h0 hb
  cases e
  rcases hr with h' | ⟨b', off, e', hlt, hc⟩
  · omega
  cases e'
  simp only at hb
  subst hb
  have h1 := hc 0 (by omega)
  rw [hB.cell] at h1
  rcases off with _ | _ | off
  · simp at h1
  · simp at h1
  · rw [Array.getElem?_eq_none (by simp)] at h1; cases h1

theorem tabs_updS {Q : Value → Prop} {w w' : World} {v : Value} {ds : List (CpD × List Int)} {b : Nat} {a1 a2 : Option Addr} {n1 c1 n2 c2 : Nat} (h : TabsCN Q w v ds) (hB : Blk w b #[.slice a1 n1 c1, .slice a2 n2 c2]) (U : Upd b w w') : TabsCN Q w' v ds := by
  have ho := elv_offZ (tabOKP _ _) h.1 hB (by show 2 < 34; omega)
  have hg := upd_grown U
  obtain ⟨⟨a, cap, rfl, hl, hr⟩, hs⟩ := h
  refine ⟨⟨a, cap, rfl, hl, ?_⟩, hs⟩
  rcases hr with h0 | ⟨b', off, rfl, hlt, Xs, h1, h2⟩
  · exact .inl h0
  by_cases h0 : ds.length = 0
  · exact .inl h0
  have hne : some b' ≠ some b := fun e => ho _ _ _ rfl (by omega) (by cases e; rfl)
  refine .inr ⟨b', off, rfl, Nat.lt_of_lt_of_le hlt hg.size, Xs, fun j u hj => by rw [hg.cell_far ⟨b', off + j, none⟩ hlt hne]; exact h1 j u hj, h2.imp fun X d hX => ?_⟩
  have hE := tabOKP Q False
  have hX' : TabElP Q False (Off b) w X d := by
    obtain ⟨hc, a', n, k, e, h1, h2, h3, h4⟩ := hX
    exact ⟨hc, a', n, k, e, h1, h2, h3, ints_offS h1.1 hB⟩
  exact hE.mono (hE.grown hX' hg fun g y e hy => by cases e; exact hy) fun _ _ => trivial

theorem blk_ne {w : World} {b b' : Nat} {cs cs' : Array Value} (h : Blk w b cs) (h' : Blk w b' cs') (hs : cs.size ≠ cs'.size) : b ≠ b' := fun e => by
  subst e
  apply hs
  have e : ∀ i : Nat, cs[i]? = cs'[i]? := fun i => by rw [← h.cell i, ← h'.cell i]
  rcases Nat.lt_trichotomy cs.size cs'.size with hl | hl | hl
  · have := e cs.size
    rw [Array.getElem?_eq_none (Nat.le_refl _), Array.getElem?_eq_getElem hl] at this; cases this
  · exact hl
  · have := e cs'.size
    rw [Array.getElem?_eq_none (xs := cs') (Nat.le_refl _), Array.getElem?_eq_getElem hl] at this; cases this

/-- The registry while a block of two slices from hi on turns. -/
theorem RgI.updS {w w' : World} {lo hi : Nat} {a : RgA} {n lim : Int} {vs : List VoD} {gs : List Bool} {E : List TeD} {b : Nat} {a1 a2 : Option Addr} {n1 c1 n2 c2 : Nat} (h : RgI w lo hi a n lim vs gs E) (hB : Blk w b #[.slice a1 n1 c1, .slice a2 n2 c2]) (hb : hi ≤ b) (U : Upd b w w') : RgI w' lo hi a n lim vs gs E := by
  have hg := upd_grown U
  have h1 := blk_ne h.blk hB (by simp)
  have h2 := blk_ne h.vot.blk hB (by simp)
  have h3 := blk_ne h.set.blk hB (by simp)
  have h4 := blk_ne h.book.blk hB (by simp)
  have hh := h.hi
  exact ⟨h.blk.grown hg (by simpa using h1), h.vot.grown hg (by simpa using h2) (by simp; omega), h.set.grown hg (by simpa using h3) (by simp; omega), h.book.turned hg h4 (by omega) (fun e he => ints_offS (h.book.rows e he).1.1 hB), h.nv, h.ng, h.lo, ⟨hh.1, hh.2.1, hh.2.2.1, Nat.le_trans hh.2.2.2 hg.size⟩, h.ap, h.off⟩

/-- The registry r, the reference's votes, members and tables; the block of the configuration. -/
structure RpS (w0 : World) (cb lo hi : Nat) (C : Array Value) (ra : RgA) (n lim : Int) (lv ev tv : Value) (vs : List VoD) (gs : List Bool) (E : List TeD) (ds : List (CpD × List Int)) (u : World) : Prop where
  b : Below w0.heap.size w0 u
  c : Blk u cb C
  rg : RgI u lo hi ra n lim vs gs E
  lat : VotesV u lv vs
  nl : New hi lv
  eq : IntsV u ev (memS gs)
  ne : New hi ev
  tab : TabsCN (Safe lo hi) u tv ds
  nt : New hi tv
  mat : Match E ds
  len : (E.length : Int) ≤ lim
  ep : ∀ d ∈ ds, d.1.n ≤ 3
  pos : w0.heap.size ≤ lo ∧ cb < lo
section
variable {w0 : World} {cb lo hi : Nat} {C : Array Value} {ra : RgA} {n lim : Int} {lv ev tv : Value} {vs : List VoD} {gs : List Bool} {E : List TeD} {ds : List (CpD × List Int)} {u u' : World}

theorem RpS.call (h : RpS w0 cb lo hi C ra n lim lv ev tv vs gs E ds u) (hb : Below u.heap.size u u') : RpS w0 cb lo hi C ra n lim lv ev tv vs gs E ds u' :=
  ⟨h.b.trans (hb.mono h.b.size), h.c.call hb, h.rg.call hb, ElV.below voOK h.lat hb, h.nl, h.eq.call hb, h.ne, h.tab.below hb, h.nt, h.mat, h.len, h.ep, h.pos⟩

theorem RpS.vn (h : RpS w0 cb lo hi C ra n lim lv ev tv vs gs E ds u) : (vs.length : Int) = n ∧ (gs.length : Int) = n := ⟨h.rg.nv, h.rg.ng⟩

/-- A vote was cast; the reference's new votes are v'. -/
theorem RpS.cast {lv' : Value} {vs' : List VoD} (h : RpS w0 cb lo hi C ra n lim lv ev tv vs gs E ds u) (hw : VotesV u lv' vs') (hn : New hi lv') (hv : VtI u' ra.b1 ra.g1 vs') (hl : vs'.length = vs.length) (hg : u.grownBy u' (some ra.g1)) : RpS w0 cb lo hi C ra n lim lv' ev tv vs' gs E ds u' := by
  have h1 := h.rg.hi
  have h2 := h.rg.lo
  exact ⟨h.b.grown hg h.b.size (fun j e => by cases e; exact Nat.le_trans h.pos.1 h2.1), h.c.grown hg (by have := h.pos.2; simp; omega), h.rg.cast hv hl hg, hw.grownOff hg (hn.off (by omega)), hn, IntsV.off h.eq hg (h.ne.off (by omega)), h.ne, h.tab.newG h.nt hg (by omega) (by omega), h.nt, h.mat, h.len, h.ep, h.pos⟩

/-- Some were punished. -/
theorem RpS.punish {ev' : Value} {gs' : List Bool} (h : RpS w0 cb lo hi C ra n lim lv ev tv vs gs E ds u) (hw : IntsV u ev' (memS gs')) (hn : New hi ev') (hv : SetI u' ra.b2 ra.g2 gs') (hl : gs'.length = gs.length) (hg : u.grownBy u' (some ra.g2)) : RpS w0 cb lo hi C ra n lim lv ev' tv vs gs' E ds u' := by
  have h1 := h.rg.hi
  have h2 := h.rg.lo
  exact ⟨h.b.grown hg h.b.size (fun j e => by cases e; exact Nat.le_trans h.pos.1 h2.2.1), h.c.grown hg (by have := h.pos.2; simp; omega), h.rg.punish hv hl hg, h.lat.grownOff hg (h.nl.off (by omega)), h.nl, IntsV.off hw hg (hn.off (by omega)), hn, h.tab.newG h.nt hg (by omega) (by omega), h.nt, h.mat, h.len, h.ep, h.pos⟩

/-- A table was registered, or refused. -/
theorem RpS.register {tv' : Value} {ds' : List (CpD × List Int)} {c : CpD} {l : List Int} {er : Int} (h : RpS w0 cb lo hi C ra n lim lv ev tv vs gs E ds u) (ht : TabsCN (Safe lo hi) u tv' ds') (hn : New hi tv') (hc : c.ok) (hc3 : c.n ≤ 3) (her : rrE n lim ds c l = er)
    (hr : (er ≠ 0 ∧ ds' = ds) ∨ (er = 0 ∧ AddR ds c l ds')) (hg : u.grownBy u' (some ra.mb)) (h1 : er ≠ 0 → BookIs u' ra.b3 ra.mb n lim E) (h2 : er = 0 → ∃ v', New u.heap.size v' ∧ BookIs u' ra.b3 ra.mb n lim (⟨c, v', l⟩ :: E)) :
    ∃ E', RpS w0 cb lo hi C ra n lim lv ev tv' vs gs E' ds' u' := by
  have k1 := h.rg.hi
  have k2 := h.rg.lo
  obtain ⟨E', hB, hM, hL, hO⟩ : ∃ E', BookIs u' ra.b3 ra.mb n lim E' ∧ Match E' ds' ∧ (E'.length : Int) ≤ lim ∧ ∀ e ∈ E', Off ra.g1 e.v ∧ Off ra.g2 e.v := by
    rcases hr with ⟨h0, rfl⟩ | ⟨h0, hA⟩
    · exact ⟨E, h1 h0, h.mat, h.len, h.rg.off⟩
    · obtain ⟨v', hnv, hB'⟩ := h2 h0
      rw [h0] at her
      unfold rrE at her
      split at her
      · rename_i h; exact absurd her h
      · split at her
        · cases her
        · rename_i hnot
          split at her
          · cases her
          · rename_i hlt
            rw [← h.mat.len] at hlt
            refine ⟨_, hB', h.mat.add h.rg.book hc hnot hA v', by simp only [List.length_cons]; omega, fun e he => ?_⟩
            rcases List.mem_cons.1 he with rfl | he
            · exact ⟨hnv.off (by omega), hnv.off (by omega)⟩
            · exact h.rg.off e he
  have hep : ∀ d ∈ ds', d.1.n ≤ 3 := fun d hd => by
    rcases hr with ⟨_, rfl⟩ | ⟨_, k, _, _, _, rfl⟩
    · exact h.ep d hd
    · rcases List.mem_append.1 hd with hd | hd
      · exact h.ep d (List.mem_of_mem_take hd)
      · rcases List.mem_cons.1 hd with rfl | hd
        · exact hc3
        · exact h.ep d (List.mem_of_mem_drop hd)
  exact ⟨E', h.b.grown hg h.b.size (fun j e => by cases e; exact Nat.le_trans h.pos.1 k2.2.2), h.c.grown hg (by have := h.pos.2; simp; omega), h.rg.register hB hg hO, h.lat.grownOff hg (h.nl.off (by omega)), h.nl, IntsV.off h.eq hg (h.ne.off (by omega)), h.ne, ht.newG hn hg (by omega) (by omega), hn, hM, hL, hep, h.pos⟩

/-- The variable of the votes turned. -/
theorem RpS.upd {vb : Nat} {a1 a2 : Option Addr} {n1 c1 n2 c2 : Nat} (h : RpS w0 cb lo hi C ra n lim lv ev tv vs gs E ds u) (hB : Blk u vb #[.slice a1 n1 c1, .slice a2 n2 c2]) (hb : hi ≤ vb) (U : Upd vb u u') : RpS w0 cb lo hi C ra n lim lv ev tv vs gs E ds u' := by
  have hg := upd_grown U
  have k1 := h.rg.hi
  have k2 := h.rg.lo
  exact ⟨h.b.grown hg h.b.size (fun j e => by cases e; have := h.pos; omega), h.c.grown hg (by have := h.pos.2; simp; omega), h.rg.updS hB hb U, h.lat.grownOff hg (elv_offZ voOK h.lat hB (by show 2 < 34; omega)), h.nl, IntsV.off h.eq hg (ints_offS h.eq.1 hB), h.ne, tabs_updS h.tab hB U, h.nt, h.mat, h.len, h.ep, h.pos⟩

theorem RpS.far (h : RpS w0 cb lo hi C ra n lim lv ev tv vs gs E ds u) : tlst E ⟨77, zeroR⟩ = [] := by
  have hn : (⟨77, zeroR⟩ : CpD) ∉ ds.map Prod.fst := fun hm => by
    obtain ⟨d, hd, e⟩ := List.mem_map.1 hm
    have := h.ep d hd
    rw [e] at this
    exact absurd this (by show ¬ ((77 : Int) ≤ 3); omega)
  have ht : tget E ⟨77, zeroR⟩ = none := tget_none.2 (fun hm => hn ((h.mat.keys _).2 hm))
  unfold tlst
  rw [ht]
end
end

end Go.Proofs.Ytcbjjafjomdklaa
