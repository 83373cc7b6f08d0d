/- Several texts as one: Nd, TrA, TrB, TrC, TrD, TrF, TrG, TrH, TrI, TrL, AnM. -/
import Derived.Test.YtdlbobpglgjhiaaEls
import Derived.Test.YtdlbobpglgjhiaaCl
import Derived.Test.YtdlbobpglgjhiaaMath
import Derived.Test.YtdlbobpglgjhiaaOwL
import Derived.Test.YtdlbobpglgjhiaaRt
import Derived.Test.YtdlbobpglgjhiaaEvA
import Derived.Test.YtdlbobpglgjhiaaEvB
import Derived.Test.YtdlbobpglgjhiaaSo
import Derived.Test.YtdlbobpglgjhiaaPas
import Derived.Deep.CutRange
import Derived.Deep.MidRow
import Derived.Deep.RegionHeld3
import Derived.Test.YtdlbobpglgjhiaaOwM
namespace Go.Proofs.Ytdlbobpglgjhiaa

/-! Nd -/
section
set_option linter.unusedVariables false
set_option linter.unusedSimpArgs false
open Go.RowKit

def wideL (n : Int) : List Value := [.int .u64 (l0 n), .int .u64 (l1 n), .int .u64 (l2 n), .int .u64 (l3 n)]

theorem wideL_one (n : Int) : ∀ v ∈ wideL n, v.oneCell' = true := by
  intro v hv
  simp only [wideL, List.mem_cons, List.not_mem_nil, or_false] at hv
  rcases hv with rfl | rfl | rfl | rfl <;> rfl

/-- A block. -/
structure BkD where
  pj : CpD
  pf : CpD
  slot : Int
  root : List Int
  parent : List Int
  payload : List Int
  d : Int
  pd : Int
  j : CpD
  f : CpD
  t : Bool

def BkD.ok (x : BkD) : Prop := x.pj.ok ∧ x.pf.ok ∧ (0 ≤ x.slot ∧ x.slot ≤ 18446744073709551615) ∧ IsBytes 32 x.root ∧ IsBytes 32 x.parent ∧ IsBytes 32 x.payload ∧ W256 x.d ∧ W256 x.pd ∧ x.j.ok ∧ x.f.ok

def BkD.parts (x : BkD) : List (List Value) :=
  [x.pj.cells, x.pf.cells, [.int .u64 x.slot], bytesL x.root, bytesL x.parent, bytesL x.payload, wideL x.d, wideL x.pd, x.j.cells, x.f.cells, [.bool x.t]]

theorem BkD.flat (x : BkD) : x.parts.flatten = x.pj.cells ++ (x.pf.cells ++ (.int .u64 x.slot :: (bytesL x.root ++ (bytesL x.parent ++ (bytesL x.payload ++ (wideL x.d ++ (wideL x.pd ++ (x.j.cells ++ (x.f.cells ++ [.bool x.t]))))))))) := by simp [BkD.parts]

theorem BkD.flen {x : BkD} (h : x.ok) : x.parts.flatten.length = 238 := by
  obtain ⟨h1, h2, _, h3, h4, h5, _, _, h6, h7⟩ := h
  rw [BkD.flat]
  simp [CpD.len h1, CpD.len h2, bytesL_len h3, bytesL_len h4, bytesL_len h5, CpD.len h6, CpD.len h7, wideL]

theorem BkD.one (x : BkD) : ∀ v ∈ x.parts.flatten, v.oneCell' = true := by
  intro v hv
  rw [BkD.flat] at hv
  simp only [List.mem_append, List.mem_cons, List.not_mem_nil, or_false] at hv
  rcases hv with h | h | rfl | h | h | h | h | h | h | h | rfl
  · exact CpD.one _ v h
  · exact CpD.one _ v h
  · rfl
  · exact bytesL_one _ v h
  · exact bytesL_one _ v h
  · exact bytesL_one _ v h
  · exact wideL_one _ v h
  · exact wideL_one _ v h
  · exact CpD.one _ v h
  · exact CpD.one _ v h
  · rfl

/-- Where the fields of a block lie. -/
structure BkAt (w : World) (b o : Nat) (x : BkD) : Prop where
  pj : w.rangeAt b o x.pj.cells
  pf : w.rangeAt b (o + 33) x.pf.cells
  slot : w.cell? ⟨b, o + 66, none⟩ = some (.int .u64 x.slot)
  root : w.rangeAt b (o + 67) (bytesL x.root)
  parent : w.rangeAt b (o + 99) (bytesL x.parent)
  payload : w.rangeAt b (o + 131) (bytesL x.payload)
  d : w.rangeAt b (o + 163) (wideL x.d)
  pd : w.rangeAt b (o + 167) (wideL x.pd)
  j : w.rangeAt b (o + 171) x.j.cells
  f : w.rangeAt b (o + 204) x.f.cells
  t : w.cell? ⟨b, o + 237, none⟩ = some (.bool x.t)

theorem bk_at {w : World} {b o : Nat} {x : BkD} (h : w.rangeAt b o x.parts.flatten) (hx : x.ok) : BkAt w b o x := by
  obtain ⟨h1, h2, _, h3, h4, h5, _, _, h6, h7⟩ := hx
  rw [BkD.flat] at h
  obtain ⟨a1, h⟩ := rng_app h (CpD.len h1)
  obtain ⟨a2, h⟩ := rng_app h (CpD.len h2)
  obtain ⟨a3, h⟩ := rng_cons h
  obtain ⟨a4, h⟩ := rng_app h (bytesL_len h3)
  obtain ⟨a5, h⟩ := rng_app h (bytesL_len h4)
  obtain ⟨a6, h⟩ := rng_app h (bytesL_len h5)
  obtain ⟨a7, h⟩ := rng_app h (n := 4) rfl
  obtain ⟨a8, h⟩ := rng_app h (n := 4) rfl
  obtain ⟨a9, h⟩ := rng_app h (CpD.len h6)
  obtain ⟨a10, h⟩ := rng_app h (CpD.len h7)
  exact ⟨a1, a2, a3, a4, a5, a6, a7, a8, a9, a10, rng_one h⟩

/-- A node. -/
structure NdD where
  b : BkD
  up : Int
  st : Int

def NdD.ok (x : NdD) : Prop := x.b.ok ∧ (-9223372036854775808 ≤ x.up ∧ x.up ≤ 9223372036854775807) ∧ (-9223372036854775808 ≤ x.st ∧ x.st ≤ 9223372036854775807)

def NdD.cells (x : NdD) : List Value := x.b.parts.flatten ++ [.int .i64 x.up, .int .i64 x.st]

theorem NdD.len {x : NdD} (h : x.ok) : x.cells.length = 240 := by simp only [NdD.cells, List.length_append, BkD.flen h.1]; rfl

theorem NdD.one (x : NdD) : ∀ v ∈ x.cells, v.oneCell' = true := by
  intro v hv
  simp only [NdD.cells, List.mem_append, List.mem_cons, List.not_mem_nil, or_false] at hv
  rcases hv with h | rfl | rfl
  · exact BkD.one _ v h
  · rfl
  · rfl

structure NdAt (w : World) (b o : Nat) (x : NdD) : Prop where
  all : w.rangeAt b o x.cells
  blk : w.rangeAt b o x.b.parts.flatten
  bk : BkAt w b o x.b
  up : w.cell? ⟨b, o + 238, none⟩ = some (.int .i64 x.up)
  st : w.cell? ⟨b, o + 239, none⟩ = some (.int .i64 x.st)

theorem nd_at {w : World} {b o : Nat} {x : NdD} (h : w.rangeAt b o x.cells) (hx : x.ok) : NdAt w b o x := by
  have h' := h
  unfold NdD.cells at h'
  obtain ⟨a1, a2⟩ := rng_app h' (BkD.flen hx.1)
  obtain ⟨a3, a4⟩ := rng_cons a2
  exact ⟨h, a1, bk_at a1 hx.1, a3, rng_one a4⟩

theorem NdAt.below {N : Nat} {w u : World} {b o : Nat} {x : NdD} (h : NdAt w b o x) (hx : x.ok) (hb : Below N w u) (hN : b < N) : NdAt u b o x := nd_at (Below.rng hb hN h.all) hx

/-- An element of a slice of nodes. -/
def NdEl (P : Value → Prop) (w : World) (X : Array Value) (d : NdD) : Prop := X = d.cells.toArray ∧ d.ok

theorem ndOK : ElOK 240 NdEl where
  size := fun h => by rw [h.1, List.size_toArray, NdD.len h.2]
  one := fun h v hv => by rw [h.1] at hv; exact NdD.one _ v (by simpa using hv)
  mono := fun h _ => h
  grown := fun h _ _ => h
  off := fun h _ => h

/-- A slice of nodes. -/
abbrev NodesV (w : World) (v : Value) (ns : List NdD) : Prop := ElV NdEl 240 w v ns

theorem NodesV.call {w w' : World} {v : Value} {ns : List NdD} (h : NodesV w v ns) (hb : Below w.heap.size w w') : NodesV w' v ns := ElV.below ndOK h hb

theorem NodesV.elem {w : World} {a : Option Addr} {l cap : Nat} {ns : List NdD} (h : NodesV w (.slice a l cap) ns) {i : Nat} (hi : i < ns.length) :
    ∃ b off, a = some ⟨b, off, none⟩ ∧ l = ns.length ∧ b < w.heap.size ∧ NdAt w b (off + i * 240) ns[i] ∧ ns[i].ok := by
  obtain ⟨b, off, X, h1, h2, h3, h4, ⟨h5, h6⟩, _⟩ := ElV.at ndOK h hi
  exact ⟨b, off, h1, h2, h3, nd_at (by rw [h5] at h4; exact h4) h6, h6⟩

theorem NodesV.oks {w : World} {v : Value} {ns : List NdD} (h : NodesV w v ns) : ∀ d ∈ ns, d.ok := by
  obtain ⟨a, cap, rfl, hl, hr⟩ := h
  rcases hr with h0 | ⟨b, off, rfl, hlt, Xs, h1, h2⟩
  · rw [List.eq_nil_of_length_eq_zero h0]; simp
  · intro d hd
    obtain ⟨i, hi, rfl⟩ := List.mem_iff_getElem.1 hd
    exact (h2.at hi).2

/-- The value of a tree. -/
def TreeV (w : World) (v : Value) (ns : List NdD) : Prop := ∃ s, v = .agg #[s] ∧ NodesV w s ns

theorem TreeV.call {w w' : World} {v : Value} {ns : List NdD} (h : TreeV w v ns) (hb : Below w.heap.size w w') : TreeV w' v ns := by
  obtain ⟨s, e, h⟩ := h; exact ⟨s, e, h.call hb⟩

def zeBkP : List (List Value) := [.int .u64 0 :: bytesL zeroR, .int .u64 0 :: bytesL zeroR, [.int .u64 0], bytesL zeroR, bytesL zeroR, bytesL zeroR, List.replicate 4 (.int .u64 0), List.replicate 4 (.int .u64 0), .int .u64 0 :: bytesL zeroR, .int .u64 0 :: bytesL zeroR, [.bool false]]

theorem info_node : (Try.prog.info? 69).map (fun i => (i.zero, i.size, i.bytes)) = some (some (.agg (flatP (zeBkP ++ [[.int .i64 0], [.int .i64 0]]))), 240, 352) := by kernel_rfl
end

/-! TrA -/
section
set_option linter.unusedVariables false
set_option linter.unusedSimpArgs false
open Go.RowKit

set_option maxRecDepth 100000

/-- The index of the first node with this root from i on, -1 if there is none. -/
def findGo (ns : List NdD) (r : List Int) : Nat → Nat → Int
  | 0, _ => -1
  | f + 1, i => if ((ns[i]?).map (fun d => d.b.root)) = some r then i else findGo ns r f (i + 1)

def findN (ns : List NdD) (r : List Int) : Int := findGo ns r ns.length 0

theorem findGo_step {ns : List NdD} {r : List Int} {k : Nat} (hk : k < ns.length) : findGo ns r (ns.length - k) k = if ns[k].b.root = r then (k : Int) else findGo ns r (ns.length - (k + 1)) (k + 1) := by
  rw [show ns.length - k = (ns.length - (k + 1)) + 1 by omega]
  show (if ((ns[k]?).map (fun d => d.b.root)) = some r then (k : Int) else findGo ns r (ns.length - (k + 1)) (k + 1)) = _
  rw [List.getElem?_eq_getElem hk]
  simp

theorem findGo_spec (ns : List NdD) (r : List Int) : ∀ f i, (findGo ns r f i = -1 ∧ ∀ j, i ≤ j → j < i + f → (hj : j < ns.length) → ns[j].b.root ≠ r) ∨ ∃ k : Nat, i ≤ k ∧ k < i + f ∧ ∃ hk : k < ns.length, findGo ns r f i = k ∧ ns[k].b.root = r ∧ ∀ j, i ≤ j → j < k → (hj : j < ns.length) → ns[j].b.root ≠ r
  | 0, i => .inl ⟨rfl, fun j h1 h2 _ => by omega⟩
  | f + 1, i => by
    unfold findGo
    by_cases h : ((ns[i]?).map (fun d => d.b.root)) = some r
    · rw [if_pos h]
      by_cases hi : i < ns.length
      · rw [List.getElem?_eq_getElem hi] at h
        exact .inr ⟨i, Nat.le_refl _, by omega, hi, rfl, by simpa using h, fun j h1 h2 _ => by omega⟩
      · rw [List.getElem?_eq_none (by omega)] at h; cases h
    · rw [if_neg h]
      have hni : ∀ hi : i < ns.length, ns[i].b.root ≠ r := fun hi e => h (by rw [List.getElem?_eq_getElem hi]; simp [e])
      rcases findGo_spec ns r f (i + 1) with ⟨h1, h2⟩ | ⟨k, h1, h2, hk, h3, h4, h5⟩
      · refine .inl ⟨h1, fun j h3 h4 hj => ?_⟩
        by_cases e : j = i
        · subst e; exact hni hj
        · exact h2 j (by omega) (by omega) hj
      · refine .inr ⟨k, by omega, by omega, hk, h3, h4, fun j h6 h7 hj => ?_⟩
        by_cases e : j = i
        · subst e; exact hni hj
        · exact h5 j (by omega) h7 hj

theorem findN_spec (ns : List NdD) (r : List Int) : (findN ns r = -1 ∧ ∀ j, (hj : j < ns.length) → ns[j].b.root ≠ r) ∨ ∃ k : Nat, ∃ hk : k < ns.length, findN ns r = k ∧ ns[k].b.root = r ∧ ∀ j, j < k → (hj : j < ns.length) → ns[j].b.root ≠ r := by
  rcases findGo_spec ns r ns.length 0 with ⟨h1, h2⟩ | ⟨k, _, _, hk, h3, h4, h5⟩
  · exact .inl ⟨h1, fun j hj => h2 j (Nat.zero_le _) (by omega) hj⟩
  · exact .inr ⟨k, hk, h3, h4, fun j hj => h5 j (Nat.zero_le _) hj⟩

theorem findN_rng (ns : List NdD) (r : List Int) : -1 ≤ findN ns r ∧ findN ns r < ns.length := by
  rcases findN_spec ns r with ⟨h, _⟩ | ⟨k, hk, h, _⟩ <;> rw [h] <;> omega

def FindI (w : World) (ns : List NdD) (r : List Int) (T X : Array Value) (i : Value) (wr : World) : Prop :=
  ∃ k : Nat, k ≤ ns.length ∧ i = .int .i64 k ∧ findGo ns r (ns.length - k) k = findN ns r ∧ Blk wr w.heap.size T ∧ Blk wr (w.heap.size + 1) X ∧ Below w.heap.size w wr

set_option maxHeartbeats 4000000 in
theorem find_any (v : Value) (ns : List NdD) (r : List Int) (w : World) (hN : NodesV w v ns) (hr : IsBytes 32 r) :
    Calls Try.prog 41 #[.agg #[v], .agg (bytesL r).toArray] w fun e w' => e = .returned (.int .i64 (findN ns r)) ∧ Below w.heap.size w w' := by
  obtain ⟨a, cap, rfl, hmx⟩ := hN.shape
  unfold maxLen at hmx
  have HN := Lib.hid hN
  have HR := Lib.hid hr
  obtain ⟨q, hq⟩ : ∃ q, Hid (findN ns r = q) := ⟨_, Lib.hid rfl⟩
  rw [hq.out]
  obtain ⟨X, hX⟩ : ∃ X, Hid ((bytesL r).toArray = X) := ⟨_, Lib.hid rfl⟩
  rw [hX.out]
  have hsX : X.size = 32 := by rw [← hX.out, List.size_toArray, bytesL_len hr]
  have hiX : (Try.prog.info? 57).map (·.size) = some X.size := by rw [hsX]; kernel_rfl
  obtain ⟨m, hm⟩ : ∃ m, Hid (ns.length = m) := ⟨_, Lib.hid rfl⟩
  rw [hm.out] at hmx ⊢
  have HBA := Lib.hid (((Below.refl w.heap.size w).alloc (Nat.le_refl _) (.cells #[.slice a m cap] 25)).alloc (by simp) (.cells X 57))
  have HT : Hid (Blk ((w.alloc (.cells #[.slice a m cap] 25)).alloc (.cells X 57)) w.heap.size #[.slice a m cap]) := (Blk.new rfl).alloc _
  have HX : Hid (Blk ((w.alloc (.cells #[.slice a m cap] 25)).alloc (.cells X 57)) (w.heap.size + 1) X) := Blk.new (by simp)
  clear hN hr
  go_enter Try.func41, Try.ntmps41
  go_wp2_with fail
  go_loopw [5] (fun i wr => FindI w ns r #[.slice a m cap] X i wr) (fun i _ => m - (intOf i).toNat)
  case atStart => exact ⟨0, Nat.zero_le _, rfl, rfl, HT.out, HX.out, HBA.out⟩
  case round =>
    obtain ⟨k, hk, rfl, hf, ht, hx, hbl⟩ := hrel
    have HF := Lib.hid hf
    have HTr := Lib.hid ht
    have HXr := Lib.hid hx
    have HBL := Lib.hid hbl
    have hlt0 := ht.lt
    have HC0 : Hid (wr.cell? ⟨w.heap.size, 0, none⟩ = some (.slice a m cap)) := ht.cell 0
    rw [hm.out] at hk
    clear hf ht hx hbl
    by_cases hlt : k < m
    case neg =>
      obtain rfl : k = m := by omega
      have hqv : q = -1 := by rw [← hq.out, ← HF.out, hm.out, Nat.sub_self]; rfl
      have HQ := Lib.hid hqv
      clear hqv
      go_wp2_with (first
        | ((with_reducible refine at_load (.tmp 7) ?_); refine wpList_load_1 23 (.tmp 7) rfl w.heap.size 0 (.slice a k cap) HC0.out rfl _ Try.underlying23 rfl rfl ?_))
      go_ret
      exact ⟨by rw [HQ.out]; rfl, HBL.out⟩
    have hlt' : (k : Int) < m := by omega
    have hkn : k < ns.length := by rw [hm.out]; exact hlt
    obtain ⟨b, off, rfl, hlm, hbb, hna, hok⟩ := HN.out.elem (i := k) hkn
    have hrt := Below.rng HBL.out hbb hna.bk.root
    have HRT := Lib.hid hrt
    have hbw : b < wr.heap.size := Nat.lt_of_lt_of_le hbb HBL.out.size
    have hst := findGo_step (r := r) hkn
    have HEQ := fun u => eq_root hok.1.2.2.2.1 HR.out u
    have hiY : (Try.prog.info? 57).map (·.size) = some (bytesL ns[k].b.root).length := by rw [bytesL_len hok.1.2.2.2.1]; kernel_rfl
    obtain ⟨qr, hqr⟩ : ∃ q : Bool, decide (ns[k].b.root = r) = q := ⟨_, rfl⟩
    rw [hqr] at HEQ
    have HQR : Hid (qr = true ↔ ns[k].b.root = r) := by show _ ↔ _; rw [← hqr]; exact decide_eq_true_iff
    simp only [bytesL_V] at HEQ
    rw [hX.out] at HEQ
    obtain ⟨R, hR⟩ : ∃ R, bytesL ns[k].b.root = R := ⟨_, rfl⟩
    rw [hR] at HRT HEQ hiY
    have HST := Lib.hid hst
    clear hna hok hrt hst hqr hR hlm
    go_wp2_with (first
      | ((with_reducible refine at_load (.tmp 7) ?_); refine wpList_load_1 23 (.tmp 7) rfl w.heap.size 0 (.slice (some ⟨b, off, none⟩) m cap) HC0.out rfl _ Try.underlying23 rfl rfl ?_))
    refine wp_region_fam2 (by kernel_rfl) (by kernel_rfl) ?_
    intro T F hT hF hG
    have c0 : ∀ t, (F t).cell? ⟨w.heap.size, 0, none⟩ = some (.slice (some ⟨b, off, none⟩) m cap) := fun t => ((hF t).cell (p := ⟨w.heap.size, 0, none⟩) hlt0).trans HC0.out
    have CR := Lib.hid (show ∀ u, (∃ t, u = F t) → u.rangeAt b (off + k * 240 + 67) R by rintro _ ⟨t, rfl⟩; exact Below.rng (hF t) hbw HRT.out)
    have CX := Lib.hid (show ∀ u, (∃ t, u = F t) → Blk u (w.heap.size + 1) X by rintro _ ⟨t, rfl⟩; exact HXr.out.call (hF t))
    repeat (first
      | ((with_reducible refine at_qload (.tmp 18) ?_); refine wpQuiet_load_midE 57 _ rfl b (off + k * 240 + 67) (by simp [Act.eval]) R CR.out Try.underlying57 rfl hiY (by kernel_rfl) ?_; simp only [Act.put, List.setIfInBounds_toArray, List.set_cons_succ, List.set_cons_zero])
      | ((with_reducible refine at_qload (.tmp 3) ?_); refine wpQuiet_load 57 _ rfl (w.heap.size + 1) rfl X CX.out Try.underlying57 rfl hiX (by kernel_rfl) ?_; simp only [Act.put, List.setIfInBounds_toArray, List.set_cons_succ, List.set_cons_zero])
      | (go_big_quiet_step (fail)))
    refine wpQuiet_nil ?_
    rintro _ ⟨t, rfl⟩
    have hft := hF t
    obtain ⟨u, hu⟩ : ∃ u, F t = u := ⟨_, rfl⟩
    rw [hu] at hft ⊢
    have HB1 := Lib.hid (HBL.out.trans (hft.mono HBL.out.size))
    have HT1 := Lib.hid (HTr.out.call hft)
    have HX1 := Lib.hid (HXr.out.call hft)
    clear c0 CR CX hG hu hft hF hT
    clear t F T
    cases qr
    case false =>
      have hne : ¬ ns[k].b.root = r := fun h => by have := HQR.out.2 h; cases this
      rw [if_neg hne] at HST
      go_wp2_with fail
      go_roundw
      case rel => exact ⟨k + 1, by rw [hm.out]; omega, by go_num, by rw [← HST.out]; exact HF.out, HT1.out, HX1.out, HB1.out⟩
      case measure => simp [intOf]; omega
    case true =>
      rw [if_pos (HQR.out.1 rfl)] at HST
      have hqv : q = (k : Int) := by rw [← hq.out, ← HF.out]; exact HST.out
      have HQ := Lib.hid hqv
      clear hqv
      go_wp2_with fail
      go_ret
      exact ⟨by rw [HQ.out]; rfl, HB1.out⟩

set_option maxHeartbeats 4000000 in
theorem isn_any (v : Value) (ns : List NdD) (i : Int) (w : World) (hN : NodesV w v ns) :
    Calls Try.prog 51 #[.agg #[v], .int .i64 i] w fun e w' => e = .returned (.bool (decide (0 ≤ i ∧ i < ns.length))) ∧ Below w.heap.size w w' := by
  obtain ⟨a, cap, rfl, hmx⟩ := hN.shape
  unfold maxLen at hmx
  obtain ⟨m, hm⟩ : ∃ m, Hid (ns.length = m) := ⟨_, Lib.hid rfl⟩
  rw [hm.out] at hmx ⊢
  obtain ⟨q, hq⟩ : ∃ q : Bool, decide (0 ≤ i ∧ i < (m : Int)) = q := ⟨_, rfl⟩
  rw [hq]
  have HBA := Lib.hid ((Below.refl w.heap.size w).alloc (Nat.le_refl _) (.cells #[.slice a m cap] 25))
  have HC0 : Hid ((w.alloc (.cells #[.slice a m cap] 25)).cell? ⟨w.heap.size, 0, none⟩ = some (.slice a m cap)) := (Blk.new rfl).cell 0
  clear hN
  by_cases h0 : 0 ≤ i
  · have hge : ¬ i < 0 := by omega
    by_cases h1 : i < (m : Int)
    · have hqv : q = true := by rw [← hq]; exact decide_eq_true ⟨h0, h1⟩
      subst hqv
      go_enter Try.func51, Try.ntmps51
      go_wp2_with (first
        | ((with_reducible refine at_load (.tmp 9) ?_); refine wpList_load_1 23 (.tmp 9) rfl w.heap.size 0 (.slice a m cap) HC0.out rfl _ Try.underlying23 rfl rfl ?_))
      go_ret
      exact ⟨rfl, HBA.out⟩
    · have hqv : q = false := by rw [← hq]; exact decide_eq_false (fun h => h1 h.2)
      subst hqv
      go_enter Try.func51, Try.ntmps51
      go_wp2_with (first
        | ((with_reducible refine at_load (.tmp 9) ?_); refine wpList_load_1 23 (.tmp 9) rfl w.heap.size 0 (.slice a m cap) HC0.out rfl _ Try.underlying23 rfl rfl ?_))
      go_ret
      exact ⟨rfl, HBA.out⟩
  · have hqv : q = false := by rw [← hq]; exact decide_eq_false (fun h => h0 h.1)
    subst hqv
    have h0' : (0 ≤ i) = False := eq_false h0
    clear h0
    go_enter Try.func51, Try.ntmps51
    go_wp2_with fail
    go_ret
    exact ⟨rfl, HBA.out⟩
end

/-! TrB -/
section
set_option linter.unusedVariables false
set_option linter.unusedSimpArgs false
open Go.RowKit

set_option maxRecDepth 100000

theorem status_any (n : Int) (w : World) :
    Calls Try.prog 40 #[.int .i64 n] w fun e w' => e = .returned (.bool (decide (0 ≤ n ∧ n ≤ 2))) ∧ Below w.heap.size w w' := by
  by_cases h0 : 0 ≤ n
  · by_cases h1 : n ≤ 2
    · have hq : decide (0 ≤ n ∧ n ≤ 2) = true := decide_eq_true ⟨h0, h1⟩
      rw [hq]
      clear hq
      go_enter Try.func40, Try.ntmps40
      go_wp2_with fail
      go_ret
      exact ⟨rfl, Below.refl _ _⟩
    · have hq : decide (0 ≤ n ∧ n ≤ 2) = false := decide_eq_false (fun h => h1 h.2)
      rw [hq]
      have h1' : (n ≤ 2) = False := eq_false h1
      clear hq h1
      go_enter Try.func40, Try.ntmps40
      go_wp2_with fail
      go_ret
      exact ⟨rfl, Below.refl _ _⟩
  · have hq : decide (0 ≤ n ∧ n ≤ 2) = false := decide_eq_false (fun h => h0 h.1)
    rw [hq]
    have h0' : (0 ≤ n) = False := eq_false h0
    clear hq h0
    go_enter Try.func40, Try.ntmps40
    go_wp2_with fail
    go_ret
    exact ⟨rfl, Below.refl _ _⟩

theorem build_nd (x : BkD) (up st : Int) (hx : x.ok) (u : World) : (Instr.build 69 #[(0, .agg (flatP x.parts)), (1, .int .i64 up), (2, .int .i64 st)]).run Try.prog u = .ok (.agg (⟨x, up, st⟩ : NdD).cells.toArray) u := by
  have hl := BkD.flen hx
  refine build_struct (zero := flatP [zeBkP.flatten, [.int .i64 0], [.int .i64 0]]) (fun w => by kernel_rfl) Try.underlying69 (places := #[(0, 238), (238, 1), (239, 1)]) (fun w => by kernel_rfl) ?_ u
  show Instr.fill _ (flatP [zeBkP.flatten, [.int .i64 0], [.int .i64 0]]) [(0, .agg (flatP x.parts)), (1, .int .i64 up), (2, .int .i64 st)] = _
  rw [fill_part 0 zeBkP.flatten x.parts.flatten rfl rfl (by rw [hl]; rfl) rfl (by rw [hl]; rfl), fill_part (i := 1) (o := 238) 1 [.int .i64 0] [.int .i64 up] rfl rfl rfl (by simp [offP, hl]) rfl, fill_part (i := 2) (o := 239) 2 [.int .i64 0] [.int .i64 st] rfl rfl rfl (by simp [offP, hl]) rfl]
  unfold Instr.fill
  simp [flatP, NdD.cells]

theorem bz_tree (u : World) : (Instr.build 25 #[]).run Try.prog u = .ok (.agg #[.slice none 0 0]) u := by kernel_rfl

theorem b_tree (a : Option Addr) (n c : Nat) (u : World) : (Instr.build 25 #[(0, .slice a n c)]).run Try.prog u = .ok (.agg #[.slice a n c]) u := by kernel_rfl

theorem bel_node {X : Array Value} (hX : X.size = 240) (u : World) : (Instr.buildSlice 23 1 #[(0, .agg X)]).run Try.prog u = .ok (.slice (some ⟨u.heap.size, 0, none⟩) 1 1) (u.alloc (.cells X 69)) :=
  buildEl (P := Try.prog) (t := 23) (e := 69) (Z := flatP (zeBkP ++ [[.int .i64 0], [.int .i64 0]])) (X := X) (sz := 240) Try.underlying23 (fun w => by kernel_rfl) (by kernel_rfl) (by rfl) hX (by omega) (by omega) u

/-- One node in a block of its own. -/
theorem nodes_one {w : World} {g : Nat} {d : NdD} (h : Blk w g d.cells.toArray) (hd : d.ok) : NodesV w (.slice (some ⟨g, 0, none⟩) 1 1) [d] := by
  refine ⟨_, 1, rfl, by unfold maxLen; simp, .inr ⟨g, 0, rfl, h.lt, [d.cells.toArray], ?_, rfl, ?_⟩⟩
  · have := h.rng
    simpa [rowsL] using this
  · intro p hp
    simp only [List.zip_cons_cons, List.zip_nil_right, List.mem_singleton] at hp
    rw [hp]; exact ⟨rfl, hd⟩

set_option maxHeartbeats 4000000 in
theorem newt_any (x : BkD) (st : Int) (w : World) (hx : x.ok) (hst : -9223372036854775808 ≤ st ∧ st ≤ 9223372036854775807) :
    Calls Try.prog 27 #[.agg (flatP x.parts), .int .i64 st] w fun e w' => ∃ v, e = .returned (.agg #[v]) ∧ NodesV w' v [⟨x, -1, st⟩] ∧ New w.heap.size v ∧ CapOK v ∧ Below w.heap.size w w' := by
  have hok : (⟨x, -1, st⟩ : NdD).ok := ⟨hx, by show (-9223372036854775808 : Int) ≤ -1 ∧ (-1 : Int) ≤ _; omega, hst⟩
  have HN := Lib.hid (fun u => build_nd x (-1) st hx u)
  obtain ⟨d, hd⟩ : ∃ d : NdD, Hid ((⟨x, -1, st⟩ : NdD) = d) := ⟨_, Lib.hid rfl⟩
  rw [hd.out] at HN hok ⊢
  obtain ⟨Y, hY⟩ : ∃ Y, Hid (d.cells.toArray = Y) := ⟨_, Lib.hid rfl⟩
  have hsY : Hid (Y.size = 240) := by show Y.size = 240; rw [← hY.out, List.size_toArray, NdD.len hok]
  have hsX : (flatP x.parts).size = 238 := by rw [flatP_size, BkD.flen hx]
  have HOK := Lib.hid hok
  rw [hY.out] at HN
  obtain ⟨X, hX⟩ : ∃ X, flatP x.parts = X := ⟨_, rfl⟩
  rw [hX] at HN hsX ⊢
  have hiX : (Try.prog.info? 67).map (·.size) = some X.size := by rw [hsX]; kernel_rfl
  have hi1 : (Try.prog.info? 25).map (·.size) = some 1 := by kernel_rfl
  obtain ⟨hz1, hst1⟩ := zero_array (P := Try.prog) (t := 25) (n := 1) #[.slice none 0 0] (by kernel_rfl) rfl (by kernel_rfl)
  have HBA := Lib.hid (((Below.refl w.heap.size w).alloc (Nat.le_refl _) (.cells X 67)).alloc (by simp) (.cells #[.slice none 0 0] 25))
  have HX : Hid (Blk ((w.alloc (.cells X 67)).alloc (.cells #[.slice none 0 0] 25)) w.heap.size X) := (Blk.new rfl).alloc _
  have HZ : Hid (Blk ((w.alloc (.cells X 67)).alloc (.cells #[.slice none 0 0] 25)) (w.heap.size + 1) #[.slice none 0 0]) := Blk.new (by simp)
  clear hX hx hok hst1
  go_enter Try.func27, Try.ntmps27
  go_wp2_with (first
    | ((with_reducible refine at_load (.tmp 2) ?_); refine wpList_load_g 67 (.tmp 2) rfl w.heap.size rfl X _ HX.out Try.underlying67 rfl hiX rfl ?_)
    | ((with_reducible refine at_build (some 7) ?_); refine wpList_build_g 69 _ rfl #[(0, .agg X), (1, .int .i64 (-1)), (2, .int .i64 st)] (by simp [Act.eval, Act.put]) (.agg Y) (HN.out _) rfl ?_)
    | ((with_reducible refine at_buildSliceE (some 8) ?_); refine wpList_buildSliceE rfl 23 1 _ rfl #[(0, .agg Y)] (by simp [Act.eval, Act.put]) _ (bel_node hsY.out _) ?_)
    | ((with_reducible refine at_build (some 9) ?_); refine wpList_build_g 25 _ rfl #[(0, .slice (some ⟨((w.alloc (.cells X 67)).alloc (.cells #[.slice none 0 0] 25)).heap.size, 0, none⟩) 1 1)] (by simp [Act.eval, Act.put]) (.agg #[.slice (some ⟨((w.alloc (.cells X 67)).alloc (.cells #[.slice none 0 0] 25)).heap.size, 0, none⟩) 1 1]) (b_tree _ _ _ _) rfl ?_)
    | ((with_reducible refine at_store (.tmp 4) ?_); refine wpList_store_blk rfl 25 (.tmp 4) _ rfl (w.heap.size + 1) #[.slice (some ⟨((w.alloc (.cells X 67)).alloc (.cells #[.slice none 0 0] 25)).heap.size, 0, none⟩) 1 1] rfl rfl #[.slice none 0 0] (HZ.out.alloc _) rfl hi1 (by simp [Value.oneCell']) ?_; intro w5 U5 B5; have HR5 := Lib.hid B5; have HU5 := Lib.hid U5; clear U5 B5))
  have hb5 : Below w.heap.size w w5 := HU5.out.below (HBA.out.alloc HBA.out.size (.cells Y 69)) (by omega)
  have hYb : Blk w5 ((w.alloc (.cells X 67)).alloc (.cells #[.slice none 0 0] 25)).heap.size d.cells.toArray := by
    rw [hY.out]
    exact HU5.out.blk (Blk.new rfl) (by simp)
  refine bodyPost_ret (res_cellB rfl rfl HR5.out Try.underlying25 rfl hi1) rfl ⟨_, rfl, nodes_one hYb HOK.out, ?_, (fun a n c e => by cases e; omega), hb5⟩
  intro z l c e _
  cases e
  simp
  omega

/-- What Insert makes of a tree. -/
def slotAt (ns : List NdD) (i : Int) : Int := ((ns[i.toNat]?).map (fun d => d.b.slot)).getD 0

def insT (ns : List NdD) (x : BkD) (st : Int) : List NdD × Int :=
  if ¬ (0 ≤ st ∧ st ≤ 2) then ([], 2) else if 0 ≤ findN ns x.root then ([], 9) else if findN ns x.parent < 0 then ([], 10) else if x.slot ≤ slotAt ns (findN ns x.parent) then ([], 14) else if 4096 ≤ ns.length then ([], 11) else (ns ++ [⟨x, findN ns x.parent, st⟩], 0)

/-- The row behind a slice of nodes. -/
theorem NodesV.row {w : World} {a : Option Addr} {m cap : Nat} {ns : List NdD} (h : NodesV w (.slice a m cap) ns) :
    ∃ Xs, (∀ P u, AllEl NdEl P u Xs ns) ∧ (ns.length = 0 ∨ ∃ b off, a = some ⟨b, off, none⟩ ∧ b < w.heap.size ∧ w.rangeAt b off (rowsL Xs)) := by
  obtain ⟨a', cap', e, hl, hr⟩ := h
  cases e
  rcases hr with h0 | ⟨b, off, rfl, hlt, Xs, h1, h2⟩
  · obtain rfl := List.eq_nil_of_length_eq_zero h0
    exact ⟨[], fun P u => AllEl.nil _ _, .inl rfl⟩
  · exact ⟨Xs, fun P u => h2.imp fun X d hX => hX, .inr ⟨b, off, rfl, hlt, h1⟩⟩

theorem row_at {w u : World} {a : Option Addr} {n : Nat} {Ys : List (Array Value)} (h : n = 0 ∨ ∃ b off, a = some ⟨b, off, none⟩ ∧ b < w.heap.size ∧ w.rangeAt b off (rowsL Ys)) (hb : Below w.heap.size w u) : n = 0 ∨ ∃ b off, a = some ⟨b, off, none⟩ ∧ u.rangeAt b off (rowsL Ys) := by
  rcases h with h | ⟨b, off, e, hlt, hr⟩
  · exact .inl h
  · exact .inr ⟨b, off, e, Below.rng hb hlt hr⟩

theorem OwnEl.newEl {α : Type} {sz : Nat} {El : (Value → Prop) → World → Array Value → α → Prop} {e : TypeId} {w : World} {B : Nat} {v : Value} {ds : List α} (h : OwnEl El e sz w B v ds) : New B v := by
  obtain ⟨Xs, h3, _⟩ := h
  intro z l c e' _
  rcases h3.2 with ⟨rfl, _⟩ | ⟨s, cap, cur, rfl, hb, _⟩
  · cases e'
  · cases e'; exact hb

/-- The variables of Insert. -/
structure InsS (w : World) (T X Z : Array Value) (u : World) : Prop where
  t : Blk u w.heap.size T
  x : Blk u (w.heap.size + 1) X
  z : Blk u (w.heap.size + 2) Z
  b : Below w.heap.size w u

structure InsR (w : World) (T X : Array Value) (u : World) : Prop where
  t : Blk u w.heap.size T
  x : Blk u (w.heap.size + 1) X
  b : Below w.heap.size w u

theorem InsS.r {w u : World} {T X Z : Array Value} (h : InsS w T X Z u) : InsR w T X u := ⟨h.t, h.x, h.b⟩

theorem InsS.call {w u u' : World} {T X Z : Array Value} (h : InsS w T X Z u) (hb : Below u.heap.size u u') : InsS w T X Z u' := ⟨h.t.call hb, h.x.call hb, h.z.call hb, h.b.trans (hb.mono h.b.size)⟩

theorem grown_none {w w' : World} (h : w.grownBy w' none) : Below w.heap.size w w' := ⟨h.os, h.tape, h.output, h.size, fun k hk => h.block k hk (by simp)⟩

/-- What Insert promises. -/
def InsTE (ns : List NdD) (x : BkD) (st : Int) (w : World) (e : Ending) (w' : World) : Prop :=
  ∃ v', e = .returned (.tuple #[.agg #[v'], .int .i64 (insT ns x st).2]) ∧ NodesV w' v' (insT ns x st).1 ∧ New w.heap.size v' ∧ CapOK v' ∧ Below w.heap.size w w'

theorem nodes_nil (w : World) : NodesV w (.slice none 0 0) [] := ⟨none, 0, rfl, Nat.zero_le _, .inl rfl⟩

set_option maxHeartbeats 16000000 in
theorem insn_any (v : Value) (ns : List NdD) (x : BkD) (st : Int) (w : World) (hN : NodesV w v ns) (hx : x.ok) (hst : -9223372036854775808 ≤ st ∧ st ≤ 9223372036854775807) :
    Calls Try.prog 30 #[.agg #[v], .agg (flatP x.parts), .int .i64 st] w (InsTE ns x st w) := by
  obtain ⟨a, cap, rfl, hmx⟩ := hN.shape
  unfold maxLen at hmx
  have HN := Lib.hid hN
  have HX := Lib.hid hx
  have HST := Lib.hid hst
  have HFR := Lib.hid (fun u (hu : Below w.heap.size w u) => find_any _ ns x.root u (hN.call hu) hx.2.2.2.1)
  have HFP := Lib.hid (fun u (hu : Below w.heap.size w u) => find_any _ ns x.parent u (hN.call hu) hx.2.2.2.2.1)
  have HSS := Lib.hid (fun u => status_any st u)
  have hsX : (flatP x.parts).size = 238 := by rw [flatP_size, BkD.flen hx]
  have HBK : Hid (∀ u b, Blk u b (flatP x.parts) → BkAt u b 0 x) := fun u b hu => bk_at (Blk.rng hu) hx
  obtain ⟨X, hX⟩ : ∃ X, flatP x.parts = X := ⟨_, rfl⟩
  rw [hX] at HBK hsX ⊢
  have HXE := Lib.hid hX
  have hiX : (Try.prog.info? 67).map (·.size) = some X.size := by rw [hsX]; kernel_rfl
  have hi1 : (Try.prog.info? 25).map (·.size) = some 1 := by kernel_rfl
  have hir : (Try.prog.info? 57).map (·.size) = some (bytesL x.root).length := by rw [bytesL_len hx.2.2.2.1]; kernel_rfl
  have hip : (Try.prog.info? 57).map (·.size) = some (bytesL x.parent).length := by rw [bytesL_len hx.2.2.2.2.1]; kernel_rfl
  obtain ⟨hz1, hst1⟩ := zero_array (P := Try.prog) (t := 25) (n := 1) #[.slice none 0 0] (by kernel_rfl) rfl (by kernel_rfl)
  obtain ⟨m, hm⟩ : ∃ m, Hid (ns.length = m) := ⟨_, Lib.hid rfl⟩
  rw [hm.out] at hmx HFR HFP HN ⊢
  have S0 : Hid (InsS w #[.slice a m cap] X #[.slice none 0 0] (((w.alloc (.cells #[.slice a m cap] 25)).alloc (.cells X 67)).alloc (.cells #[.slice none 0 0] 25))) :=
    ⟨((Blk.new rfl).alloc _).alloc _, (Blk.new (by simp)).alloc _, Blk.new (by simp), (((Below.refl w.heap.size w).alloc (Nat.le_refl _) (.cells #[.slice a m cap] 25)).alloc (by simp) (.cells X 67)).alloc (by simp; omega) (.cells #[.slice none 0 0] 25)⟩
  obtain ⟨fr, hfr⟩ : ∃ z, findN ns x.root = z := ⟨_, rfl⟩
  obtain ⟨fp, hfp⟩ : ∃ z, findN ns x.parent = z := ⟨_, rfl⟩
  have hfpr := findN_rng ns x.parent
  rw [hfr] at HFR
  rw [hfp] at HFP hfpr
  rw [hm.out] at hfpr
  obtain ⟨R1, h1⟩ : ∃ z, bytesL x.root = z := ⟨_, rfl⟩
  obtain ⟨R2, h2⟩ : ∃ z, bytesL x.parent = z := ⟨_, rfl⟩
  have HB1 := Lib.hid h1
  have HB2 := Lib.hid h2
  rw [h1] at HFR hir
  rw [h2] at HFP hip
  clear hN hx hX hst1 h1 h2
  unfold InsTE
  obtain ⟨res, hres⟩ : ∃ z, insT ns x st = z := ⟨_, rfl⟩
  rw [hres]
  unfold insT at hres
  rw [hfr, hfp, hm.out] at hres
  by_cases hs : ¬ (0 ≤ st ∧ st ≤ 2)
  · skip
    rw [if_pos hs] at hres
    have hqs : Hid (decide (0 ≤ st ∧ st ≤ 2) = false) := decide_eq_false hs
    clear hs
    go_enter Try.func30, Try.ntmps30
    go_wp2_with (first
      | ((with_reducible refine at_build (some 12) ?_); refine wpList_build_g 25 _ rfl #[] (by simp) (.agg #[.slice none 0 0]) (bz_tree _) rfl ?_)
      | ((with_reducible refine at_store (.tmp 6) ?_); refine wpList_store_blk rfl 25 (.tmp 6) _ rfl (w.heap.size + 2) #[.slice none 0 0] rfl rfl #[.slice none 0 0] S1.out.z rfl hi1 (by simp [Value.oneCell']) ?_; intro w9 U9 B9; have HR9 := Lib.hid B9; have HB9 := Lib.hid (U9.below S1.out.b (by omega)); clear U9 B9)
      | (go_at_call 40; refine (HSS.out _).mono ?_; rintro e w1 ⟨rfl, hb1⟩; rw [hqs.out]; have S1 := Lib.hid (S0.out.call hb1); clear hb1)
      | fail)
    exact bodyPost_ret (res_cell_tmp rfl rfl rfl HR9.out Try.underlying25 rfl hi1) rfl ⟨_, by rw [← hres]; rfl, by rw [← hres]; exact nodes_nil _, New.nil _, CapOK.nil, HB9.out⟩
  rw [if_neg hs] at hres
  have hqs : Hid (decide (0 ≤ st ∧ st ≤ 2) = true) := decide_eq_true (Classical.not_not.1 hs)
  clear hs
  by_cases h9 : 0 ≤ fr
  · skip
    rw [if_pos h9] at hres
    have h9' : ¬ fr < 0 := by omega
    go_enter Try.func30, Try.ntmps30
    go_wp2_with (first
      | ((with_reducible refine at_build (some 18) ?_); refine wpList_build_g 25 _ rfl #[] (by simp) (.agg #[.slice none 0 0]) (bz_tree _) rfl ?_)
      | ((with_reducible refine at_store (.tmp 6) ?_); refine wpList_store_blk rfl 25 (.tmp 6) _ rfl (w.heap.size + 2) #[.slice none 0 0] rfl rfl #[.slice none 0 0] S2.out.z rfl hi1 (by simp [Value.oneCell']) ?_; intro w9 U9 B9; have HR9 := Lib.hid B9; have HB9 := Lib.hid (U9.below S2.out.b (by omega)); clear U9 B9)
      | (go_at_call 41; refine (HFR.out _ S1.out.b).mono ?_; rintro e w2 ⟨rfl, hb2⟩; have S2 := Lib.hid (S1.out.call hb2); clear hb2)
      | (go_at_call 40; refine (HSS.out _).mono ?_; rintro e w1 ⟨rfl, hb1⟩; rw [hqs.out]; have S1 := Lib.hid (S0.out.call hb1); clear hb1)
      | ((with_reducible refine at_load (.tmp 14) ?_); refine wpList_load_rng 57 (.tmp 14) rfl (w.heap.size + 1) 67 R1 (by have := (HBK.out _ _ S1.out.x).root; rw [Nat.zero_add, HB1.out] at this; exact this) rfl _ Try.underlying57 rfl hir rfl ?_)
      | ((with_reducible refine at_load (.tmp 3) ?_); refine wpList_load_g 25 (.tmp 3) rfl w.heap.size rfl #[.slice a m cap] _ S1.out.t Try.underlying25 rfl hi1 rfl ?_)
      | fail)
    exact bodyPost_ret (res_cell_tmp rfl rfl rfl HR9.out Try.underlying25 rfl hi1) rfl ⟨_, by rw [← hres]; rfl, by rw [← hres]; exact nodes_nil _, New.nil _, CapOK.nil, HB9.out⟩
  rw [if_neg h9] at hres
  have h9 : (0 ≤ fr) = False := eq_false h9
  by_cases h10 : fp < 0
  · skip
    rw [if_pos h10] at hres
    go_enter Try.func30, Try.ntmps30
    go_wp2_with (first
      | ((with_reducible refine at_load (.tmp 20) ?_); refine wpList_load_rng 57 (.tmp 20) rfl (w.heap.size + 1) 99 R2 (by have := (HBK.out _ _ S2.out.x).parent; rw [Nat.zero_add, HB2.out] at this; exact this) rfl _ Try.underlying57 rfl hip rfl ?_)
      | ((with_reducible refine at_load (.tmp 3) ?_); refine wpList_load_g 25 (.tmp 3) rfl w.heap.size rfl #[.slice a m cap] _ S2.out.t Try.underlying25 rfl hi1 rfl ?_)
      | ((with_reducible refine at_build (some 25) ?_); refine wpList_build_g 25 _ rfl #[] (by simp) (.agg #[.slice none 0 0]) (bz_tree _) rfl ?_)
      | ((with_reducible refine at_store (.tmp 6) ?_); refine wpList_store_blk rfl 25 (.tmp 6) _ rfl (w.heap.size + 2) #[.slice none 0 0] rfl rfl #[.slice none 0 0] S3.out.z rfl hi1 (by simp [Value.oneCell']) ?_; intro w9 U9 B9; have HR9 := Lib.hid B9; have HB9 := Lib.hid (U9.below S3.out.b (by omega)); clear U9 B9)
      | (go_at_call 41; refine (HFP.out _ S2.out.b).mono ?_; rintro e w3 ⟨rfl, hb3⟩; have S3 := Lib.hid (S2.out.call hb3); clear hb3)
      | (go_at_call 41; refine (HFR.out _ S1.out.b).mono ?_; rintro e w2 ⟨rfl, hb2⟩; have S2 := Lib.hid (S1.out.call hb2); clear hb2)
      | (go_at_call 40; refine (HSS.out _).mono ?_; rintro e w1 ⟨rfl, hb1⟩; rw [hqs.out]; have S1 := Lib.hid (S0.out.call hb1); clear hb1)
      | ((with_reducible refine at_load (.tmp 14) ?_); refine wpList_load_rng 57 (.tmp 14) rfl (w.heap.size + 1) 67 R1 (by have := (HBK.out _ _ S1.out.x).root; rw [Nat.zero_add, HB1.out] at this; exact this) rfl _ Try.underlying57 rfl hir rfl ?_)
      | ((with_reducible refine at_load (.tmp 3) ?_); refine wpList_load_g 25 (.tmp 3) rfl w.heap.size rfl #[.slice a m cap] _ S1.out.t Try.underlying25 rfl hi1 rfl ?_)
      | fail)
    exact bodyPost_ret (res_cell_tmp rfl rfl rfl HR9.out Try.underlying25 rfl hi1) rfl ⟨_, by rw [← hres]; rfl, by rw [← hres]; exact nodes_nil _, New.nil _, CapOK.nil, HB9.out⟩
  rw [if_neg h10] at hres
  obtain ⟨k, rfl⟩ : ∃ k : Nat, fp = k := ⟨fp.toNat, by omega⟩
  have h10' : ((k : Int) < 0) = False := eq_false h10
  clear h10
  have hk : k < m := by omega
  have hk' : (k : Int) < m := by omega
  have hkn : k < ns.length := by rw [hm.out]; exact hk
  obtain ⟨b, off, rfl, hlm, hbb, hna, hok⟩ := HN.out.elem hkn
  have hsl : slotAt ns (k : Int) = ns[k].b.slot := by simp [slotAt, List.getElem?_eq_getElem hkn]
  rw [hsl] at hres
  have HSL := Lib.hid hna.bk.slot
  obtain ⟨s1, hs1⟩ : ∃ z, ns[k].b.slot = z := ⟨_, rfl⟩
  obtain ⟨s0, hs0⟩ : ∃ z, x.slot = z := ⟨_, rfl⟩
  rw [hs1] at HSL hres
  rw [hs0] at hres
  have HS0 := Lib.hid hs0
  clear hna hok hsl hs1 hs0 hlm
  by_cases h14 : s0 ≤ s1
  · skip
    rw [if_pos h14] at hres
    go_enter Try.func30, Try.ntmps30
    go_wp2_with (first
      | ((with_reducible refine at_load (.tmp 20) ?_); refine wpList_load_rng 57 (.tmp 20) rfl (w.heap.size + 1) 99 R2 (by have := (HBK.out _ _ S2.out.x).parent; rw [Nat.zero_add, HB2.out] at this; exact this) rfl _ Try.underlying57 rfl hip rfl ?_)
      | ((with_reducible refine at_load (.tmp 3) ?_); refine wpList_load_g 25 (.tmp 3) rfl w.heap.size rfl #[.slice (some ⟨b, off, none⟩) m cap] _ S2.out.t Try.underlying25 rfl hi1 rfl ?_)
      | (go_at_call 41; refine (HFP.out _ S2.out.b).mono ?_; rintro e w3 ⟨rfl, hb3⟩; have S3 := Lib.hid (S2.out.call hb3); clear hb3)
      | (go_at_call 41; refine (HFR.out _ S1.out.b).mono ?_; rintro e w2 ⟨rfl, hb2⟩; have S2 := Lib.hid (S1.out.call hb2); clear hb2)
      | (go_at_call 40; refine (HSS.out _).mono ?_; rintro e w1 ⟨rfl, hb1⟩; rw [hqs.out]; have S1 := Lib.hid (S0.out.call hb1); clear hb1)
      | ((with_reducible refine at_load (.tmp 14) ?_); refine wpList_load_rng 57 (.tmp 14) rfl (w.heap.size + 1) 67 R1 (by have := (HBK.out _ _ S1.out.x).root; rw [Nat.zero_add, HB1.out] at this; exact this) rfl _ Try.underlying57 rfl hir rfl ?_)
      | ((with_reducible refine at_load (.tmp 3) ?_); refine wpList_load_g 25 (.tmp 3) rfl w.heap.size rfl #[.slice (some ⟨b, off, none⟩) m cap] _ S1.out.t Try.underlying25 rfl hi1 rfl ?_)
      | fail)
    refine wp_region_fam2 (by kernel_rfl) (by kernel_rfl) ?_
    intro T F hT hF hG
    have c0 : ∀ t, (F t).cell? ⟨w.heap.size, 0, none⟩ = some (.slice (some ⟨b, off, none⟩) m cap) := fun t => (S3.out.call (hF t)).t.cell 0
    have c1 : ∀ t, (F t).cell? ⟨w.heap.size + 1, 66, none⟩ = some (.int .u64 s0) := fun t => by
      have := (HBK.out _ _ (S3.out.call (hF t)).x).slot
      rw [Nat.zero_add, HS0.out] at this
      exact this
    have c2 : ∀ t, (F t).cell? ⟨b, off + k * 240 + 66, none⟩ = some (.int .u64 s1) := fun t => ((S3.out.call (hF t)).b.cell (p := ⟨b, off + k * 240 + 66, none⟩) hbb).trans HSL.out
    repeat (go_big_quiet_step (fail))
    refine wpQuiet_nil ?_
    rintro _ ⟨t, rfl⟩
    have S4 := Lib.hid (S3.out.call (hF t))
    obtain ⟨w4, hw4⟩ : ∃ u, F t = u := ⟨_, rfl⟩
    rw [hw4] at S4 ⊢
    clear c0 c1 c2 hG hw4 hF hT
    clear t F T
    go_wp2_with (first
      | ((with_reducible refine at_build (some 36) ?_); refine wpList_build_g 25 _ rfl #[] (by simp) (.agg #[.slice none 0 0]) (bz_tree _) rfl ?_)
      | ((with_reducible refine at_store (.tmp 6) ?_); refine wpList_store_blk rfl 25 (.tmp 6) _ rfl (w.heap.size + 2) #[.slice none 0 0] rfl rfl #[.slice none 0 0] S4.out.z rfl hi1 (by simp [Value.oneCell']) ?_; intro w9 U9 B9; have HR9 := Lib.hid B9; have HB9 := Lib.hid (U9.below S4.out.b (by omega)); clear U9 B9)
      | fail)
    exact bodyPost_ret (res_cell_tmp rfl rfl rfl HR9.out Try.underlying25 rfl hi1) rfl ⟨_, by rw [← hres]; rfl, by rw [← hres]; exact nodes_nil _, New.nil _, CapOK.nil, HB9.out⟩
  rw [if_neg h14] at hres
  have h14' : (s0 ≤ s1) = False := eq_false h14
  clear h14
  by_cases h11 : 4096 ≤ m
  · skip
    rw [if_pos h11] at hres
    have h11' : (4096 : Int) ≤ m := by omega
    go_enter Try.func30, Try.ntmps30
    go_wp2_with (first
      | ((with_reducible refine at_load (.tmp 20) ?_); refine wpList_load_rng 57 (.tmp 20) rfl (w.heap.size + 1) 99 R2 (by have := (HBK.out _ _ S2.out.x).parent; rw [Nat.zero_add, HB2.out] at this; exact this) rfl _ Try.underlying57 rfl hip rfl ?_)
      | ((with_reducible refine at_load (.tmp 3) ?_); refine wpList_load_g 25 (.tmp 3) rfl w.heap.size rfl #[.slice (some ⟨b, off, none⟩) m cap] _ S2.out.t Try.underlying25 rfl hi1 rfl ?_)
      | (go_at_call 41; refine (HFP.out _ S2.out.b).mono ?_; rintro e w3 ⟨rfl, hb3⟩; have S3 := Lib.hid (S2.out.call hb3); clear hb3)
      | (go_at_call 41; refine (HFR.out _ S1.out.b).mono ?_; rintro e w2 ⟨rfl, hb2⟩; have S2 := Lib.hid (S1.out.call hb2); clear hb2)
      | (go_at_call 40; refine (HSS.out _).mono ?_; rintro e w1 ⟨rfl, hb1⟩; rw [hqs.out]; have S1 := Lib.hid (S0.out.call hb1); clear hb1)
      | ((with_reducible refine at_load (.tmp 14) ?_); refine wpList_load_rng 57 (.tmp 14) rfl (w.heap.size + 1) 67 R1 (by have := (HBK.out _ _ S1.out.x).root; rw [Nat.zero_add, HB1.out] at this; exact this) rfl _ Try.underlying57 rfl hir rfl ?_)
      | ((with_reducible refine at_load (.tmp 3) ?_); refine wpList_load_g 25 (.tmp 3) rfl w.heap.size rfl #[.slice (some ⟨b, off, none⟩) m cap] _ S1.out.t Try.underlying25 rfl hi1 rfl ?_)
      | fail)
    refine wp_region_fam2 (by kernel_rfl) (by kernel_rfl) ?_
    intro T F hT hF hG
    have c0 : ∀ t, (F t).cell? ⟨w.heap.size, 0, none⟩ = some (.slice (some ⟨b, off, none⟩) m cap) := fun t => (S3.out.call (hF t)).t.cell 0
    have c1 : ∀ t, (F t).cell? ⟨w.heap.size + 1, 66, none⟩ = some (.int .u64 s0) := fun t => by
      have := (HBK.out _ _ (S3.out.call (hF t)).x).slot
      rw [Nat.zero_add, HS0.out] at this
      exact this
    have c2 : ∀ t, (F t).cell? ⟨b, off + k * 240 + 66, none⟩ = some (.int .u64 s1) := fun t => ((S3.out.call (hF t)).b.cell (p := ⟨b, off + k * 240 + 66, none⟩) hbb).trans HSL.out
    repeat (go_big_quiet_step (fail))
    refine wpQuiet_nil ?_
    rintro _ ⟨t, rfl⟩
    have S4 := Lib.hid (S3.out.call (hF t))
    obtain ⟨w4, hw4⟩ : ∃ u, F t = u := ⟨_, rfl⟩
    rw [hw4] at S4 ⊢
    clear c0 c1 c2 hG hw4 hF hT
    clear t F T
    go_wp2_with (first
      | ((with_reducible refine at_load (.tmp 37) ?_); refine wpList_load_1 23 (.tmp 37) rfl w.heap.size 0 (.slice (some ⟨b, off, none⟩) m cap) (S4.out.t.cell 0) rfl _ Try.underlying23 rfl rfl ?_)
      | ((with_reducible refine at_build (some 41) ?_); refine wpList_build_g 25 _ rfl #[] (by simp) (.agg #[.slice none 0 0]) (bz_tree _) rfl ?_)
      | ((with_reducible refine at_store (.tmp 6) ?_); refine wpList_store_blk rfl 25 (.tmp 6) _ rfl (w.heap.size + 2) #[.slice none 0 0] rfl rfl #[.slice none 0 0] S4.out.z rfl hi1 (by simp [Value.oneCell']) ?_; intro w9 U9 B9; have HR9 := Lib.hid B9; have HB9 := Lib.hid (U9.below S4.out.b (by omega)); clear U9 B9)
      | fail)
    exact bodyPost_ret (res_cell_tmp rfl rfl rfl HR9.out Try.underlying25 rfl hi1) rfl ⟨_, by rw [← hres]; rfl, by rw [← hres]; exact nodes_nil _, New.nil _, CapOK.nil, HB9.out⟩
  rw [if_neg h11] at hres
  have h11' : ((4096 : Int) ≤ m) = False := eq_false (by omega)
  go_enter Try.func30, Try.ntmps30
  go_wp2_with (first
    | ((with_reducible refine at_load (.tmp 20) ?_); refine wpList_load_rng 57 (.tmp 20) rfl (w.heap.size + 1) 99 R2 (by have := (HBK.out _ _ S2.out.x).parent; rw [Nat.zero_add, HB2.out] at this; exact this) rfl _ Try.underlying57 rfl hip rfl ?_)
    | ((with_reducible refine at_load (.tmp 3) ?_); refine wpList_load_g 25 (.tmp 3) rfl w.heap.size rfl #[.slice (some ⟨b, off, none⟩) m cap] _ S2.out.t Try.underlying25 rfl hi1 rfl ?_)
    | (go_at_call 41; refine (HFP.out _ S2.out.b).mono ?_; rintro e w3 ⟨rfl, hb3⟩; have S3 := Lib.hid (S2.out.call hb3); clear hb3)
    | (go_at_call 41; refine (HFR.out _ S1.out.b).mono ?_; rintro e w2 ⟨rfl, hb2⟩; have S2 := Lib.hid (S1.out.call hb2); clear hb2)
    | (go_at_call 40; refine (HSS.out _).mono ?_; rintro e w1 ⟨rfl, hb1⟩; rw [hqs.out]; have S1 := Lib.hid (S0.out.call hb1); clear hb1)
    | ((with_reducible refine at_load (.tmp 14) ?_); refine wpList_load_rng 57 (.tmp 14) rfl (w.heap.size + 1) 67 R1 (by have := (HBK.out _ _ S1.out.x).root; rw [Nat.zero_add, HB1.out] at this; exact this) rfl _ Try.underlying57 rfl hir rfl ?_)
    | ((with_reducible refine at_load (.tmp 3) ?_); refine wpList_load_g 25 (.tmp 3) rfl w.heap.size rfl #[.slice (some ⟨b, off, none⟩) m cap] _ S1.out.t Try.underlying25 rfl hi1 rfl ?_)
    | fail)
  refine wp_region_fam2 (by kernel_rfl) (by kernel_rfl) ?_
  intro T F hT hF hG
  have c0 : ∀ t, (F t).cell? ⟨w.heap.size, 0, none⟩ = some (.slice (some ⟨b, off, none⟩) m cap) := fun t => (S3.out.call (hF t)).t.cell 0
  have c1 : ∀ t, (F t).cell? ⟨w.heap.size + 1, 66, none⟩ = some (.int .u64 s0) := fun t => by
    have := (HBK.out _ _ (S3.out.call (hF t)).x).slot
    rw [Nat.zero_add, HS0.out] at this
    exact this
  have c2 : ∀ t, (F t).cell? ⟨b, off + k * 240 + 66, none⟩ = some (.int .u64 s1) := fun t => ((S3.out.call (hF t)).b.cell (p := ⟨b, off + k * 240 + 66, none⟩) hbb).trans HSL.out
  repeat (go_big_quiet_step (fail))
  refine wpQuiet_nil ?_
  rintro _ ⟨t, rfl⟩
  have S4 := Lib.hid (S3.out.call (hF t))
  obtain ⟨w4, hw4⟩ : ∃ u, F t = u := ⟨_, rfl⟩
  rw [hw4] at S4 ⊢
  clear c0 c1 c2 hG hw4 hF hT
  clear t F T
  go_wp2_with (first
    | ((with_reducible refine at_load (.tmp 37) ?_); refine wpList_load_1 23 (.tmp 37) rfl w.heap.size 0 (.slice (some ⟨b, off, none⟩) m cap) (S4.out.t.cell 0) rfl _ Try.underlying23 rfl rfl ?_)
    | fail)
  obtain ⟨Ys, hA, hrow⟩ := HN.out.row
  have HA := Lib.hid hA
  have HRW := Lib.hid hrow
  clear hA hrow
  have SD : Hid (InsS w #[.slice (some ⟨b, off, none⟩) m cap] X #[.slice none 0 0] w4.drew) := S4.out.call ⟨rfl, rfl, rfl, Nat.le_refl _, fun _ _ => rfl⟩
  have hdok : (⟨x, (k : Int), st⟩ : NdD).ok := ⟨HX.out, by show -9223372036854775808 ≤ (k : Int) ∧ (k : Int) ≤ 9223372036854775807; omega, HST.out⟩
  have HND := Lib.hid (fun u => build_nd x (k : Int) st HX.out u)
  obtain ⟨d, hd⟩ : ∃ d : NdD, Hid ((⟨x, (k : Int), st⟩ : NdD) = d) := ⟨_, Lib.hid rfl⟩
  rw [hd.out] at HND hdok
  obtain ⟨Y, hY⟩ : ∃ Y, Hid (d.cells.toArray = Y) := ⟨_, Lib.hid rfl⟩
  have hsY : Hid (Y.size = 240) := by show Y.size = 240; rw [← hY.out, List.size_toArray, NdD.len hdok]
  rw [hY.out, HXE.out] at HND
  have HDOK := Lib.hid hdok
  clear hdok
  refine wp_region_held_drew (S := fun z => InsR w #[.slice (some ⟨b, off, none⟩) m cap] X z) (by kernel_rfl) (SD.out.r) (fun _ => ?_)
  (try simp only [Act.put, List.setIfInBounds_toArray, List.set_cons_zero, List.set_cons_succ])
  refine wpAnyH_take (i := 0) (oi := ⟨some 42, _, _, _, _, _⟩) (v := .pointer (some ⟨w.heap.size, 0, none⟩)) rfl (by kernel_rfl) (by kernel_rfl) (by kernel_rfl) (fun _ _ _ h => h) (Or.inl ⟨by rfl, fun wz hz => ?_⟩) SD.out.r ?_
  · clear hz; go_simp; first | done | with_reducible rfl | rfl
  (try simp only [Act.put, List.setIfInBounds_toArray, List.set_cons_zero, List.set_cons_succ])
  refine held_load1 (oi := ⟨some 43, _, _, _, _, _⟩) 1 rfl (by kernel_rfl) (by kernel_rfl) (by kernel_rfl) (fun _ _ _ _ h => h) rfl 23 (.tmp 42) rfl w.heap.size (0) rfl (.slice (some ⟨b, off, none⟩) m cap) _ (fun u' hu => hu.t.cell 0) Try.underlying23 rfl SD.out.r ?_
  (try simp only [Act.put, List.setIfInBounds_toArray, List.set_cons_zero, List.set_cons_succ])
  refine held_load (oi := ⟨some 45, _, _, _, _, _⟩) 3 rfl (by kernel_rfl) (by kernel_rfl) (by kernel_rfl) (fun _ _ _ _ h => h) rfl 67 (.tmp 4) rfl (w.heap.size + 1) 0 rfl X.toList _ (fun u' hu => hu.x.range) Try.underlying67 rfl (by simpa using hiX) SD.out.r ?_
  simp only [Array.toArray_toList]
  (try simp only [Act.put, List.setIfInBounds_toArray, List.set_cons_zero, List.set_cons_succ])
  refine wpAnyH_take (i := 4) (oi := ⟨some 46, _, _, _, _, _⟩) (v := .int .i64 k) rfl (by kernel_rfl) (by kernel_rfl) (by kernel_rfl) (fun _ _ _ h => h) (Or.inl ⟨by rfl, fun wz hz => ?_⟩) SD.out.r ?_
  · clear hz; go_simp; first | done | with_reducible rfl | rfl
  (try simp only [Act.put, List.setIfInBounds_toArray, List.set_cons_zero, List.set_cons_succ])
  refine wpAnyH_take (i := 5) (oi := ⟨some 47, _, _, _, _, _⟩) (v := .int .i64 st) rfl (by kernel_rfl) (by kernel_rfl) (by kernel_rfl) (fun _ _ _ h => h) (Or.inl ⟨by rfl, fun wz hz => ?_⟩) SD.out.r ?_
  · clear hz; go_simp; first | done | with_reducible rfl | rfl
  (try simp only [Act.put, List.setIfInBounds_toArray, List.set_cons_zero, List.set_cons_succ])
  refine held_build (oi := ⟨some 48, _, _, _, _, _⟩) 6 rfl (by kernel_rfl) (by kernel_rfl) (by kernel_rfl) (fun _ _ _ _ h => h) rfl 69 _ rfl #[(0, .agg X), (1, .int .i64 k), (2, .int .i64 st)] (by simp [Act.eval]) (.agg Y) (HND.out) SD.out.r ?_
  (try simp only [Act.put, List.setIfInBounds_toArray, List.set_cons_zero, List.set_cons_succ])
  refine wpAnyH_ready (rs := [2, 7]) (by kernel_rfl) (by simp) ?_
  refine AllReadyH.cons (o := ⟨some 44, _, _, _, _, _⟩) rfl (fun K hK => ?_) (AllReadyH.cons (o := ⟨some 49, _, _, _, _, _⟩) rfl (fun K hK => ?_) AllReadyH.nil)
  · skip
    refine wp_appEls ndOK Try.underlying23 info_node (by rfl) (by omega) (.const (.slice none 0 0)) (.tmp 43) rfl (w.heap.size + 3) (.slice none 0 0) [] rfl (OwnEl.nil _ _) (some ⟨b, off, none⟩) m cap ns Ys rfl hm.out (row_at HRW.out SD.out.b) (HA.out _ _) (by simp [hm.out]; omega) (by simp [hm.out]; unfold maxLen; omega) (by have := SD.out.z.lt; simp at this ⊢; omega) ?_
    intro v3 w3' ho3 hg3 _
    rw [List.nil_append] at ho3
    have HO3 := Lib.hid ho3
    have HG3 := Lib.hid (grown_none hg3)
    have S5 := Lib.hid (SD.out.call HG3.out)
    clear ho3 hg3
    refine hK.out _ _ (S5.out.r) (fun _ => ?_)
    clear hK K
    (try simp only [Act.put, List.setIfInBounds_toArray, List.set_cons_zero, List.set_cons_succ])
    refine wpAnyH_ready (rs := [7]) (by kernel_rfl) (by simp) ?_
    refine AllReadyH.cons (o := ⟨some 49, _, _, _, _, _⟩) rfl (fun K hK => ?_) AllReadyH.nil
    refine wp_buildSlice 23 1 _ rfl #[(0, .agg Y)] (by simp [Act.eval, Act.put]) _ (bel_node hsY.out w3') ?_
    have hal : Below (w3').heap.size (w3') ((w3').alloc (.cells Y 69)) := (Below.refl _ _).alloc (Nat.le_refl _) _
    have HAL := Lib.hid hal
    clear hal
    have HO6 := Lib.hid (HO3.out.call ndOK HAL.out)
    have S6 := Lib.hid (S5.out.call HAL.out)
    have BY6 : Hid (Blk (w3'.alloc (.cells Y 69)) w3'.heap.size Y) := Blk.new rfl
    refine hK.out _ _ (S6.out.r) (fun _ => ?_)
    clear hK K
    (try simp only [Act.put, List.setIfInBounds_toArray, List.set_cons_zero, List.set_cons_succ])
    refine wpAnyH_ready (rs := [8]) (by kernel_rfl) (by simp) ?_
    refine AllReadyH.cons (o := ⟨some 50, _, _, _, _, _⟩) rfl (fun K hK => ?_) AllReadyH.nil
    refine wp_appEl ndOK Try.underlying23 info_node (by rfl) (by omega) (.tmp 44) (.tmp 49) rfl (w.heap.size + 3) v3 ns rfl HO6.out w3'.heap.size 1 Y d rfl ⟨hY.out.symm, HDOK.out⟩ BY6.out.range (by simp [hm.out]; omega) (by simp [hm.out]; unfold maxLen; omega) (by have := S6.out.z.lt; omega) ?_
    intro v8 w8 ho8 hg8 _
    have HO8 := Lib.hid ho8
    have S8 : Hid (InsS w #[.slice (some ⟨b, off, none⟩) m cap] X #[.slice none 0 0] w8) := (by
      have hne : ∀ j, j < w.heap.size + 3 → some j ≠ v3.ownBlock := fun j hj e => by have := (HO6.out.lt j e.symm).1; omega
      exact ⟨S6.out.t.grown hg8 (hne _ (by omega)), S6.out.x.grown hg8 (hne _ (by omega)), S6.out.z.grown hg8 (hne _ (by omega)), S6.out.b.grown hg8 S6.out.b.size (fun j hj => by have := (HO6.out.lt j hj).1; omega)⟩)
    clear ho8 hg8
    refine hK.out _ _ (S8.out.r) (fun _ => ?_)
    clear hK K
    (try simp only [Act.put, List.setIfInBounds_toArray, List.set_cons_zero, List.set_cons_succ])
    
    obtain ⟨va, vn, vcap, hv8⟩ : ∃ va vn vcap, v8 = .slice va vn vcap := by obtain ⟨p, q, e, _⟩ := HO8.out.shape; exact ⟨p, _, q, e⟩
    rw [hv8] at HO8 ⊢
    clear hv8
    refine held_build (oi := ⟨some 51, _, _, _, _, _⟩) 9 rfl (by kernel_rfl) (by kernel_rfl) (by kernel_rfl) (fun _ _ _ _ h => h) rfl 25 _ rfl #[(0, .slice va vn vcap)] (by simp [Act.eval]) (.agg #[.slice va vn vcap]) (fun u => b_tree va vn vcap u) S8.out.r ?_
    (try simp only [Act.put, List.setIfInBounds_toArray, List.set_cons_zero, List.set_cons_succ])
    refine wpAnyH_ready (rs := [10]) (by kernel_rfl) (by simp) ?_
    refine AllReadyH.cons (o := ⟨none, _, _, _, _, _⟩) rfl (fun K hK => ?_) AllReadyH.nil
    refine wp_store_blk 25 (.tmp 6) _ rfl (w.heap.size + 2) #[.slice va vn vcap] rfl rfl #[.slice none 0 0] S8.out.z rfl hi1 (by simp [Value.oneCell']) ?_
    intro w9 U9 B9
    have HR9 := Lib.hid B9
    have HU9 := Lib.hid U9
    have HB9 := Lib.hid (U9.below S8.out.b (by omega))
    clear U9 B9
    have R9 : Hid (InsR w #[.slice (some ⟨b, off, none⟩) m cap] X w9) := ⟨HU9.out.blk S8.out.t (by omega), HU9.out.blk S8.out.x (by omega), HB9.out⟩
    refine hK.out _ _ (R9.out) (fun _ => ?_)
    clear hK K
    (try simp only [Act.put, List.setIfInBounds_toArray, List.set_cons_zero, List.set_cons_succ])
    refine wpAnyH_ready (rs := [11]) (by kernel_rfl) (by simp) ?_
    refine AllReadyH.cons (o := ⟨some 7, _, _, _, _, _⟩) rfl (fun K hK => ?_) AllReadyH.nil
    go_simp
    refine hK.out _ _ (R9.out) (fun _ => ?_)
    clear hK K
    (try simp only [Act.put, List.setIfInBounds_toArray, List.set_cons_zero, List.set_cons_succ])
    refine wpAnyH_done (by kernel_rfl) ?_ _
    have HO9 := HO8.out.grown ndOK (upd_grown HU9.out) (fun n hn e => by have := (HO8.out.lt n hn).1; cases e; omega) (fun X d h => h)
    go_wp2_with fail
    refine bodyPost_ret (res_cell_tmp rfl rfl rfl HR9.out Try.underlying25 rfl hi1) rfl ⟨_, by rw [← hres]; rfl, ?_, ?_, ?_, HB9.out⟩
    · rw [← hres]
      show NodesV w9 _ (ns ++ [⟨x, (k : Int), st⟩])
      rw [hd.out]
      exact HO9.elV ndOK
    · exact HO8.out.newEl.mono (by omega)
    · intro a n c e
      obtain ⟨a', c', e', _, hle, _⟩ := HO8.out.shape
      rw [e'] at e; cases e; exact hle
  · skip
    refine wp_buildSlice 23 1 _ rfl #[(0, .agg Y)] (by simp [Act.eval, Act.put]) _ (bel_node hsY.out w4.drew) ?_
    have hal : Below (w4.drew).heap.size (w4.drew) ((w4.drew).alloc (.cells Y 69)) := (Below.refl _ _).alloc (Nat.le_refl _) _
    have HAL := Lib.hid hal
    clear hal
    have S5' := Lib.hid (SD.out.call HAL.out)
    have BY5 : Hid (Blk (w4.drew.alloc (.cells Y 69)) w4.drew.heap.size Y) := Blk.new rfl
    refine hK.out _ _ (S5'.out.r) (fun _ => ?_)
    clear hK K
    (try simp only [Act.put, List.setIfInBounds_toArray, List.set_cons_zero, List.set_cons_succ])
    refine wpAnyH_ready (rs := [2]) (by kernel_rfl) (by simp) ?_
    refine AllReadyH.cons (o := ⟨some 44, _, _, _, _, _⟩) rfl (fun K hK => ?_) AllReadyH.nil
    refine wp_appEls ndOK Try.underlying23 info_node (by rfl) (by omega) (.const (.slice none 0 0)) (.tmp 43) rfl (w.heap.size + 3) (.slice none 0 0) [] rfl (OwnEl.nil _ _) (some ⟨b, off, none⟩) m cap ns Ys rfl hm.out (row_at HRW.out S5'.out.b) (HA.out _ _) (by simp [hm.out]; omega) (by simp [hm.out]; unfold maxLen; omega) (by have := S5'.out.z.lt; simp at this ⊢; omega) ?_
    intro v3 w3' ho3 hg3 _
    rw [List.nil_append] at ho3
    have HO3 := Lib.hid ho3
    have HG3 := Lib.hid (grown_none hg3)
    have S5 := Lib.hid (S5'.out.call HG3.out)
    have BY6 := Lib.hid (BY5.out.call HG3.out)
    clear ho3 hg3
    refine hK.out _ _ (S5.out.r) (fun _ => ?_)
    clear hK K
    (try simp only [Act.put, List.setIfInBounds_toArray, List.set_cons_zero, List.set_cons_succ])
    refine wpAnyH_ready (rs := [8]) (by kernel_rfl) (by simp) ?_
    refine AllReadyH.cons (o := ⟨some 50, _, _, _, _, _⟩) rfl (fun K hK => ?_) AllReadyH.nil
    refine wp_appEl ndOK Try.underlying23 info_node (by rfl) (by omega) (.tmp 44) (.tmp 49) rfl (w.heap.size + 3) v3 ns rfl HO3.out w4.drew.heap.size 1 Y d rfl ⟨hY.out.symm, HDOK.out⟩ BY6.out.range (by simp [hm.out]; omega) (by simp [hm.out]; unfold maxLen; omega) (by have := S5.out.z.lt; omega) ?_
    intro v8 w8 ho8 hg8 _
    have HO8 := Lib.hid ho8
    have S8 : Hid (InsS w #[.slice (some ⟨b, off, none⟩) m cap] X #[.slice none 0 0] w8) := (by
      have hne : ∀ j, j < w.heap.size + 3 → some j ≠ v3.ownBlock := fun j hj e => by have := (HO3.out.lt j e.symm).1; omega
      exact ⟨S5.out.t.grown hg8 (hne _ (by omega)), S5.out.x.grown hg8 (hne _ (by omega)), S5.out.z.grown hg8 (hne _ (by omega)), S5.out.b.grown hg8 S5.out.b.size (fun j hj => by have := (HO3.out.lt j hj).1; omega)⟩)
    clear ho8 hg8
    refine hK.out _ _ (S8.out.r) (fun _ => ?_)
    clear hK K
    (try simp only [Act.put, List.setIfInBounds_toArray, List.set_cons_zero, List.set_cons_succ])
    
    obtain ⟨va, vn, vcap, hv8⟩ : ∃ va vn vcap, v8 = .slice va vn vcap := by obtain ⟨p, q, e, _⟩ := HO8.out.shape; exact ⟨p, _, q, e⟩
    rw [hv8] at HO8 ⊢
    clear hv8
    refine held_build (oi := ⟨some 51, _, _, _, _, _⟩) 9 rfl (by kernel_rfl) (by kernel_rfl) (by kernel_rfl) (fun _ _ _ _ h => h) rfl 25 _ rfl #[(0, .slice va vn vcap)] (by simp [Act.eval]) (.agg #[.slice va vn vcap]) (fun u => b_tree va vn vcap u) S8.out.r ?_
    (try simp only [Act.put, List.setIfInBounds_toArray, List.set_cons_zero, List.set_cons_succ])
    refine wpAnyH_ready (rs := [10]) (by kernel_rfl) (by simp) ?_
    refine AllReadyH.cons (o := ⟨none, _, _, _, _, _⟩) rfl (fun K hK => ?_) AllReadyH.nil
    refine wp_store_blk 25 (.tmp 6) _ rfl (w.heap.size + 2) #[.slice va vn vcap] rfl rfl #[.slice none 0 0] S8.out.z rfl hi1 (by simp [Value.oneCell']) ?_
    intro w9 U9 B9
    have HR9 := Lib.hid B9
    have HU9 := Lib.hid U9
    have HB9 := Lib.hid (U9.below S8.out.b (by omega))
    clear U9 B9
    have R9 : Hid (InsR w #[.slice (some ⟨b, off, none⟩) m cap] X w9) := ⟨HU9.out.blk S8.out.t (by omega), HU9.out.blk S8.out.x (by omega), HB9.out⟩
    refine hK.out _ _ (R9.out) (fun _ => ?_)
    clear hK K
    (try simp only [Act.put, List.setIfInBounds_toArray, List.set_cons_zero, List.set_cons_succ])
    refine wpAnyH_ready (rs := [11]) (by kernel_rfl) (by simp) ?_
    refine AllReadyH.cons (o := ⟨some 7, _, _, _, _, _⟩) rfl (fun K hK => ?_) AllReadyH.nil
    go_simp
    refine hK.out _ _ (R9.out) (fun _ => ?_)
    clear hK K
    (try simp only [Act.put, List.setIfInBounds_toArray, List.set_cons_zero, List.set_cons_succ])
    refine wpAnyH_done (by kernel_rfl) ?_ _
    have HO9 := HO8.out.grown ndOK (upd_grown HU9.out) (fun n hn e => by have := (HO8.out.lt n hn).1; cases e; omega) (fun X d h => h)
    go_wp2_with fail
    refine bodyPost_ret (res_cell_tmp rfl rfl rfl HR9.out Try.underlying25 rfl hi1) rfl ⟨_, by rw [← hres]; rfl, ?_, ?_, ?_, HB9.out⟩
    · rw [← hres]
      show NodesV w9 _ (ns ++ [⟨x, (k : Int), st⟩])
      rw [hd.out]
      exact HO9.elV ndOK
    · exact HO8.out.newEl.mono (by omega)
    · intro a n c e
      obtain ⟨a', c', e', _, hle, _⟩ := HO8.out.shape
      rw [e'] at e; cases e; exact hle
end

/-! TrC -/
section
set_option linter.unusedVariables false
set_option linter.unusedSimpArgs false
open Go.RowKit

set_option maxRecDepth 100000

theorem i64_and16 (n : Int) : bits .and .i64 n 65535 = n % 65536 := by
  have h3 : (BitVec.ofInt 64 65535).toNat = 2 ^ 16 - 1 := by decide
  have key : (BitVec.ofInt 64 n &&& BitVec.ofInt 64 65535).toNat = (n % ((2 ^ 64 : Nat) : Int)).toNat % 2 ^ 16 := by
    rw [BitVec.toNat_and, BitVec.toNat_ofInt, h3, Nat.and_two_pow_sub_one_eq_mod]
  show IntKind.i64.wrap ((BitVec.ofInt 64 n &&& BitVec.ofInt 64 65535).toNat : Nat) = n % 65536
  rw [key, IntKind.wrap_i64]
  omega

theorem i64_and24 (n : Int) : bits .and .i64 n 16777215 = n % 16777216 := by
  have h3 : (BitVec.ofInt 64 16777215).toNat = 2 ^ 24 - 1 := by decide
  have key : (BitVec.ofInt 64 n &&& BitVec.ofInt 64 16777215).toNat = (n % ((2 ^ 64 : Nat) : Int)).toNat % 2 ^ 24 := by
    rw [BitVec.toNat_and, BitVec.toNat_ofInt, h3, Nat.and_two_pow_sub_one_eq_mod]
  show IntKind.i64.wrap ((BitVec.ofInt 64 n &&& BitVec.ofInt 64 16777215).toNat : Nat) = n % 16777216
  rw [key, IntKind.wrap_i64]
  omega

theorem i64_and16_nat (n : Int) : ∃ m : Nat, m ≤ 65535 ∧ bits .and .i64 n 65535 = m := ⟨(n % 65536).toNat, by omega, by rw [i64_and16]; omega⟩

theorem i64_and24_nat (n : Int) : ∃ m : Nat, m ≤ 16777215 ∧ bits .and .i64 n 16777215 = m := ⟨(n % 16777216).toNat, by omega, by rw [i64_and24]; omega⟩

/-- What At gives, as a plain function. -/
def atN (l : List Int) (i : Nat) : Nat := if l.length = 0 then i % 65536 else (l.getD (i % l.length) 0 % 16777216).toNat + i / l.length

set_option maxHeartbeats 4000000 in
theorem at_val (v : Value) (l : List Int) (i : Nat) (w : World) (h : IntsV w v l) (hi : i ≤ 1000000) :
    Calls Try.prog 29 #[v, .int .i64 i] w fun e w' => e = .returned (.int .i64 (atN l i)) ∧ Below w.heap.size w w' := by
  obtain ⟨a, len, cap, rfl⟩ := ints_shape' h.1
  have HI := Lib.hid h
  have HL := Lib.hid h.len
  have hmx := h.len.2
  unfold maxLen at hmx
  obtain ⟨q, hq⟩ : ∃ q, atN l i = q := ⟨_, rfl⟩
  rw [hq]
  unfold atN at hq
  rw [HL.out.1] at hq
  have HQ := Lib.hid hq
  clear h hq
  by_cases h0 : len = 0
  · subst h0
    have hk : bits .and .i64 i 65535 = (q : Int) := by rw [i64_and16, ← HQ.out, if_pos rfl]; omega
    go_enter Try.func29, Try.ntmps29
    go_wp2_with fail
    go_ret
    exact ⟨rfl, Below.refl _ _⟩
  have hz : ((len : Int) == 0) = false := by simp; omega
  have hz0 : ¬ (len : Int) = 0 := by omega
  have hr : i % len < len := Nat.mod_lt _ (by omega)
  have HQ2 : Hid ((l.getD (i % len) 0 % 16777216).toNat + i / len = q) := by have := HQ.out; rw [if_neg h0] at this; exact this
  have hdl : i / len ≤ i := Nat.div_le_self _ _
  obtain ⟨b, off, rfl, hbb, hce⟩ := HI.out.at (k := i % len) (by rw [HL.out.1]; exact hr)
  have hm : Int.tmod (i : Int) (len : Int) = ((i % len : Nat) : Int) := by rw [Int.tmod_eq_emod_of_nonneg (by omega)]; rfl
  have hd : Int.tdiv (i : Int) (len : Int) = ((i / len : Nat) : Int) := by rw [Int.tdiv_eq_ediv_of_nonneg (by omega)]; rfl
  obtain ⟨r, hrr⟩ : ∃ r, i % len = r := ⟨_, rfl⟩
  obtain ⟨d, hdd⟩ : ∃ d, i / len = d := ⟨_, rfl⟩
  rw [hrr] at hm hce hr HQ2
  rw [hdd] at hd hdl HQ2
  obtain ⟨x, hx⟩ : ∃ x, l.getD r 0 = x := ⟨_, rfl⟩
  rw [hx] at hce HQ2
  have ha : bits .and .i64 x 16777215 = (((x % 16777216).toNat : Nat) : Int) := by rw [i64_and24]; omega
  have hyb : (x % 16777216).toNat ≤ 16777215 := by omega
  obtain ⟨y, hy⟩ : ∃ y, (x % 16777216).toNat = y := ⟨_, rfl⟩
  rw [hy] at ha hyb HQ2
  have HCE := Lib.hid hce
  have hri : (r : Int) < len := by omega
  clear hrr hdd hx hce hy h0 HQ
  go_enter Try.func29, Try.ntmps29
  go_wp2_with fail
  refine wp_region_fam2 (by kernel_rfl) (by kernel_rfl) ?_
  intro T F hT hF hG
  have c0 : ∀ t, (F t).cell? ⟨b, off + r, none⟩ = some (.int .i64 x) := fun t => ((hF t).cell (p := ⟨b, off + r, none⟩) hbb).trans HCE.out
  repeat (go_big_quiet_step (fail))
  refine wpQuiet_nil ?_
  rintro _ ⟨t, rfl⟩
  have hft := hF t
  go_wp2_with fail
  go_ret
  exact ⟨by rw [← HQ2.out]; simp, hft⟩

theorem at_any (v : Value) (l : List Int) (i : Nat) (w : World) (h : IntsV w v l) (hi : i ≤ 1000000) :
    Calls Try.prog 29 #[v, .int .i64 i] w fun e w' => (∃ k : Nat, k ≤ 20000000 ∧ e = .returned (.int .i64 k)) ∧ Below w.heap.size w w' := by
  refine (at_val v l i w h hi).mono ?_
  rintro e w' ⟨rfl, hb⟩
  refine ⟨⟨_, ?_, rfl⟩, hb⟩
  unfold atN
  have := Nat.div_le_self i l.length
  split <;> omega
end

/-! TrD -/
section
set_option linter.unusedVariables false
set_option linter.unusedSimpArgs false
open Go.RowKit

/-- A valid closed tree. -/
structure TrOK (ns : List NdD) : Prop where
  pos : 0 < ns.length
  root : ∀ h : 0 < ns.length, ns[0].up = -1
  up : ∀ i (hi : i < ns.length), 0 < i → ∃ u : Nat, ∃ hu : u < ns.length, u < i ∧ ns[i].up = u ∧ ns[i].b.parent = ns[u].b.root ∧ ns[u].b.slot < ns[i].b.slot ∧ (ns[i].st = 1 → ns[u].st = 1) ∧ (ns[u].st = 2 → ns[i].st = 2)
  ne : ∀ i j (hi : i < ns.length) (hj : j < ns.length), i < j → ns[i].b.root ≠ ns[j].b.root
  st : ∀ i (hi : i < ns.length), 0 ≤ ns[i].st ∧ ns[i].st ≤ 2

theorem TrOK.one (x : BkD) (st : Int) (h : 0 ≤ st ∧ st ≤ 2) : TrOK [⟨x, -1, st⟩] where
  pos := by simp
  root := fun _ => rfl
  up := fun i hi h0 => by simp at hi; omega
  ne := fun i j hi hj h => by simp at hi hj; omega
  st := fun i hi => by
    obtain rfl : i = 0 := by simpa using hi
    exact h

theorem TrOK.find {ns : List NdD} (h : TrOK ns) {q : Nat} (hq : q < ns.length) : findN ns ns[q].b.root = q := by
  rcases findN_spec ns ns[q].b.root with ⟨_, h2⟩ | ⟨k, hk, h1, h2, h3⟩
  · exact absurd rfl (h2 q hq)
  · rw [h1]
    by_cases e : k = q
    · rw [e]
    · rcases Nat.lt_or_gt_of_ne e with hl | hl
      · exact absurd h2 (h.ne k q hk hq hl)
      · exact absurd rfl (h3 q hl hq)

theorem insT_cases {ns : List NdD} {x : BkD} {st : Int} (he : (insT ns x st).2 = 0) : findN ns x.root < 0 ∧ 0 ≤ findN ns x.parent ∧ slotAt ns (findN ns x.parent) < x.slot ∧ ns.length < 4096 ∧ (insT ns x st).1 = ns ++ [⟨x, findN ns x.parent, st⟩] := by
  unfold insT at he ⊢
  split at he
  · cases he
  · rename_i h1
    split at he
    · cases he
    · rename_i h2
      split at he
      · cases he
      · rename_i h3
        split at he
        · cases he
        · rename_i h4
          split at he
          · cases he
          · rename_i h5
            rw [if_neg h1, if_neg h2, if_neg h3, if_neg h4, if_neg h5]
            exact ⟨by omega, by omega, by omega, by omega, rfl⟩

theorem insT_bad {ns : List NdD} {x : BkD} {st : Int} (he : (insT ns x st).2 ≠ 0) : (insT ns x st).1 = [] := by
  unfold insT at he ⊢
  split
  · rfl
  · split
    · rfl
    · split
      · rfl
      · split
        · rfl
        · split
          · rfl
          · rename_i h1 h2 h3 h4 h5
            rw [if_neg h1, if_neg h2, if_neg h3, if_neg h4, if_neg h5] at he
            exact absurd rfl he

theorem TrOK.add {ns : List NdD} (h : TrOK ns) {q : Nat} (hq : q < ns.length) {x : BkD} {st : Int} (hp : x.parent = ns[q].b.root) (hst : 0 ≤ st ∧ st ≤ 2) (c1 : st = 1 → ns[q].st = 1) (c2 : ns[q].st = 2 → st = 2) (he : (insT ns x st).2 = 0) :
    (insT ns x st).1 = ns ++ [⟨x, q, st⟩] ∧ TrOK (ns ++ [⟨x, q, st⟩]) := by
  obtain ⟨h1, h2, h3, h4, h5⟩ := insT_cases he
  have hf : findN ns x.parent = q := by rw [hp]; exact h.find hq
  rw [hf] at h3 h5
  have hs : slotAt ns (q : Int) = ns[q].b.slot := by simp [slotAt, List.getElem?_eq_getElem hq]
  rw [hs] at h3
  refine ⟨h5, ⟨by simp, fun _ => ?_, fun i hi h0 => ?_, fun i j hi hj hij => ?_, fun i hi => ?_⟩⟩
  · rw [List.getElem_append_left h.pos]; exact h.root h.pos
  · by_cases hil : i < ns.length
    · obtain ⟨u, hu, a1, a2, a3, a4, a5, a6⟩ := h.up i hil h0
      refine ⟨u, by simp; omega, a1, ?_⟩
      rw [List.getElem_append_left hil, List.getElem_append_left hu]
      exact ⟨a2, a3, a4, a5, a6⟩
    · obtain rfl : i = ns.length := by simp at hi; omega
      refine ⟨q, by simp; omega, hq, ?_⟩
      rw [List.getElem_append_right (Nat.le_refl _), List.getElem_append_left hq]
      simp only [Nat.sub_self, List.getElem_cons_zero]
      exact ⟨by trivial, hp, h3, c1, c2⟩
  · have hil : i < ns.length := by simp at hj; omega
    rw [List.getElem_append_left hil]
    by_cases hjl : j < ns.length
    · rw [List.getElem_append_left hjl]; exact h.ne i j hil hjl hij
    · obtain rfl : j = ns.length := by simp at hj; omega
      rw [List.getElem_append_right (Nat.le_refl _)]
      simp only [Nat.sub_self, List.getElem_cons_zero]
      rcases findN_spec ns x.root with ⟨_, b2⟩ | ⟨k, hk, b1, _, _⟩
      · exact b2 i hil
      · rw [b1] at h1; omega
  · by_cases hil : i < ns.length
    · rw [List.getElem_append_left hil]; exact h.st i hil
    · obtain rfl : i = ns.length := by simp at hi; omega
      rw [List.getElem_append_right (Nat.le_refl _)]
      simpa using hst

theorem NodesV.off {w : World} {v : Value} {ns : List NdD} (h : NodesV w v ns) {g : Nat} (hg : w.heap.size ≤ g) : Off g v := by
  obtain ⟨a, cap, rfl, hl, hr⟩ := h
  intro z l c e h0
  cases e
  rcases hr with h1 | ⟨b, off, e, hb, _⟩
  · omega
  · cases e; simp only; omega

theorem NodesV.grownOff {w w' : World} {v : Value} {ns : List NdD} {g : Nat} (h : NodesV w v ns) (hg : w.grownBy w' (some g)) (ho : Off g v) : NodesV w' v ns := by
  obtain ⟨a, cap, rfl, hl, hr⟩ := h
  refine ⟨a, cap, rfl, hl, ?_⟩
  rcases hr with h0 | ⟨b, off, rfl, hlt, Xs, h1, h2⟩
  · exact .inl h0
  · by_cases h0 : ns.length = 0
    · exact .inl h0
    have hne : some b ≠ some g := fun e => ho _ _ _ rfl (by omega) (by cases e; rfl)
    exact .inr ⟨b, off, rfl, Nat.lt_of_lt_of_le hlt hg.size, Xs, fun j u hj => by rw [hg.cell_far ⟨b, off + j, none⟩ hlt hne]; exact h1 j u hj, h2.imp fun X d hX => hX⟩

/-- The variables of Tree: its result in block P, the tree in block B. -/
structure TrV (w : World) (P B : Nat) (s : Value) (ns : List NdD) (u : World) : Prop where
  r : Blk u P #[.slice none 0 0]
  t : Blk u B #[s]
  n : NodesV u s ns
  o1 : Off P s
  o2 : Off B s
  b : Below w.heap.size w u
  lt : P < B
  eq : P = w.heap.size
  cap : CapOK s

theorem TrV.call {w u u' : World} {P B : Nat} {s : Value} {ns : List NdD} (h : TrV w P B s ns u) (hb : Below u.heap.size u u') : TrV w P B s ns u' := ⟨h.r.call hb, h.t.call hb, h.n.call hb, h.o1, h.o2, h.b.trans (hb.mono h.b.size), h.lt, h.eq, h.cap⟩

/-- Another block that is younger was written. -/
theorem TrV.upd {w u u' : World} {P B g : Nat} {s : Value} {ns : List NdD} (h : TrV w P B s ns u) (U : Upd g u u') (hg : B < g) (ho : Off g s) : TrV w P B s ns u' :=
  ⟨U.blk h.r (by have := h.lt; omega), U.blk h.t (by omega), h.n.grownOff (upd_grown U) ho, h.o1, h.o2, U.below h.b (by have h1 := h.lt; have h2 := h.eq; omega), h.lt, h.eq, h.cap⟩
end

/-! TrF -/
section
set_option linter.unusedVariables false
set_option linter.unusedSimpArgs false
open Go.RowKit

set_option maxRecDepth 100000

/-- The path from the root to a node. -/
def upAt (ns : List NdD) (i : Nat) : Nat := (((ns[i]?).map NdD.up).getD 0).toNat

def pathF (ns : List NdD) : Nat → Nat → List Int
  | 0, _ => []
  | f + 1, i => if i = 0 then [0] else pathF ns f (upAt ns i) ++ [(i : Int)]

def pathN (ns : List NdD) (i : Int) : List Int := if 0 ≤ i ∧ i < ns.length then pathF ns (i.toNat + 1) i.toNat else []

theorem TrOK.upAt {ns : List NdD} (h : TrOK ns) {i : Nat} (hi : i < ns.length) (h0 : 0 < i) : upAt ns i < i ∧ upAt ns i < ns.length ∧ ns[i].up = upAt ns i := by
  obtain ⟨u, hu, h1, h2, _⟩ := h.up i hi h0
  have e : Go.Proofs.Ytdlbobpglgjhiaa.upAt ns i = u := by simp [Go.Proofs.Ytdlbobpglgjhiaa.upAt, List.getElem?_eq_getElem hi, h2]
  rw [e]
  exact ⟨h1, hu, h2⟩

/-- Fuel beyond the index changes nothing. -/
theorem pathF_two {ns : List NdD} (h : TrOK ns) : ∀ i, i < ns.length → ∀ f g, i + 1 ≤ f → i + 1 ≤ g → pathF ns f i = pathF ns g i := by
  intro i
  induction i using Nat.strongRecOn with
  | ind i ih =>
    intro hi f g hf hg
    obtain ⟨f', rfl⟩ : ∃ f', f = f' + 1 := ⟨f - 1, by omega⟩
    obtain ⟨g', rfl⟩ : ∃ g', g = g' + 1 := ⟨g - 1, by omega⟩
    show (if i = 0 then [0] else pathF ns f' (upAt ns i) ++ [(i : Int)]) = (if i = 0 then [0] else pathF ns g' (upAt ns i) ++ [(i : Int)])
    by_cases h0 : i = 0
    · rw [if_pos h0, if_pos h0]
    · rw [if_neg h0, if_neg h0]
      obtain ⟨h1, h2, _⟩ := h.upAt hi (by omega)
      rw [ih _ h1 h2 f' g' (by omega) (by omega)]

theorem pathN_zero {ns : List NdD} (h : 0 < ns.length) : pathN ns (0 : Int) = [0] := by unfold pathN; rw [if_pos (by omega)]; rfl

theorem pathN_step {ns : List NdD} (h : TrOK ns) {i : Nat} (hi : i < ns.length) (h0 : 0 < i) : pathN ns (i : Int) = pathN ns (upAt ns i : Int) ++ [(i : Int)] := by
  obtain ⟨h1, h2, _⟩ := h.upAt hi h0
  unfold pathN
  rw [if_pos (by omega), if_pos (by omega)]
  show (if i = 0 then [0] else pathF ns i (upAt ns i) ++ [(i : Int)]) = _
  rw [if_neg (by omega), pathF_two h _ h2 i ((upAt ns i : Int).toNat + 1) (by omega) (by omega)]
  rfl

theorem pathN_out {ns : List NdD} {i : Int} (h : ¬ (0 ≤ i ∧ i < ns.length)) : pathN ns i = [] := by unfold pathN; rw [if_neg h]

theorem pathF_len (ns : List NdD) : ∀ f i, (pathF ns f i).length ≤ f
  | 0, _ => by simp [pathF]
  | f + 1, i => by
    have := pathF_len ns f (upAt ns i)
    show (if i = 0 then [0] else pathF ns f (upAt ns i) ++ [(i : Int)]).length ≤ _
    split
    · simp
    · simp; omega

theorem pathN_len (ns : List NdD) (i : Int) : (pathN ns i).length ≤ ns.length := by
  unfold pathN
  split
  · have := pathF_len ns (i.toNat + 1) i.toNat; omega
  · simp

/-- The nodes of a path: each is in the tree, and none is behind the last one. -/
theorem pathN_mem {ns : List NdD} (h : TrOK ns) : ∀ i : Nat, i < ns.length → ∀ x ∈ pathN ns (i : Int), 0 ≤ x ∧ x ≤ i := by
  intro i
  induction i using Nat.strongRecOn with
  | ind i ih =>
    intro hi x hx
    by_cases h0 : i = 0
    · subst h0
      rw [show ((0 : Nat) : Int) = 0 from rfl, pathN_zero h.pos] at hx
      rw [List.mem_singleton.1 hx]; omega
    · rw [pathN_step h hi (by omega)] at hx
      obtain ⟨h1, h2, _⟩ := h.upAt hi (by omega)
      rcases List.mem_append.1 hx with hm | hm
      · have := ih _ h1 h2 x hm; omega
      · rw [List.mem_singleton.1 hm]; omega

theorem pathN_rng {ns : List NdD} (h : TrOK ns) (i : Int) : ∀ x ∈ pathN ns i, 0 ≤ x ∧ x < ns.length := by
  intro x hx
  by_cases hi : 0 ≤ i ∧ i < ns.length
  · obtain ⟨k, rfl⟩ : ∃ k : Nat, i = k := ⟨i.toNat, by omega⟩
    have := pathN_mem h k (by omega) x hx; omega
  · rw [pathN_out hi] at hx; cases hx

theorem OwnK.lower {k : IntKind} {e : TypeId} {w : World} {B B' : Nat} {v : Value} {xs : List Int} (h : OwnK k e w B v xs) (hB : B' ≤ B) : OwnK k e w B' v xs := by
  refine ⟨h.1, ?_⟩
  rcases h.2 with h' | ⟨g, cap, cur, e', h2, h3⟩
  · exact .inl h'
  · exact .inr ⟨g, cap, cur, e', Nat.le_trans hB h2, h3⟩

/-- What Path promises. -/
def PathE (ns : List NdD) (i : Int) (w : World) (e : Ending) (w' : World) : Prop :=
  ∃ v', e = .returned v' ∧ OwnK .i64 3 w' w.heap.size v' (pathN ns i) ∧ Below w.heap.size w w'

set_option maxHeartbeats 8000000 in
theorem path_out (v : Value) (ns : List NdD) (i : Int) (w : World) (hN : NodesV w v ns) (hi : ¬ (0 ≤ i ∧ i < ns.length)) :
    Calls Try.prog 49 #[.agg #[v], .int .i64 i] w (PathE ns i w) := by
  have HIS := Lib.hid (fun u (hu : Below w.heap.size w u) => isn_any v ns i u (hN.call hu))
  have HD : Hid (decide (0 ≤ i ∧ i < (ns.length : Int)) = false) := decide_eq_false hi
  have S0 := Lib.hid (pas_new w #[v] 25)
  have hi1 : (Try.prog.info? 25).map (·.size) = some 1 := by kernel_rfl
  have HP := Lib.hid (pathN_out hi)
  clear hN hi
  go_enter Try.func49, Try.ntmps49
  go_wp2_with (first
    | ((with_reducible refine at_load (.tmp 2) ?_); refine wpList_load_g 25 (.tmp 2) rfl w.heap.size rfl #[v] _ S0.out.t Try.underlying25 rfl hi1 rfl ?_)
    | (go_at_call 51; refine (HIS.out _ S0.out.b).mono ?_; rintro e w1 ⟨rfl, hb1⟩; rw [HD.out]; have S1 := Lib.hid (S0.out.call hb1); clear hb1))
  go_ret
  exact ⟨_, rfl, by rw [HP.out]; exact OwnK.nil _ _ _ _, S1.out.b⟩

set_option maxHeartbeats 16000000 in
theorem path_in (ns : List NdD) (hok : TrOK ns) (hlen : ns.length ≤ 100000) : ∀ (i : Nat) (hi : i < ns.length) (v : Value) (w : World) (hN : NodesV w v ns),
    Calls Try.prog 49 #[.agg #[v], .int .i64 i] w (PathE ns i w) := by
  intro i
  induction i using Nat.strongRecOn with
  | ind i ih =>
    intro hi v w hN
    obtain ⟨a, cap, rfl, hmx⟩ := hN.shape
    unfold maxLen at hmx
    have HIS := Lib.hid (fun u (hu : Below w.heap.size w u) => isn_any _ ns i u (hN.call hu))
    have HD : Hid (decide (0 ≤ (i : Int) ∧ (i : Int) < (ns.length : Int)) = true) := decide_eq_true (by omega)
    have HN := Lib.hid hN
    have HOK := Lib.hid hok
    have HLM := Lib.hid hlen
    have HII := Lib.hid info_int
    have hi1 : (Try.prog.info? 25).map (·.size) = some 1 := by kernel_rfl
    obtain ⟨m, hm⟩ : ∃ m, Hid (ns.length = m) := ⟨_, Lib.hid rfl⟩
    rw [hm.out] at hmx HIS HN ⊢
    have S0 := Lib.hid (pas_new w #[.slice a m cap] 25)
    by_cases h0 : i = 0
    · subst h0
      have HP : Hid (pathN ns ((0 : Nat) : Int) = [0]) := pathN_zero hok.pos
      clear hN ih hi hok
      go_enter Try.func49, Try.ntmps49
      go_wp2_with (first
        | ((with_reducible refine at_load (.tmp 2) ?_); refine wpList_load_g 25 (.tmp 2) rfl w.heap.size rfl #[.slice a m cap] _ S0.out.t Try.underlying25 rfl hi1 rfl ?_)
        | (go_at_call 51; refine (HIS.out _ S0.out.b).mono ?_; rintro e w1 ⟨rfl, hb1⟩; rw [hm.out] at HD; rw [HD.out]; have S1 := Lib.hid (S0.out.call hb1); clear hb1))
      go_ret
      exact ⟨_, rfl, by rw [HP.out]; exact own_one _ _ _ S1.out.b.size, S1.out.b.alloc S1.out.b.size _⟩
    · have hz : ((i : Int) == 0) = false := by simp; omega
      obtain ⟨hu1, hu2, hu3⟩ := hok.upAt hi (by omega)
      have HP := Lib.hid (pathN_step hok hi (by omega))
      have HIH := Lib.hid (fun z (hz : NodesV z (.slice a ns.length cap) ns) => ih (upAt ns i) hu1 hu2 _ z hz)
      have HLE := Lib.hid (pathN_len ns (upAt ns i : Int))
      obtain ⟨b, off, rfl, hlm, hbb, hna, _⟩ := HN.out.elem hi
      have HUP := Lib.hid hna.up
      rw [hu3] at HUP
      obtain ⟨u, hu⟩ : ∃ u, upAt ns i = u := ⟨_, rfl⟩
      rw [hu] at HUP HIH HP HLE
      have hik : (i : Int) < m := by rw [← hm.out]; omega
      rw [hm.out] at HD hi HIH
      clear hN ih hok hlm hna hu1 hu2 hu3 hu h0
      go_enter Try.func49, Try.ntmps49
      go_wp2_with (first
        | ((with_reducible refine at_load (.tmp 2) ?_); refine wpList_load_g 25 (.tmp 2) rfl w.heap.size rfl #[.slice (some ⟨b, off, none⟩) m cap] _ S0.out.t Try.underlying25 rfl hi1 rfl ?_)
        | (go_at_call 51; refine (HIS.out _ S0.out.b).mono ?_; rintro e w1 ⟨rfl, hb1⟩; rw [HD.out]; have S1 := Lib.hid (S0.out.call hb1); clear hb1))
      have SD : Hid (PaS w #[.slice (some ⟨b, off, none⟩) m cap] w1.drew) := S1.out.call ⟨rfl, rfl, rfl, Nat.le_refl _, fun _ _ => rfl⟩
      refine wp_region_held_drew (S := fun z => PaS w #[.slice (some ⟨b, off, none⟩) m cap] z) (by kernel_rfl) (SD.out) (fun _ => ?_)
      (try simp only [Act.put, List.setIfInBounds_toArray, List.set_cons_zero, List.set_cons_succ])
      refine held_load (oi := ⟨some 12, _, _, _, _, _⟩) 0 rfl (by kernel_rfl) (by kernel_rfl) (by kernel_rfl) (fun _ _ _ _ h => h) rfl 25 (.tmp 2) rfl w.heap.size 0 rfl [.slice (some ⟨b, off, none⟩) m cap] _ (fun u' hu => hu.t.rng) Try.underlying25 rfl hi1 SD.out ?_
      (try simp only [Act.put, List.setIfInBounds_toArray, List.set_cons_zero, List.set_cons_succ])
      refine wpAnyH_take (i := 1) (oi := ⟨some 13, _, _, _, _, _⟩) (v := .pointer (some ⟨w.heap.size, 0, none⟩)) rfl (by kernel_rfl) (by kernel_rfl) (by kernel_rfl) (fun _ _ _ h => h) (Or.inl ⟨by rfl, fun wz hz => ?_⟩) SD.out ?_
      · clear hz; go_simp; first | done | with_reducible rfl | rfl
      (try simp only [Act.put, List.setIfInBounds_toArray, List.set_cons_zero, List.set_cons_succ])
      refine held_load1 (oi := ⟨some 14, _, _, _, _, _⟩) 2 rfl (by kernel_rfl) (by kernel_rfl) (by kernel_rfl) (fun _ _ _ _ h => h) rfl 23 (.tmp 13) rfl w.heap.size (0) rfl (.slice (some ⟨b, off, none⟩) m cap) _ (fun u' hu => hu.t.cell 0) Try.underlying23 rfl SD.out ?_
      (try simp only [Act.put, List.setIfInBounds_toArray, List.set_cons_zero, List.set_cons_succ])
      refine wpAnyH_take (i := 3) (oi := ⟨some 15, _, _, _, _, _⟩) (v := .int .i64 i) rfl (by kernel_rfl) (by kernel_rfl) (by kernel_rfl) (fun _ _ _ h => h) (Or.inl ⟨by rfl, fun wz hz => ?_⟩) SD.out ?_
      · clear hz; go_simp; first | done | with_reducible rfl | rfl
      (try simp only [Act.put, List.setIfInBounds_toArray, List.set_cons_zero, List.set_cons_succ])
      refine wpAnyH_take (i := 4) (oi := ⟨some 16, _, _, _, _, _⟩) (v := .pointer (some ⟨b, off + i * 240, none⟩)) rfl (by kernel_rfl) (by kernel_rfl) (by kernel_rfl) (fun _ _ _ h => h) (Or.inl ⟨by rfl, fun wz hz => ?_⟩) SD.out ?_
      · clear hz; go_simp; first | done | with_reducible rfl | rfl
      (try simp only [Act.put, List.setIfInBounds_toArray, List.set_cons_zero, List.set_cons_succ])
      refine wpAnyH_take (i := 5) (oi := ⟨some 17, _, _, _, _, _⟩) (v := .pointer (some ⟨b, off + i * 240 + 238, none⟩)) rfl (by kernel_rfl) (by kernel_rfl) (by kernel_rfl) (fun _ _ _ h => h) (Or.inl ⟨by rfl, fun wz hz => ?_⟩) SD.out ?_
      · clear hz; go_simp; first | done | with_reducible rfl | rfl
      (try simp only [Act.put, List.setIfInBounds_toArray, List.set_cons_zero, List.set_cons_succ])
      refine held_load1 (oi := ⟨some 18, _, _, _, _, _⟩) 6 rfl (by kernel_rfl) (by kernel_rfl) (by kernel_rfl) (fun _ _ _ _ h => h) rfl 3 (.tmp 17) rfl b (off + i * 240 + 238) rfl (.int .i64 (u : Int)) _ (fun u' hu => (hu.b.cell (p := ⟨b, off + i * 240 + 238, none⟩) hbb).trans HUP.out) Try.underlying3 rfl SD.out ?_
      (try simp only [Act.put, List.setIfInBounds_toArray, List.set_cons_zero, List.set_cons_succ])
      refine wpAnyH_take (i := 8) (oi := ⟨some 20, _, _, _, _, _⟩) (v := .int .i64 i) rfl (by kernel_rfl) (by kernel_rfl) (by kernel_rfl) (fun _ _ _ h => h) (Or.inl ⟨by rfl, fun wz hz => ?_⟩) SD.out ?_
      · clear hz; go_simp; first | done | with_reducible rfl | rfl
      (try simp only [Act.put, List.setIfInBounds_toArray, List.set_cons_zero, List.set_cons_succ])
      refine wpAnyH_ready (rs := [7, 9]) (by kernel_rfl) (by simp) ?_
      refine AllReadyH.cons (o := ⟨some 19, _, _, _, _, _⟩) rfl (fun K hK => ?_) (AllReadyH.cons (o := ⟨some 21, _, _, _, _, _⟩) rfl (fun K hK => ?_) AllReadyH.nil)
      · skip
        have HSZ : Hid (w1.drew.heap.size ≤ w1.drew.heap.size) := Nat.le_refl _
        go_simp
        refine (HIH.out w1.drew (HN.out.call SD.out.b)).mono ?_
        rintro e w3 ⟨v3, rfl, ho3, hb3⟩
        have HO3 := Lib.hid ho3
        have HB3 := Lib.hid hb3
        have S3 := Lib.hid (SD.out.call hb3)
        clear ho3 hb3
        refine hK.out _ _ (S3.out) (fun _ => ?_)
        clear hK K
        (try simp only [Act.put, List.setIfInBounds_toArray, List.set_cons_zero, List.set_cons_succ])
        refine wpAnyH_ready (rs := [9]) (by kernel_rfl) (by simp) ?_
        refine AllReadyH.cons (o := ⟨some 21, _, _, _, _, _⟩) rfl (fun K hK => ?_) AllReadyH.nil
        refine wp_buildSlice 22 1 _ rfl #[(0, .int .i64 i)] (by simp [Act.eval, Act.put]) _ (bs_int i w3) ?_
        have hal : Below w3.heap.size w3 (w3.alloc (.cells #[.int .i64 (i : Int)] 3)) := (Below.refl _ _).alloc (Nat.le_refl _) _
        have HO4 := Lib.hid (HO3.out.call hal)
        have S4 := Lib.hid (S3.out.call hal)
        have HN4 : Hid (Ints .i64 (w3.alloc (.cells #[.int .i64 (i : Int)] 3)) (.slice (some ⟨w3.heap.size, 0, none⟩) 1 1) [(i : Int)]) := one_ints _ _
        have HBM : Hid (w1.drew.heap.size ≤ (w3.alloc (.cells #[.int .i64 (i : Int)] 3)).heap.size) := by have := HB3.out.size; have := hal.size; show _ ≤ _; omega
        clear hal
        refine hK.out _ _ (S4.out) (fun _ => ?_)
        clear hK K
        (try simp only [Act.put, List.setIfInBounds_toArray, List.set_cons_zero, List.set_cons_succ])
        refine wpAnyH_ready (rs := [10]) (by kernel_rfl) (by simp) ?_
        refine AllReadyH.cons (o := ⟨some 22, _, _, _, _, _⟩) rfl (fun K hK => ?_) AllReadyH.nil
        refine (fun hgo => wp_appK HII.out (by omega) Try.underlying22 (.tmp 19) (.tmp 21) rfl w1.drew.heap.size v3 (pathN ns (u : Int)) rfl HO4.out (.slice (some ⟨w3.heap.size, 0, none⟩) 1 1) [(i : Int)] rfl HN4.out (by have := HLE.out; have := HLM.out; simp; omega) (by first | exact Nat.le_refl _ | exact HB3.out.size | exact HBM.out) hgo) ?_
        intro v8 w8 ho8 hg8 _
        rw [← HP.out] at ho8
        have HO8 := Lib.hid ho8
        have S8 := Lib.hid (S4.out.grown hg8 (fun j hj => by have := (HO4.out.lt j hj).1; have := SD.out.t.lt; have := HSZ.out; omega))
        clear ho8 hg8
        refine hK.out _ _ (S8.out) (fun _ => ?_)
        clear hK K
        (try simp only [Act.put, List.setIfInBounds_toArray, List.set_cons_zero, List.set_cons_succ])
        refine wpAnyH_ready (rs := [11]) (by kernel_rfl) (by simp) ?_
        refine AllReadyH.cons (o := ⟨some 4, _, _, _, _, _⟩) rfl (fun K hK => ?_) AllReadyH.nil
        go_simp
        refine hK.out _ _ (S8.out) (fun _ => ?_)
        clear hK K
        (try simp only [Act.put, List.setIfInBounds_toArray, List.set_cons_zero, List.set_cons_succ])
        refine wpAnyH_done (by kernel_rfl) ?_ _
        go_wp2_with fail
        go_ret
        exact ⟨_, rfl, OwnK.lower HO8.out (by have := SD.out.b.size; have := HSZ.out; omega), S8.out.b⟩
      · skip
        refine wp_buildSlice 22 1 _ rfl #[(0, .int .i64 i)] (by simp [Act.eval, Act.put]) _ (bs_int i w1.drew) ?_
        have hal : Below w1.drew.heap.size w1.drew (w1.drew.alloc (.cells #[.int .i64 (i : Int)] 3)) := (Below.refl _ _).alloc (Nat.le_refl _) _
        have S4 := Lib.hid (SD.out.call hal)
        have HN4 : Hid (Ints .i64 (w1.drew.alloc (.cells #[.int .i64 (i : Int)] 3)) (.slice (some ⟨w1.drew.heap.size, 0, none⟩) 1 1) [(i : Int)]) := one_ints _ _
        have HSZ := Lib.hid hal.size
        clear hal
        refine hK.out _ _ (S4.out) (fun _ => ?_)
        clear hK K
        (try simp only [Act.put, List.setIfInBounds_toArray, List.set_cons_zero, List.set_cons_succ])
        refine wpAnyH_ready (rs := [7]) (by kernel_rfl) (by simp) ?_
        refine AllReadyH.cons (o := ⟨some 19, _, _, _, _, _⟩) rfl (fun K hK => ?_) AllReadyH.nil
        go_simp
        refine (HIH.out (w1.drew.alloc (.cells #[.int .i64 (i : Int)] 3)) (HN.out.call S4.out.b)).mono ?_
        rintro e w3 ⟨v3, rfl, ho3, hb3⟩
        have HO3 := Lib.hid ho3
        have HB3 := Lib.hid hb3
        have S3 := Lib.hid (S4.out.call hb3)
        clear ho3 hb3
        have HN5 := Lib.hid (HN4.out.below HB3.out)
        have HBM : Hid ((w1.drew.alloc (.cells #[.int .i64 (i : Int)] 3)).heap.size ≤ w3.heap.size) := HB3.out.size
        refine hK.out _ _ (S3.out) (fun _ => ?_)
        clear hK K
        (try simp only [Act.put, List.setIfInBounds_toArray, List.set_cons_zero, List.set_cons_succ])
        refine wpAnyH_ready (rs := [10]) (by kernel_rfl) (by simp) ?_
        refine AllReadyH.cons (o := ⟨some 22, _, _, _, _, _⟩) rfl (fun K hK => ?_) AllReadyH.nil
        refine (fun hgo => wp_appK HII.out (by omega) Try.underlying22 (.tmp 19) (.tmp 21) rfl (w1.drew.alloc (.cells #[.int .i64 (i : Int)] 3)).heap.size v3 (pathN ns (u : Int)) rfl HO3.out (.slice (some ⟨w1.drew.heap.size, 0, none⟩) 1 1) [(i : Int)] rfl HN5.out (by have := HLE.out; have := HLM.out; simp; omega) (by first | exact Nat.le_refl _ | exact HB3.out.size | exact HBM.out) hgo) ?_
        intro v8 w8 ho8 hg8 _
        rw [← HP.out] at ho8
        have HO8 := Lib.hid ho8
        have S8 := Lib.hid (S3.out.grown hg8 (fun j hj => by have := (HO3.out.lt j hj).1; have := SD.out.t.lt; have := HSZ.out; omega))
        clear ho8 hg8
        refine hK.out _ _ (S8.out) (fun _ => ?_)
        clear hK K
        (try simp only [Act.put, List.setIfInBounds_toArray, List.set_cons_zero, List.set_cons_succ])
        refine wpAnyH_ready (rs := [11]) (by kernel_rfl) (by simp) ?_
        refine AllReadyH.cons (o := ⟨some 4, _, _, _, _, _⟩) rfl (fun K hK => ?_) AllReadyH.nil
        go_simp
        refine hK.out _ _ (S8.out) (fun _ => ?_)
        clear hK K
        (try simp only [Act.put, List.setIfInBounds_toArray, List.set_cons_zero, List.set_cons_succ])
        refine wpAnyH_done (by kernel_rfl) ?_ _
        go_wp2_with fail
        go_ret
        exact ⟨_, rfl, OwnK.lower HO8.out (by have := SD.out.b.size; have := HSZ.out; omega), S8.out.b⟩
end

/-! TrG -/
section
set_option linter.unusedVariables false
set_option linter.unusedSimpArgs false
open Go.RowKit

set_option maxRecDepth 100000

theorem path_any (ns : List NdD) (hok : TrOK ns) (hlen : ns.length ≤ 100000) (i : Int) (v : Value) (w : World) (hN : NodesV w v ns) :
    Calls Try.prog 49 #[.agg #[v], .int .i64 i] w (PathE ns i w) := by
  by_cases h : 0 ≤ i ∧ i < ns.length
  · obtain ⟨k, rfl⟩ : ∃ k : Nat, i = k := ⟨i.toNat, by omega⟩
    exact path_in ns hok hlen k (by omega) v w hN
  · exact path_out v ns i w hN h

theorem path_ints {ns : List NdD} (hok : TrOK ns) (hlen : ns.length ≤ 100000) {i : Int} {w : World} {B : Nat} {v : Value} (h : OwnK .i64 3 w B v (pathN ns i)) : IntsV w v (pathN ns i) :=
  ⟨h.ints (by have := pathN_len ns i; unfold maxLen; omega), fun x hx => by have := pathN_rng hok i x hx; omega⟩

theorem isan_any (ns : List NdD) (hok : TrOK ns) (hlen : ns.length ≤ 100000) (a b : Int) (v : Value) (w : World) (hN : NodesV w v ns) :
    Calls Try.prog 44 #[.agg #[v], .int .i64 a, .int .i64 b] w fun e w' => e = .returned (.bool (decide (a ∈ pathN ns b))) ∧ Below w.heap.size w w' := by
  have HPA := Lib.hid (fun u (hu : Below w.heap.size w u) => path_any ns hok hlen b v u (hN.call hu))
  have HPI := Lib.hid (fun (u : World) B x (h : OwnK .i64 3 u B x (pathN ns b)) => path_ints hok hlen h)
  have S0 := Lib.hid (pas_new w #[v] 25)
  have hi1 : (Try.prog.info? 25).map (·.size) = some 1 := by kernel_rfl
  obtain ⟨q, hq⟩ : ∃ q, Hid (decide (a ∈ pathN ns b) = q) := ⟨_, Lib.hid rfl⟩
  rw [hq.out]
  clear hN hok hlen
  go_enter Try.func44, Try.ntmps44
  go_wp2_with (first
    | ((with_reducible refine at_load (.tmp 3) ?_); refine wpList_load_g 25 (.tmp 3) rfl w.heap.size rfl #[v] _ S0.out.t Try.underlying25 rfl hi1 rfl ?_)
    | (go_at_call 49; refine (HPA.out _ S0.out.b).mono ?_; rintro e w1 ⟨v1, rfl, ho1, hb1⟩; have HI1 := Lib.hid (HPI.out _ _ _ ho1); have S1 := Lib.hid (S0.out.call hb1); clear ho1 hb1)
    | (go_at_call 46; refine (has_any _ _ a w1 HI1.out).mono ?_; rintro e w2 ⟨rfl, hb2⟩; rw [hq.out]; have S2 := Lib.hid (S1.out.call hb2); clear hb2))
  go_ret
  exact ⟨rfl, S2.out.b⟩

/-- The numbers below k with this property, in order. -/
def selK (p : Nat → Bool) : Nat → List Int
  | 0 => []
  | k + 1 => if p k then selK p k ++ [(k : Int)] else selK p k

theorem selK_yes {p : Nat → Bool} {k : Nat} (h : p k = true) : selK p (k + 1) = selK p k ++ [(k : Int)] := by show (if p k = true then selK p k ++ [(k : Int)] else selK p k) = _; rw [if_pos h]

theorem selK_no {p : Nat → Bool} {k : Nat} (h : p k = false) : selK p (k + 1) = selK p k := by show (if p k = true then selK p k ++ [(k : Int)] else selK p k) = _; rw [if_neg (by rw [h]; simp)]

theorem selK_len (p : Nat → Bool) : ∀ k, (selK p k).length ≤ k
  | 0 => by simp [selK]
  | k + 1 => by
    have := selK_len p k
    cases h : p k
    · rw [selK_no h]; omega
    · rw [selK_yes h]; simp; omega

theorem selK_mem {p : Nat → Bool} {x : Int} : ∀ {k : Nat}, x ∈ selK p k ↔ ∃ j : Nat, j < k ∧ x = j ∧ p j = true
  | 0 => by simp [selK]
  | k + 1 => by
    cases h : p k
    · rw [selK_no h, selK_mem]
      constructor
      · rintro ⟨j, h1, h2, h3⟩; exact ⟨j, by omega, h2, h3⟩
      · rintro ⟨j, h1, h2, h3⟩
        by_cases e : j = k
        · subst e; rw [h] at h3; cases h3
        · exact ⟨j, by omega, h2, h3⟩
    · rw [selK_yes h, List.mem_append, selK_mem, List.mem_singleton]
      constructor
      · rintro (⟨j, h1, h2, h3⟩ | h4)
        · exact ⟨j, by omega, h2, h3⟩
        · exact ⟨k, by omega, h4, h⟩
      · rintro ⟨j, h1, h2, h3⟩
        by_cases e : j = k
        · subst e; exact .inr h2
        · exact .inl ⟨j, by omega, h2, h3⟩

theorem selK_rng (p : Nat → Bool) (k : Nat) : ∀ x ∈ selK p k, 0 ≤ x ∧ x < k := fun x hx => by
  obtain ⟨j, h1, rfl, _⟩ := selK_mem.1 hx; omega

/-- A loop that lists what has the property. -/
def SelI (w : World) (T : Array Value) (p : Nat → Bool) (m : Nat) (v i : Value) (wr : World) : Prop :=
  ∃ k : Nat, k ≤ m ∧ i = .int .i64 k ∧ OwnK .i64 3 wr (w.heap.size + 1) v (selK p k) ∧ PaS w T wr

theorem OwnK.off1 {w wr : World} {v : Value} {xs : List Int} (h : OwnK .i64 3 wr (w.heap.size + 1) v xs) : ∀ j, v.ownBlock = some j → w.heap.size < j := fun j hj => by have := (h.lt j hj).1; omega

/-- What such a function promises. -/
def SelE (l : List Int) (w : World) (e : Ending) (w' : World) : Prop := ∃ v', e = .returned v' ∧ OwnK .i64 3 w' w.heap.size v' l ∧ Below w.heap.size w w'

def descN (ns : List NdD) (i : Int) : List Int := selK (fun k => decide (i ∈ pathN ns (k : Int))) ns.length

set_option maxHeartbeats 8000000 in
theorem desc_any (ns : List NdD) (hok : TrOK ns) (hlen : ns.length ≤ 100000) (i : Int) (v : Value) (w : World) (hN : NodesV w v ns) :
    Calls Try.prog 34 #[.agg #[v], .int .i64 i] w (SelE (descN ns i) w) := by
  obtain ⟨a, cap, rfl, hmx⟩ := hN.shape
  unfold maxLen at hmx
  have HIA := Lib.hid (fun (k : Int) u (hu : Below w.heap.size w u) => isan_any ns hok hlen i k _ u (hN.call hu))
  have HII := Lib.hid info_int
  have hi1 : (Try.prog.info? 25).map (·.size) = some 1 := by kernel_rfl
  unfold descN
  obtain ⟨p, hp⟩ : ∃ p : Nat → Bool, (fun (k : Nat) => decide (i ∈ pathN ns (k : Int))) = p := ⟨_, rfl⟩
  have HPP : Hid (∀ k : Nat, decide (i ∈ pathN ns (k : Int)) = p k) := fun k => by rw [← hp]
  rw [hp]
  obtain ⟨m, hm⟩ : ∃ m, ns.length = m := ⟨_, rfl⟩
  rw [hm] at hmx HIA hlen ⊢
  have S0 := Lib.hid (pas_new w #[.slice a m cap] 25)
  clear hN hok hp hm
  go_enter Try.func34, Try.ntmps34
  go_wp2_with fail
  go_loopw [5, 6] (fun v i wr => SelI w #[.slice a m cap] p m v i wr) (fun _ i _ => m - (intOf i).toNat)
  case atStart => exact ⟨0, Nat.zero_le _, rfl, OwnK.nil _ _ _ _, S0.out⟩
  case round =>
    obtain ⟨k, hk, rfl, hown, hs⟩ := hrel
    have HOW := Lib.hid hown
    have S1 := Lib.hid hs
    have HXL := Lib.hid (selK_len p k)
    have HC0 := Lib.hid (hs.t.cell 0)
    obtain ⟨x, hx⟩ : ∃ x, selK p k = x := ⟨_, rfl⟩
    clear hown hs
    by_cases hlt : k < m
    case neg =>
      obtain rfl : k = m := by omega
      go_wp2_with (first
        | ((with_reducible refine at_load (.tmp 8) ?_); refine wpList_load_1 23 (.tmp 8) rfl w.heap.size 0 (.slice a k cap) HC0.out rfl _ Try.underlying23 rfl rfl ?_))
      go_ret
      exact ⟨_, rfl, HOW.out.lower (by omega), S1.out.b⟩
    have hlt' : (k : Int) < m := by omega
    have HIK := Lib.hid (HIA.out (k : Int) wr S1.out.b)
    rw [HPP.out k] at HIK
    cases hpk : p k
    case false =>
      have HNX := Lib.hid (selK_no hpk)
      rw [hpk] at HIK
      clear hpk hx
      go_wp2_with (first
        | ((with_reducible refine at_load (.tmp 8) ?_); refine wpList_load_1 23 (.tmp 8) rfl w.heap.size 0 (.slice a m cap) HC0.out rfl _ Try.underlying23 rfl rfl ?_)
        | ((with_reducible refine at_load (.tmp 2) ?_); refine wpList_load_g 25 (.tmp 2) rfl w.heap.size rfl #[.slice a m cap] _ S1.out.t Try.underlying25 rfl hi1 rfl ?_)
        | (go_at_call 44; refine HIK.out.mono ?_; rintro e w2 ⟨rfl, hb2⟩; have S2 := Lib.hid (S1.out.call hb2); have HO2 := Lib.hid (HOW.out.call hb2); clear hb2))
      go_roundw
      case rel => exact ⟨k + 1, by omega, by go_num, by rw [HNX.out]; exact HO2.out, S2.out⟩
      case measure => simp [intOf]; omega
    case true =>
      have HNX := Lib.hid (selK_yes hpk)
      rw [hpk] at HIK
      clear hpk hx
      go_wp2_with (first
        | ((with_reducible refine at_load (.tmp 8) ?_); refine wpList_load_1 23 (.tmp 8) rfl w.heap.size 0 (.slice a m cap) HC0.out rfl _ Try.underlying23 rfl rfl ?_)
        | ((with_reducible refine at_load (.tmp 2) ?_); refine wpList_load_g 25 (.tmp 2) rfl w.heap.size rfl #[.slice a m cap] _ S1.out.t Try.underlying25 rfl hi1 rfl ?_)
        | (go_at_call 44; refine HIK.out.mono ?_; rintro e w2 ⟨rfl, hb2⟩; have S2 := Lib.hid (S1.out.call hb2); have HO2 := Lib.hid (HOW.out.call hb2); clear hb2)
        | ((with_reducible refine at_app (.tmp 18) (.tmp 20) ?_); refine wpList_app1 HII.out (by omega) Try.underlying22 (.tmp 18) (.tmp 20) rfl rfl (w.heap.size + 1) _ _ rfl (HO2.out.grown (World.grownBy_alloc _ (.cells #[.int .i64 (k : Int)] 3) none) (fun n _ => by simp)) w2.heap.size 1 (k : Int) rfl ((Blk.new rfl).cell 0) (by have := HXL.out; omega) (by have := S2.out.t.lt; simp; omega) ?_; intro v3 w3 h3 g3 o3; rw [← HNX.out] at h3; have HO3 := Lib.hid h3; have S3 := Lib.hid ((S2.out.call ((Below.refl w2.heap.size w2).alloc (Nat.le_refl _) (.cells #[.int .i64 (k : Int)] 3))).grown g3 HO2.out.off1); clear h3 g3 o3))
      go_roundw
      case rel => exact ⟨k + 1, by omega, by go_num, HO3.out, S3.out⟩
      case measure => simp [intOf]; omega
end

/-! TrH -/
section
set_option linter.unusedVariables false
set_option linter.unusedSimpArgs false
open Go.RowKit

set_option maxRecDepth 100000

def upI (ns : List NdD) (k : Nat) : Int := ((ns[k]?).map NdD.up).getD 0

theorem upI_at {ns : List NdD} {k : Nat} (h : k < ns.length) : upI ns k = ns[k].up := by simp [upI, List.getElem?_eq_getElem h]

def childN (ns : List NdD) (i : Int) : List Int := if 0 ≤ i ∧ i < ns.length then selK (fun k => decide (upI ns k = i)) ns.length else []

theorem childN_len (ns : List NdD) (i : Int) : (childN ns i).length ≤ ns.length := by
  unfold childN
  split
  · exact selK_len _ _
  · simp

def leafN (ns : List NdD) : List Int := selK (fun k => decide ((childN ns (k : Int)).length = 0)) ns.length
end

/-! TrI -/
section
set_option linter.unusedVariables false
set_option linter.unusedSimpArgs false
open Go.RowKit

set_option maxRecDepth 100000

/-- The last of the first k nodes of a path whose slot is at most s. -/
def atK (ns : List NdD) (l : List Int) (s : Int) : Nat → Int
  | 0 => -1
  | k + 1 => if slotAt ns (l.getD k 0) ≤ s then l.getD k 0 else atK ns l s k

def atP (ns : List NdD) (i s : Int) : Int := atK ns (pathN ns i) s (pathN ns i).length

theorem atK_yes {ns : List NdD} {l : List Int} {s : Int} {k : Nat} (h : slotAt ns (l.getD k 0) ≤ s) : atK ns l s (k + 1) = l.getD k 0 := by
  show (if slotAt ns (l.getD k 0) ≤ s then l.getD k 0 else atK ns l s k) = _
  rw [if_pos h]

theorem atK_no {ns : List NdD} {l : List Int} {s : Int} {k : Nat} (h : ¬ slotAt ns (l.getD k 0) ≤ s) : atK ns l s (k + 1) = atK ns l s k := by
  show (if slotAt ns (l.getD k 0) ≤ s then l.getD k 0 else atK ns l s k) = _
  rw [if_neg h]

def AtI (w : World) (T : Array Value) (ns : List NdD) (l : List Int) (s : Int) (pv v i : Value) (wr : World) : Prop :=
  ∃ k : Nat, k ≤ l.length ∧ i = .int .i64 k ∧ v = .int .i64 (atK ns l s k) ∧ IntsV wr pv l ∧ PaS w T wr

/-- The number behind the first a from place k on. -/
def heirF (l : List Int) (a : Int) : Nat → Nat → Int
  | 0, _ => -1
  | f + 1, k => if k < l.length then (if l.getD (k - 1) 0 = a then l.getD k 0 else heirF l a f (k + 1)) else -1

def heirN (ns : List NdD) (a b : Int) : Int := heirF (pathN ns b) a (pathN ns b).length 1

theorem heirF_step {l : List Int} {a : Int} {k : Nat} (hk : k < l.length) : heirF l a (l.length + 1 - k) k = if l.getD (k - 1) 0 = a then l.getD k 0 else heirF l a (l.length + 1 - (k + 1)) (k + 1) := by
  rw [show l.length + 1 - k = (l.length + 1 - (k + 1)) + 1 by omega]
  show (if k < l.length then (if l.getD (k - 1) 0 = a then l.getD k 0 else heirF l a (l.length + 1 - (k + 1)) (k + 1)) else -1) = _
  rw [if_pos hk]

theorem heirF_end {l : List Int} {a : Int} {k : Nat} (hk : l.length ≤ k) (f : Nat) : heirF l a f k = -1 := by
  cases f with
  | zero => rfl
  | succ f => show (if k < l.length then _ else -1) = _; rw [if_neg (by omega)]

def HeirI (w : World) (T : Array Value) (l : List Int) (a r : Int) (pv i : Value) (wr : World) : Prop :=
  ∃ k : Nat, 1 ≤ k ∧ k ≤ l.length + 1 ∧ i = .int .i64 k ∧ heirF l a (l.length + 1 - k) k = r ∧ IntsV wr pv l ∧ PaS w T wr
end

/-! TrL -/
section
set_option linter.unusedVariables false
set_option linter.unusedSimpArgs false
open Go.RowKit

set_option maxRecDepth 100000

/-- Whether a is an ancestor of the first j of l. -/
def allK (ns : List NdD) (l : List Int) (a : Int) : Nat → Bool
  | 0 => true
  | j + 1 => allK ns l a j && decide (a ∈ pathN ns (l.getD j 0))

theorem allK_succ (ns : List NdD) (l : List Int) (a : Int) (j : Nat) : allK ns l a (j + 1) = (allK ns l a j && decide (a ∈ pathN ns (l.getD j 0))) := rfl

def comK (ns : List NdD) (l p : List Int) : Nat → Int
  | 0 => -1
  | k + 1 => if allK ns l (p.getD k 0) l.length then p.getD k 0 else comK ns l p k

theorem comK_yes {ns : List NdD} {l p : List Int} {k : Nat} (h : allK ns l (p.getD k 0) l.length = true) : comK ns l p (k + 1) = p.getD k 0 := by
  show (if allK ns l (p.getD k 0) l.length = true then p.getD k 0 else comK ns l p k) = _
  rw [if_pos h]

theorem comK_no {ns : List NdD} {l p : List Int} {k : Nat} (h : allK ns l (p.getD k 0) l.length = false) : comK ns l p (k + 1) = comK ns l p k := by
  show (if allK ns l (p.getD k 0) l.length = true then p.getD k 0 else comK ns l p k) = _
  rw [if_neg (by rw [h]; simp)]

def comN (ns : List NdD) (l : List Int) : Int :=
  if l.length = 0 then -1 else if 0 ≤ l.getD 0 0 ∧ l.getD 0 0 < ns.length then comK ns l (pathN ns (l.getD 0 0)) (pathN ns (l.getD 0 0)).length else -1
end

/-! AnM -/
section
set_option linter.unusedVariables false
set_option linter.unusedSimpArgs false
open Go.RowKit

set_option maxRecDepth 100000

theorem up_path {ns : List NdD} (h : TrOK ns) {k : Nat} (hk : k < ns.length) : -1 ≤ ns[k].up ∧ ns[k].up < k ∧ pathN ns (k : Int) = pathN ns ns[k].up ++ [(k : Int)] := by
  by_cases h0 : k = 0
  · subst h0
    have e := h.root hk
    rw [e]
    refine ⟨by omega, by omega, ?_⟩
    rw [show ((0 : Nat) : Int) = 0 from rfl, pathN_zero hk, pathN_out (by omega)]
    rfl
  · obtain ⟨h1, h2, h3⟩ := h.upAt hk (by omega)
    rw [h3]
    exact ⟨by omega, by omega, pathN_step h hk (by omega)⟩

theorem path_le {ns : List NdD} (h : TrOK ns) {i x : Int} (hx : x ∈ pathN ns i) : 0 ≤ x ∧ x ≤ i := by
  by_cases hi : 0 ≤ i ∧ i < ns.length
  · obtain ⟨k, rfl⟩ : ∃ k : Nat, i = k := ⟨i.toNat, by omega⟩
    exact pathN_mem h k (by omega) x hx
  · rw [pathN_out hi] at hx; cases hx

theorem path_node {ns : List NdD} {i x : Int} (hx : x ∈ pathN ns i) : 0 ≤ i ∧ i < ns.length := by
  by_cases hi : 0 ≤ i ∧ i < ns.length
  · exact hi
  · rw [pathN_out hi] at hx; cases hx

theorem path_self {ns : List NdD} (h : TrOK ns) {k : Nat} (hk : k < ns.length) : (k : Int) ∈ pathN ns (k : Int) := by
  rw [(up_path h hk).2.2]; simp

theorem path_up {ns : List NdD} (h : TrOK ns) {k : Nat} (hk : k < ns.length) {x : Int} : x ∈ pathN ns (k : Int) ↔ x ∈ pathN ns ns[k].up ∨ x = k := by
  rw [(up_path h hk).2.2, List.mem_append, List.mem_singleton]

theorem path_pw {ns : List NdD} (h : TrOK ns) : ∀ i : Nat, i < ns.length → (pathN ns (i : Int)).Pairwise (· < ·) := by
  intro i
  induction i using Nat.strongRecOn with
  | ind i ih =>
    intro hi
    obtain ⟨h1, h2, h3⟩ := up_path h hi
    rw [h3, List.pairwise_append]
    refine ⟨?_, List.pairwise_singleton _ _, fun x hx y hy => ?_⟩
    · by_cases hu : 0 ≤ ns[i].up
      · obtain ⟨u, hu⟩ : ∃ u : Nat, ns[i].up = u := ⟨ns[i].up.toNat, by omega⟩
        rw [hu]
        exact ih u (by omega) (by omega)
      · rw [pathN_out (by omega)]; exact List.Pairwise.nil
    · rw [List.mem_singleton.1 hy]
      have := path_le h hx; omega

/-- An ancestor that is smaller is one of the parent. -/
theorem isan_step {ns : List NdD} (h : TrOK ns) {k : Nat} (hk : k < ns.length) {a : Int} (ha : a < k) : decide (a ∈ pathN ns (k : Int)) = decide (a ∈ pathN ns ns[k].up) := by
  apply Bool.eq_iff_iff.2
  rw [decide_eq_true_iff, decide_eq_true_iff, path_up h hk]
  exact ⟨fun h => h.resolve_right (by omega), .inl⟩

theorem isan_end {ns : List NdD} (h : TrOK ns) {b a : Int} (hb : 0 ≤ b ∧ b < ns.length) (ha : ¬ a < b) : decide (a ∈ pathN ns b) = (b == a) := by
  obtain ⟨k, rfl⟩ : ∃ k : Nat, b = k := ⟨b.toNat, by omega⟩
  apply Bool.eq_iff_iff.2
  rw [decide_eq_true_iff, beq_iff_eq]
  refine ⟨fun hx => ?_, fun e => ?_⟩
  · have := path_le h hx; omega
  · rw [← e]; exact path_self h (by omega)
/-! ### At -/

theorem atK_app (ns : List NdD) (l r : List Int) (s : Int) : ∀ j, j ≤ l.length → atK ns (l ++ r) s j = atK ns l s j
  | 0, _ => rfl
  | j + 1, h => by
    have e : (l ++ r).getD j 0 = l.getD j 0 := by simp [List.getD, List.getElem?_append_left (show j < l.length by omega)]
    show (if slotAt ns ((l ++ r).getD j 0) ≤ s then (l ++ r).getD j 0 else atK ns (l ++ r) s j) = (if slotAt ns (l.getD j 0) ≤ s then l.getD j 0 else atK ns l s j)
    rw [e, atK_app ns l r s j (by omega)]

theorem atP_out {ns : List NdD} {i s : Int} (h : ¬ (0 ≤ i ∧ i < ns.length)) : atP ns i s = -1 := by
  unfold atP; rw [pathN_out h]; rfl

theorem atP_step {ns : List NdD} (h : TrOK ns) {k : Nat} (hk : k < ns.length) (s : Int) : atP ns (k : Int) s = if ns[k].b.slot ≤ s then (k : Int) else atP ns ns[k].up s := by
  unfold atP
  rw [(up_path h hk).2.2, List.length_append]
  have e : (pathN ns ns[k].up ++ [(k : Int)]).getD (pathN ns ns[k].up).length 0 = k := by simp [List.getD]
  have es : slotAt ns (k : Int) = ns[k].b.slot := by simp [slotAt, List.getElem?_eq_getElem hk]
  show (if slotAt ns ((pathN ns ns[k].up ++ [(k : Int)]).getD (pathN ns ns[k].up).length 0) ≤ s then _ else atK ns _ s _) = _
  rw [e, es, atK_app _ _ _ _ _ (Nat.le_refl _)]
/-! ### Heir -/

theorem getD_app_l {l : List Int} {b : Int} {k : Nat} (h : k < l.length) : (l ++ [b]).getD k 0 = l.getD k 0 := by
  simp [List.getD, List.getElem?_append_left h]

theorem heirF_no {l : List Int} {a : Int} : ∀ f k, 1 ≤ k → (∀ j, k ≤ j → j < l.length → l.getD (j - 1) 0 ≠ a) → heirF l a f k = -1
  | 0, _, _, _ => rfl
  | f + 1, k, h1, h2 => by
    show (if k < l.length then (if l.getD (k - 1) 0 = a then l.getD k 0 else heirF l a f (k + 1)) else -1) = -1
    by_cases hk : k < l.length
    · rw [if_pos hk, if_neg (h2 k (Nat.le_refl _) hk)]
      exact heirF_no f (k + 1) (by omega) (fun j h3 h4 => h2 j (by omega) h4)
    · rw [if_neg hk]

theorem heirF_app {l : List Int} {a b : Int} : ∀ f k, 1 ≤ k → (∃ j, k ≤ j ∧ j < l.length ∧ l.getD (j - 1) 0 = a) → l.length ≤ f + k → ∀ g, l.length ≤ g + k → heirF (l ++ [b]) a f k = heirF l a g k
  | 0, k, _, ⟨j, h1, h2, _⟩, h3, _, _ => by omega
  | f + 1, k, h0, ⟨j, h1, h2, h4⟩, h3, g, h5 => by
    obtain ⟨g, rfl⟩ : ∃ x, g = x + 1 := ⟨g - 1, by omega⟩
    have hk : k < l.length := by omega
    show (if k < (l ++ [b]).length then (if (l ++ [b]).getD (k - 1) 0 = a then (l ++ [b]).getD k 0 else heirF (l ++ [b]) a f (k + 1)) else -1) = (if k < l.length then (if l.getD (k - 1) 0 = a then l.getD k 0 else heirF l a g (k + 1)) else -1)
    rw [if_pos (by rw [List.length_append]; omega), if_pos hk, getD_app_l hk, getD_app_l (by omega)]
    by_cases he : l.getD (k - 1) 0 = a
    · rw [if_pos he, if_pos he]
    · rw [if_neg he, if_neg he]
      have hjk : j ≠ k := fun e => he (by rw [← e]; exact h4)
      exact heirF_app f (k + 1) (by omega) ⟨j, by omega, h2, h4⟩ (by omega) g (by omega)

theorem heirF_last {l : List Int} {a b : Int} : ∀ f k, 1 ≤ k → k ≤ l.length → (∀ j, k ≤ j → j < l.length → l.getD (j - 1) 0 ≠ a) → l.getD (l.length - 1) 0 = a → l.length < f + k → heirF (l ++ [b]) a f k = b
  | 0, k, _, _, _, _, h => by omega
  | f + 1, k, h0, h1, h2, h3, h4 => by
    show (if k < (l ++ [b]).length then (if (l ++ [b]).getD (k - 1) 0 = a then (l ++ [b]).getD k 0 else heirF (l ++ [b]) a f (k + 1)) else -1) = b
    rw [if_pos (by rw [List.length_append]; simp; omega), getD_app_l (by omega)]
    by_cases hk : k = l.length
    · subst hk
      rw [if_pos h3]
      simp [List.getD]
    · rw [if_neg (h2 k (Nat.le_refl _) (by omega))]
      exact heirF_last f (k + 1) (by omega) (by omega) (fun j h5 h6 => h2 j (by omega) h6) h3 (by omega)

theorem heirN_no {ns : List NdD} (h : TrOK ns) {k : Nat} (hk : k < ns.length) {a : Int} (ha : a ∉ pathN ns ns[k].up) : heirN ns a (k : Int) = -1 := by
  unfold heirN
  rw [(up_path h hk).2.2]
  refine heirF_no _ _ (Nat.le_refl _) fun j h1 h2 => ?_
  rw [List.length_append, List.length_singleton] at h2
  rw [getD_app_l (by omega)]
  exact fun e => ha (by rw [← e]; exact getD_mem (by omega))

theorem heirN_out {ns : List NdD} {a b : Int} (hb : ¬ (0 ≤ b ∧ b < ns.length)) : heirN ns a b = -1 := by unfold heirN; rw [pathN_out hb]; rfl

theorem heirN_up {ns : List NdD} (h : TrOK ns) {k : Nat} (hk : k < ns.length) {a : Int} (ha : a ∈ pathN ns ns[k].up) : heirN ns a (k : Int) = if ns[k].up = a then (k : Int) else heirN ns a ns[k].up := by
  obtain ⟨h1, h2, h3⟩ := up_path h hk
  have hr := path_node ha
  obtain ⟨u, hu⟩ : ∃ u : Nat, ns[k].up = u := ⟨ns[k].up.toNat, by omega⟩
  rw [hu] at ha h3 hr ⊢
  have hul : u < ns.length := by omega
  obtain ⟨g1, g2, g3⟩ := up_path h hul
  unfold heirN
  rw [h3]
  by_cases e : (u : Int) = a
  · rw [if_pos e]
    have hpl : 0 < (pathN ns (u : Int)).length := List.length_pos_of_mem ha
    refine heirF_last _ _ (Nat.le_refl _) hpl (fun j h4 h5 => ?_) ?_ (by rw [List.length_append, List.length_singleton]; omega)
    · rw [g3, List.length_append, List.length_singleton] at h5
      rw [g3, getD_app_l (by omega), ← e]
      intro e2
      have := path_le h (getD_mem (show j - 1 < (pathN ns ns[u].up).length by omega))
      omega
    · rw [g3, ← e]; simp [List.getD]
  · rw [if_neg e]
    rw [path_up h hul] at ha
    have ha := ha.resolve_right (fun x => e x.symm)
    obtain ⟨i, hi, hx⟩ := List.mem_iff_getElem.1 ha
    refine heirF_app _ _ (Nat.le_refl _) ⟨i + 1, by omega, ?_, ?_⟩ (by rw [List.length_append]; omega) _ (by omega)
    · rw [g3, List.length_append]; simp; omega
    · rw [g3, Nat.add_sub_cancel, getD_app_l hi, ← hx]; simp [List.getD, hi]
/-! ### Common -/

theorem allK_iff {ns : List NdD} {l : List Int} {a : Int} : ∀ {j : Nat}, allK ns l a j = true ↔ ∀ i, i < j → a ∈ pathN ns (l.getD i 0)
  | 0 => by simp [allK]
  | j + 1 => by
    rw [allK_succ, Bool.and_eq_true, allK_iff, decide_eq_true_iff]
    constructor
    · rintro ⟨h1, h2⟩ i hi
      by_cases e : i = j
      · rw [e]; exact h2
      · exact h1 i (by omega)
    · exact fun h => ⟨fun i hi => h i (by omega), h j (by omega)⟩

theorem allK_mem {ns : List NdD} {l : List Int} {a : Int} : allK ns l a l.length = true ↔ ∀ y ∈ l, a ∈ pathN ns y := by
  rw [allK_iff]
  constructor
  · intro h y hy
    obtain ⟨i, hi, rfl⟩ := List.mem_iff_getElem.1 hy
    have := h i hi
    rwa [show l.getD i 0 = l[i] by simp [List.getD, hi]] at this
  · exact fun h i hi => h _ (getD_mem hi)

theorem comK_spec (ns : List NdD) (l p : List Int) : ∀ k, (comK ns l p k = -1 ∧ ∀ j, j < k → allK ns l (p.getD j 0) l.length = false) ∨ ∃ j, j < k ∧ comK ns l p k = p.getD j 0 ∧ allK ns l (p.getD j 0) l.length = true ∧ ∀ i, j < i → i < k → allK ns l (p.getD i 0) l.length = false
  | 0 => .inl ⟨rfl, fun j hj => by omega⟩
  | k + 1 => by
    cases h : allK ns l (p.getD k 0) l.length
    · rw [comK_no h]
      rcases comK_spec ns l p k with ⟨h1, h2⟩ | ⟨j, h1, h2, h3, h4⟩
      · refine .inl ⟨h1, fun j hj => ?_⟩
        by_cases e : j = k
        · rw [e]; exact h
        · exact h2 j (by omega)
      · refine .inr ⟨j, by omega, h2, h3, fun i h5 h6 => ?_⟩
        by_cases e : i = k
        · rw [e]; exact h
        · exact h4 i h5 (by omega)
    · rw [comK_yes h]
      exact .inr ⟨k, by omega, rfl, h, fun i h5 h6 => by omega⟩

theorem comN_of {ns : List NdD} (hok : TrOK ns) {l : List Int} (hl : 0 < l.length) {c : Nat} (hc : c < ns.length) (h : ∀ x, x ∈ pathN ns (c : Int) ↔ ∀ y ∈ l, x ∈ pathN ns y) : comN ns l = c := by
  have hself := (h _).1 (path_self hok hc)
  have h0 := hself _ (getD_mem hl)
  have hr := path_node h0
  unfold comN
  rw [if_neg (by omega), if_pos hr]
  obtain ⟨z, hz⟩ : ∃ z : Nat, l.getD 0 0 = z := ⟨(l.getD 0 0).toNat, by omega⟩
  rw [hz] at h0 hr ⊢
  have hpw := path_pw hok z (by omega)
  obtain ⟨P, hP⟩ : ∃ P, pathN ns (z : Int) = P := ⟨_, rfl⟩
  rw [hP] at h0 hpw ⊢
  obtain ⟨i0, hi0, hx0⟩ := List.mem_iff_getElem.1 h0
  have hg0 : P.getD i0 0 = c := by rw [← hx0]; simp [List.getD, hi0]
  rcases comK_spec ns l P P.length with ⟨_, h2⟩ | ⟨j, h1, h2, h3, h4⟩
  · have := h2 i0 hi0
    rw [hg0, allK_mem.2 hself] at this; cases this
  · rw [h2]
    have hmem := path_le hok ((h _).2 (allK_mem.1 h3))
    rcases Nat.lt_trichotomy i0 j with hlt | he | hgt
    · have := List.pairwise_iff_getElem.1 hpw i0 j hi0 h1 hlt
      have e2 : P.getD j 0 = P[j] := by simp [List.getD, h1]
      rw [e2] at hmem
      omega
    · rw [← he]; exact hg0
    · have := h4 i0 hgt hi0
      rw [hg0, allK_mem.2 hself] at this; cases this

theorem comN_nil (ns : List NdD) : comN ns [] = -1 := by unfold comN; rw [if_pos (by rfl)]

theorem comN_bad {ns : List NdD} {l : List Int} {y : Int} (hy : y ∈ l) (hb : ¬ (0 ≤ y ∧ y < ns.length)) : comN ns l = -1 := by
  unfold comN
  split
  · rfl
  · split
    · rcases comK_spec ns l (pathN ns (l.getD 0 0)) (pathN ns (l.getD 0 0)).length with ⟨h1, _⟩ | ⟨j, h1, h2, h3, h4⟩
      · exact h1
      · have := allK_mem.1 h3 y hy
        rw [pathN_out hb] at this; cases this
    · rfl

theorem mem_take_succ {l : List Int} {k : Nat} (hk : k < l.length) {y : Int} : y ∈ l.take (k + 1) ↔ y ∈ l.take k ∨ y = l.getD k 0 := by
  rw [List.take_add_one, List.mem_append, List.getElem?_eq_getElem hk]
  simp [List.getD, hk]
/-! ### Descendants -/

theorem selK_none {p : Nat → Bool} : ∀ {k : Nat}, (∀ j, j < k → p j = false) → selK p k = []
  | 0, _ => rfl
  | k + 1, h => by rw [selK_no (h k (by omega)), selK_none (fun j hj => h j (by omega))]

theorem desc_out {ns : List NdD} (h : TrOK ns) {i : Int} (hi : ¬ (0 ≤ i ∧ i < ns.length)) : descN ns i = [] := by
  unfold descN
  refine selK_none fun j hj => decide_eq_false fun hx => hi ?_
  have := pathN_rng h _ _ hx
  omega

/-- The marks up to place k. -/
def undL (ns : List NdD) (i : Int) (m k : Nat) : List Bool := (List.range m).map fun j => decide (j < k) && decide (i ∈ pathN ns (j : Int))

theorem undL_len (ns : List NdD) (i : Int) (m k : Nat) : (undL ns i m k).length = m := by simp [undL]

theorem undL_get {ns : List NdD} {i : Int} {m k j : Nat} (h : j < m) (hk : j < k) : (undL ns i m k).getD j false = decide (i ∈ pathN ns (j : Int)) := by
  simp [undL, List.getD, h, hk]

theorem undL_no {ns : List NdD} {i : Int} {m k : Nat} (h : decide (i ∈ pathN ns (k : Int)) = false) : undL ns i m (k + 1) = undL ns i m k := by
  refine List.map_congr_left fun j hj => ?_
  by_cases e : j = k
  · subst e; rw [h]; simp
  · have : decide (j < k + 1) = decide (j < k) := by apply Bool.eq_iff_iff.2; simp; omega
    rw [this]

theorem undL_set {ns : List NdD} {i : Int} {m k : Nat} (h : decide (i ∈ pathN ns (k : Int)) = true) : (undL ns i m k).set k true = undL ns i m (k + 1) := by
  apply List.ext_getElem?
  intro j
  rw [List.getElem?_set, undL_len]
  by_cases hj : j < m
  · have e1 : (undL ns i m (k + 1))[j]? = some (decide (j < k + 1) && decide (i ∈ pathN ns (j : Int))) := by simp [undL, hj]
    have e2 : (undL ns i m k)[j]? = some (decide (j < k) && decide (i ∈ pathN ns (j : Int))) := by simp [undL, hj]
    rw [e1, e2]
    by_cases e : k = j
    · subst e; simp [hj, h]
    · have : decide (j < k + 1) = decide (j < k) := by apply Bool.eq_iff_iff.2; simp; omega
      rw [if_neg e, this]
  · rw [List.getElem?_eq_none (by rw [undL_len]; omega), List.getElem?_eq_none (by rw [undL_len]; omega)]
    by_cases e : k = j
    · subst e; simp [hj]
    · simp [e]

theorem undL_zero (ns : List NdD) (i : Int) (m : Nat) : List.replicate m false = undL ns i m 0 := by
  apply List.ext_getElem?
  intro j
  simp only [undL, List.getElem?_replicate, List.getElem?_map, List.getElem?_range']
  by_cases h : j < m
  · simp [h]
  · simp [h]

theorem undL_skip {ns : List NdD} (hok : TrOK ns) {i : Nat} (m : Nat) : ∀ {k : Nat}, k ≤ i → undL ns (i : Int) m k = undL ns (i : Int) m 0
  | 0, _ => rfl
  | k + 1, h => by
    rw [undL_no, undL_skip hok m (by omega)]
    exact decide_eq_false fun hx => by have := path_le hok hx; omega

theorem undL_first {ns : List NdD} (hok : TrOK ns) {i : Nat} (hi : i < ns.length) (m : Nat) : (List.replicate m false).set i true = undL ns (i : Int) m (i + 1) := by
  rw [undL_zero ns (i : Int) m, ← undL_skip hok m (Nat.le_refl i)]
  exact undL_set (decide_eq_true (path_self hok hi))

theorem selK_first {ns : List NdD} (hok : TrOK ns) {i : Nat} (hi : i < ns.length) : selK (fun k => decide ((i : Int) ∈ pathN ns (k : Int))) (i + 1) = [(i : Int)] := by
  rw [selK_yes (by exact decide_eq_true (path_self hok hi)), selK_none (fun j hj => decide_eq_false fun hx => by have := path_le hok hx; omega)]
  rfl
end

end Go.Proofs.Ytdlbobpglgjhiaa
