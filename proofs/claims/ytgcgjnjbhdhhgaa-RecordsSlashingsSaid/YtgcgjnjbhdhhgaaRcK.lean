/- EncodeSlashing, the code's and the reference's. -/
import Derived.Test.YtgcgjnjbhdhhgaaRcC
import Derived.Test.YtgcgjnjbhdhhgaaRcQ
set_option linter.unusedVariables false
set_option linter.unusedSimpArgs false
namespace Go.Proofs.Ytgcgjnjbhdhhgaa
open Go.RowKit

def ClD.good (x : ClD) (l : List Int) (w : World) : Prop := x.ok ∧ IntsV w x.v l ∧ l.length ≤ 10000000

theorem ClD.parts_len {x : ClD} (h : x.ok) : x.parts.map List.length = [1, 1, 32, 1] := by simp [ClD.parts, bytesL_len h.2.2]
theorem ClD.encl {x : ClD} {l : List Int} (h : x.ok) (hv : vlE l 1024 = 0) (hl : l.length ≤ 1000000000) : (x.enc l).length ≤ 62 + 10 * l.length ∧ ∀ y ∈ x.enc l, 0 ≤ y ∧ y ≤ 255 := by
  have h1 := uenc_len10 (n := x.source.toNat) (by have := h.1; omega)
  have h2 := uenc_len10 (n := x.target.toNat) (by have := h.2.1; omega)
  have h3 := lenc_len hv (Nat.le_refl _) hl
  have h4 := h.2.2.1
  constructor
  · simp only [ClD.enc, List.length_append]
    unfold lenc
    omega
  · intro y hy
    simp only [ClD.enc, List.mem_append, lenc, lencK] at hy
    rcases hy with hy | hy | hy | hy | hy
    · exact uenc_byte _ y hy
    · exact uenc_byte _ y hy
    · exact isb_rng h.2.2 y hy
    · exact uenc_byte _ y hy
    · exact seqK_byte _ _ y hy

theorem ClD.one (x : ClD) (h : x.v.oneCell' = true) : ∀ v ∈ x.cells, v.oneCell' = true := by
  intro v hv
  simp only [ClD.cells, ClD.parts, List.flatten_cons, List.flatten_nil, List.mem_append, List.mem_singleton, List.not_mem_nil, or_false] at hv
  rcases hv with rfl | rfl | hv | rfl
  · rfl
  · rfl
  · exact bytesL_one _ v hv
  · exact h

theorem aclaim_d (x : ClD) (v : Value) (bs l : List Int) (w : World) (h : Byt w v bs) (hx : x.good l w) (hv : vlE l 1024 = 0) (hb : bs.length ≤ 1000000000) :
    Calls Try.prog 60 #[v, .agg x.cells.toArray] w (AppN w (bs ++ x.enc l)) :=
  aclaim_any v bs x.source x.target x.root x.v l w h hx.1.1 hx.1.2.1 hx.1.2.2 hx.2.1 hv (by have := hx.2.2; omega) hb

/-- A slashing's box: what its loads find. -/
structure SlB (w0 u : World) (x y : ClD) : Prop where
  blk : Blk u w0.heap.size (flatP [x.cells, y.cells])

theorem sla_box {w : World} {x y : ClD} {u : World} (hx : x.ok) (hy : y.ok) (h : Blk u w.heap.size (flatP [x.cells, y.cells])) :
    u.cell? ⟨w.heap.size, 34, none⟩ = some x.v ∧ u.cell? ⟨w.heap.size, 69, none⟩ = some y.v ∧ u.rangeAt w.heap.size 0 x.cells ∧ u.rangeAt w.heap.size 35 y.cells := by
  have h35 := ClD.len hx
  have k35 := ClD.len hy
  have b32 := bytesL_len hx.2.2
  have c32 := bytesL_len hy.2.2
  have p0 := h.part (k := 0) rfl
  have p1 := h.part (k := 1) rfl
  have o1 : offP [x.cells, y.cells] 1 = 35 := by simp [offP, h35]
  rw [o1] at p1
  have ex : x.cells[34]? = some x.v := by
    have : x.cells = ([[Value.int .u64 x.source], [Value.int .u64 x.target], bytesL x.root].flatten) ++ [x.v] := by simp [ClD.cells, ClD.parts]
    rw [this, List.getElem?_append_right (by simp [b32])]
    simp [b32]
  have ey : y.cells[34]? = some y.v := by
    have : y.cells = ([[Value.int .u64 y.source], [Value.int .u64 y.target], bytesL y.root].flatten) ++ [y.v] := by simp [ClD.cells, ClD.parts]
    rw [this, List.getElem?_append_right (by simp [c32])]
    simp [c32]
  have q0 := p0 34 _ ex
  have q1 := p1 34 _ ey
  rw [show offP [x.cells, y.cells] 0 + 34 = 34 from rfl] at q0
  exact ⟨q0, q1, p0, p1⟩

set_option maxRecDepth 100000 in
set_option maxHeartbeats 8000000 in
theorem esla_any (x y : ClD) (l m : List Int) (w : World) (hx : x.good l w) (hy : y.good m w) :
    Calls Try.prog 21 #[.agg (flatP [x.cells, y.cells])] w (EncR w (vlsE [l, m]) (x.enc l ++ y.enc m)) := by
  obtain ⟨xa, xl, xc, hxv⟩ := ints_shape' hx.2.1.1
  obtain ⟨ya, yl, yc, hyv⟩ := ints_shape' hy.2.1.1
  have HBX := Lib.hid (fun u => sla_box (u := u) (w := w) hx.1 hy.1)
  rw [hxv, hyv] at HBX
  have HGX := Lib.hid (fun u (hu : Below w.heap.size w u) => (⟨hx.1, hx.2.1.below hu, hx.2.2⟩ : x.good l u))
  have HGY := Lib.hid (fun u (hu : Below w.heap.size w u) => (⟨hy.1, hy.2.1.below hu, hy.2.2⟩ : y.good m u))
  have HIXv := Lib.hid (fun u (hu : Below w.heap.size w u) => hx.2.1.below hu)
  have HIYv := Lib.hid (fun u (hu : Below w.heap.size w u) => hy.2.1.below hu)
  rw [hxv] at HIXv
  rw [hyv] at HIYv
  have HLX := Lib.hid (fun hv => ClD.encl hx.1 (l := l) hv (by have := hx.2.2; omega))
  have HLY := Lib.hid (fun hv => ClD.encl hy.1 (l := m) hv (by have := hy.2.2; omega))
  have hll := hx.2.2
  have hlm := hy.2.2
  have hcx : x.cells.length = 35 := ClD.len hx.1
  have hcy : y.cells.length = 35 := ClD.len hy.1
  have HI1 : Hid ((Try.prog.info? 54).map (·.size) = some x.cells.length) := by show _ = _; rw [hcx]; kernel_rfl
  have HI2 : Hid ((Try.prog.info? 54).map (·.size) = some y.cells.length) := by show _ = _; rw [hcy]; kernel_rfl
  have hX0 : (flatP [x.cells, y.cells]).size = 70 := by rw [flatP_size]; simp [hcx, hcy]
  have K0X : Blk (w.alloc (.cells (flatP [x.cells, y.cells]) 56)) w.heap.size (flatP [x.cells, y.cells]) := Blk.new rfl
  obtain ⟨X, hX⟩ : ∃ X, flatP [x.cells, y.cells] = X := ⟨_, rfl⟩
  have HBXX := Lib.hid (fun u (h : Blk u w.heap.size X) => HBX.out u (by rw [hX]; exact h))
  rw [hX] at hX0 K0X ⊢
  clear hX HBX hcx hcy hx hy
  have HB0 := Lib.hid ((Below.refl w.heap.size w).alloc (Nat.le_refl _) (.cells X 56))
  have HK0 := Lib.hid K0X; clear K0X
  have HXV := Lib.hid hxv; clear hxv
  have HYV := Lib.hid hyv; clear hyv
  have DV := vlists_any (w.heap.size + 1) 2 _ _ _ (lists2 (t := 22) (n := w.heap.size + 1) (by simp) (HIXv.out _ HB0.out) (HIYv.out _ HB0.out)) (by omega)
  have HDV := Lib.hid DV; clear DV
  have HVV := Lib.hid (vlsE_two l m)
  obtain ⟨E, hE⟩ : ∃ E, Hid (vlsE [l, m] = E) := ⟨_, rfl⟩
  rw [hE.out] at HDV ⊢
  by_cases hE0 : E = 0
  case neg =>
    have hne : (E != 0) = true := by simpa using hE0
    have b0 := (HBXX.out _ HK0.out).1
    go_enter Try.func21, Try.ntmps21
    go_wp2_with (first
      | ((with_reducible refine at_load (.tmp 6) ?_); refine wpList_load_1 22 (.tmp 6) rfl w.heap.size 34 (.slice xa xl xc) (HBXX.out _ HK0.out).1 rfl _ Try.underlying22 rfl rfl ?_)
      | ((with_reducible refine at_load (.tmp 9) ?_); refine wpList_load_1 22 (.tmp 9) rfl w.heap.size 69 (.slice ya yl yc) (HBXX.out _ HK0.out).2.1 rfl _ Try.underlying22 rfl rfl ?_)
      | (go_at_call 54; refine HDV.out.mono ?_; rintro e w1 ⟨rfl, rfl⟩))
    go_ret2
    exact ⟨_, rfl, by rw [if_neg hE0]; exact byt_nil _, HB0.out.alloc (by simp) _⟩
  subst hE0
  have hvl : vlE l 1024 = 0 ∧ vlE m 1024 = 0 := by
    have h1 := HVV.out
    rw [hE.out] at h1
    by_cases h0 : vlE l 1024 = 0
    · rw [if_neg (by simpa using h0)] at h1; exact ⟨h0, h1.symm⟩
    · rw [if_pos h0] at h1; exact absurd h1.symm h0
  have HV1 := Lib.hid hvl.1
  have HV2 := Lib.hid hvl.2
  have hl1 := (HLX.out hvl.1).1
  have hl2 := (HLY.out hvl.2).1
  clear hvl
  have HK1 := Lib.hid (HK0.out.alloc (.cells #[Value.slice xa xl xc, .slice ya yl yc] 22))
  have HB1 := Lib.hid (HB0.out.alloc (by simp) (.cells #[Value.slice xa xl xc, .slice ya yl yc] 22))
  go_enter Try.func21, Try.ntmps21
  go_wp2_with (first
    | ((with_reducible refine at_load (.tmp 6) ?_); refine wpList_load_1 22 (.tmp 6) rfl w.heap.size 34 (.slice xa xl xc) (HBXX.out _ HK0.out).1 rfl _ Try.underlying22 rfl rfl ?_)
    | ((with_reducible refine at_load (.tmp 9) ?_); refine wpList_load_1 22 (.tmp 9) rfl w.heap.size 69 (.slice ya yl yc) (HBXX.out _ HK0.out).2.1 rfl _ Try.underlying22 rfl rfl ?_)
    | (go_at_call 54; refine HDV.out.mono ?_; rintro e w1 ⟨rfl, rfl⟩))
  refine wp_region_held_drew (S := fun u' => Below ((w.alloc (.cells X 56)).alloc (.cells #[Value.slice xa xl xc, .slice ya yl yc] 22)).drew.heap.size ((w.alloc (.cells X 56)).alloc (.cells #[Value.slice xa xl xc, .slice ya yl yc] 22)).drew u') (by kernel_rfl) (Below.refl _ _) (fun _ => ?_)
  (try simp only [Act.put, List.setIfInBounds_toArray, List.set_cons_zero, List.set_cons_succ])
  obtain ⟨q, hq⟩ : ∃ q, ((w.alloc (.cells X 56)).alloc (.cells #[Value.slice xa xl xc, .slice ya yl yc] 22)).drew = q := ⟨_, rfl⟩
  have hKq : Blk q w.heap.size X := by rw [← hq]; exact HK1.out
  have hBq : Below w.heap.size w q := by rw [← hq]; exact Below.drewN (n := 1) HB1.out
  rw [hq]
  clear hq
  have HLD := Lib.hid (fun u (hu : Below q.heap.size q u) => HBXX.out u (hKq.call hu))
  refine wpAnyH_take (i := 0) (oi := ⟨some 16, _, _, _, _, _⟩) (v := .pointer (some ⟨w.heap.size, 0, none⟩)) rfl (by kernel_rfl) (by kernel_rfl) (by kernel_rfl) (fun _ _ _ h => h) (Or.inl ⟨by rfl, fun wz hz => ?_⟩) (Below.refl _ _) ?_
  · clear hz; go_simp; first | done | with_reducible rfl | rfl
  (try simp only [Act.put, List.setIfInBounds_toArray, List.set_cons_zero, List.set_cons_succ])
  refine held_load 1 rfl (by kernel_rfl) (by kernel_rfl) (by kernel_rfl) (fun _ _ _ _ h => h) rfl 54 (.tmp 16) rfl w.heap.size 0 rfl x.cells _ (fun u' hu => (HLD.out u' hu).2.2.1) Try.underlying54 rfl (HI1.out) (Below.refl _ _) ?_
  (try simp only [Act.put, List.setIfInBounds_toArray, List.set_cons_zero, List.set_cons_succ])
  refine wpAnyH_take (i := 3) (oi := ⟨some 19, _, _, _, _, _⟩) (v := .pointer (some ⟨w.heap.size, 35, none⟩)) rfl (by kernel_rfl) (by kernel_rfl) (by kernel_rfl) (fun _ _ _ h => h) (Or.inl ⟨by rfl, fun wz hz => ?_⟩) (Below.refl _ _) ?_
  · clear hz; go_simp; first | done | with_reducible rfl | rfl
  (try simp only [Act.put, List.setIfInBounds_toArray, List.set_cons_zero, List.set_cons_succ])
  refine held_load 4 rfl (by kernel_rfl) (by kernel_rfl) (by kernel_rfl) (fun _ _ _ _ h => h) rfl 54 (.tmp 19) rfl w.heap.size 35 rfl y.cells _ (fun u' hu => (HLD.out u' hu).2.2.2) Try.underlying54 rfl (HI2.out) (Below.refl _ _) ?_
  (try simp only [Act.put, List.setIfInBounds_toArray, List.set_cons_zero, List.set_cons_succ])
  refine wpAnyH_ready (rs := [2]) (by kernel_rfl) (by simp) ?_
  refine AllReadyH.cons rfl (fun K hK => ?_) AllReadyH.nil
  go_simp
  refine (aclaim_d x _ [] l _ (byt_nil _) (HGX.out _ hBq) HV1.out (by simp)).mono ?_
  rintro e ua ⟨va, rfl, oa, ba⟩
  have hla := HLX.out HV1.out
  refine hK.out _ _ (ba) (fun _ => ?_)
  clear hK K
  (try simp only [Act.put, List.setIfInBounds_toArray, List.set_cons_zero, List.set_cons_succ])
  refine wpAnyH_ready (rs := [5]) (by kernel_rfl) (by simp) ?_
  refine AllReadyH.cons rfl (fun K hK => ?_) AllReadyH.nil
  go_simp
  refine (aclaim_d y _ ([] ++ x.enc l) m _ (oa.byt (by rw [List.nil_append]; unfold maxLen; omega) (by rw [List.nil_append]; exact hla.2)) (HGY.out _ (hBq.trans (ba.mono hBq.size))) HV2.out (by rw [List.nil_append]; omega)).mono ?_
  rintro e ub ⟨vb, rfl, ob, bb0⟩
  have bb := bel0 ba bb0
  refine hK.out _ _ (bb) (fun _ => ?_)
  clear hK K
  (try simp only [Act.put, List.setIfInBounds_toArray, List.set_cons_zero, List.set_cons_succ])
  refine wpAnyH_ready (rs := [6]) (by kernel_rfl) (by simp) ?_
  refine AllReadyH.cons rfl (fun K hK => ?_) AllReadyH.nil
  go_simp
  refine hK.out _ _ (bb) (fun _ => ?_)
  clear hK K
  (try simp only [Act.put, List.setIfInBounds_toArray, List.set_cons_zero, List.set_cons_succ])
  refine wpAnyH_ready (rs := [7]) (by kernel_rfl) (by simp) ?_
  refine AllReadyH.cons rfl (fun K hK => ?_) AllReadyH.nil
  go_simp
  refine hK.out _ _ (bb) (fun _ => ?_)
  clear hK K
  (try simp only [Act.put, List.setIfInBounds_toArray, List.set_cons_zero, List.set_cons_succ])
  refine wpAnyH_done (by kernel_rfl) ?_ _
  go_wp2_with fail
  go_ret2
  refine ⟨vb, rfl, ?_, hBq.trans (bb.mono hBq.size)⟩
  rw [if_pos rfl]
  rw [List.nil_append] at ob
  have hlb := HLY.out HV2.out
  exact ob.byt (by rw [List.length_append]; unfold maxLen; omega) (fun z hz => by rcases List.mem_append.1 hz with hz | hz; exact hla.2 z hz; exact hlb.2 z hz)

end Go.Proofs.Ytgcgjnjbhdhhgaa
