/- The reference's Register. -/
import Derived.Test.YtdfemompijhohaaBkN
set_option linter.unusedVariables false
set_option linter.unusedSimpArgs false
namespace Go.Proofs.Ytdfemompijhohaa
open Go.RowKit Go.Maps
set_option maxRecDepth 100000

def rrE (n lim : Int) (ds : List (CpD × List Int)) (c : CpD) (l : List Int) : Int :=
  if vtE n l ≠ 0 then vtE n l else if c ∈ ds.map Prod.fst then 9 else if lim ≤ (ds.length : Int) then 11 else 0

/-- What the reference's Register hands back. -/
def RRegR (n lim : Int) (ds : List (CpD × List Int)) (c : CpD) (l : List Int) (w : World) (e : Ending) (w' : World) : Prop :=
  ∃ v' ds', e = .returned (.tuple #[v', .int .i64 (rrE n lim ds c l)]) ∧ TabsC w' v' ds' ∧ Below w.heap.size w w' ∧ ((rrE n lim ds c l ≠ 0 ∧ ds' = ds) ∨ (rrE n lim ds c l = 0 ∧ AddR ds c l ds'))

theorem find_neg {ds : List (CpD × List Int)} {c : CpD} {i : Int} (h : FindR ds c i) (hi : i < 0) : c ∉ ds.map Prod.fst := by
  rcases h with ⟨_, h⟩ | ⟨k, hk, rfl, _⟩
  · intro hm
    obtain ⟨d, hd, e⟩ := List.mem_map.1 hm
    exact h d hd e
  · omega
theorem find_pos {ds : List (CpD × List Int)} {c : CpD} {i : Int} (h : FindR ds c i) (hi : 0 ≤ i) : c ∈ ds.map Prod.fst := by
  rcases h with ⟨rfl, _⟩ | ⟨k, hk, rfl, e⟩
  · omega
  · exact List.mem_map.2 ⟨ds[k], List.getElem_mem hk, e⟩

set_option maxHeartbeats 8000000 in
theorem rreg_any (v : Value) (ds : List (CpD × List Int)) (c : CpD) (tv : Value) (l : List Int) (n lim : Int) (w : World) (h : TabsC w v ds) (hc : c.ok) (hI : NumsV w tv l) (hm : ds.length ≤ 1000) (hl : l.length ≤ 1000000) :
    Calls Try.prog 16 #[v, .agg (flatP [c.cells, [tv]]), .int .i64 n, .int .i64 lim] w (RRegR n lim ds c l w) := by
  have HV := Lib.hid h
  have HI := Lib.hid hI
  have HVT := Lib.hid (fun u (hu : NumsV u tv l) => rvtab_any c tv l n u hc hu)
  have HFT := Lib.hid (fun u (hu : TabsV u v ds) => find_any v ds c u hu hc (by omega))
  have HAT := Lib.hid (fun u (hu : TabsC u v ds) (hi : NumsV u tv l) => addt_any v ds c tv l u hu hc hi hm hl)
  have HO := Lib.hid (tabOff hc tv)
  obtain ⟨a, cap, rfl, _, _⟩ := h.2
  obtain ⟨X, HX⟩ : ∃ X, Hid (flatP [c.cells, [tv]] = X) := ⟨_, Lib.hid rfl⟩
  rw [HX.out] at HVT HAT ⊢
  have hX : X.size = 34 := by rw [← HX.out]; exact HO.out.2.2
  have hi : (Try.prog.info? 29).map (·.size) = some X.size := by rw [hX]; kernel_rfl
  have HBA := Lib.hid ((Below.refl w.heap.size w).alloc (Nat.le_refl _) (.cells X 29))
  have HT : Hid (Blk (w.alloc (.cells X 29)) w.heap.size X) := Blk.new rfl
  have HTP : Hid (∀ (u : World), Blk u w.heap.size X → u.rangeAt w.heap.size 0 c.cells) := fun u hb => by
    rw [← HX.out] at hb
    exact hb.part (k := 0) rfl
  have hi3 : (Try.prog.info? 26).map (·.size) = some c.cells.length := by rw [CpD.len hc]; kernel_rfl
  unfold cpX at HFT
  obtain ⟨C, hC⟩ : ∃ C, Hid (c.cells = C) := ⟨_, Lib.hid rfl⟩
  rw [hC.out] at HFT HTP hi3
  obtain ⟨ve, hve⟩ : ∃ ve, Hid (vtE n l = ve) := ⟨_, Lib.hid rfl⟩
  rw [hve.out] at HVT
  clear h hc hI
  by_cases h0 : ve = 0
  case neg =>
    have hq : (ve != 0) = true := by simpa using h0
    have HE : Hid (rrE n lim ds c l = ve) := by show _ = _; unfold rrE; rw [hve.out, if_pos h0]
    go_enter Try.func16, Try.ntmps16
    go_wp2_with (first
      | ((with_reducible refine at_load (.tmp 5) ?_); refine wpList_load_blk rfl 29 (.tmp 5) rfl w.heap.size rfl X _ HT.out Try.underlying29 rfl hi ?_)
      | (go_at_call 9; refine (HVT.out _ (HI.out.below HBA.out)).mono ?_; rintro e w1 ⟨rfl, hb1⟩; have HB1 := Lib.hid (HBA.out.trans (hb1.mono HBA.out.size)); clear hb1))
    go_ret2
    exact ⟨_, ds, by rw [HE.out]; rfl, HV.out.below HB1.out, HB1.out, .inl ⟨by rw [HE.out]; exact h0, rfl⟩⟩
  subst h0
  by_cases hk : c ∈ ds.map Prod.fst
  · have HE : Hid (rrE n lim ds c l = 9) := by show _ = _; unfold rrE; rw [hve.out, if_neg (by simp), if_pos hk]
    go_enter Try.func16, Try.ntmps16
    go_wp2_with (first
      | ((with_reducible refine at_load (.tmp 5) ?_); refine wpList_load_blk rfl 29 (.tmp 5) rfl w.heap.size rfl X _ HT2.out Try.underlying29 rfl hi ?_)
      | ((with_reducible refine at_load (.tmp 5) ?_); refine wpList_load_blk rfl 29 (.tmp 5) rfl w.heap.size rfl X _ HT.out Try.underlying29 rfl hi ?_)
      | (go_at_call 9; refine (HVT.out _ (HI.out.below HBA.out)).mono ?_; rintro e w1 ⟨rfl, hb1⟩; have HB1 := Lib.hid (HBA.out.trans (hb1.mono HBA.out.size)); have HT1 := Lib.hid (HT.out.call hb1); clear hb1)
      | ((with_reducible refine at_load (.tmp 19) ?_); refine wpList_load_rng 26 (.tmp 19) rfl w.heap.size 0 C (HTP.out _ HT1.out) rfl _ Try.underlying26 rfl hi3 rfl ?_)
      | (go_at_call 29; refine (HFT.out _ (HV.out.below HB1.out).1).mono ?_; rintro e w2 ⟨⟨fi, rfl, hfi⟩, hb2⟩; have hpos : 0 ≤ fi := (by rcases Int.lt_or_le fi 0 with h | h; exact absurd hk (find_neg hfi h); exact h); have HB2 := Lib.hid (HB1.out.trans (hb2.mono HB1.out.size)); have HT2 := Lib.hid (HT1.out.call hb2); clear hb2 hfi))
    go_ret2
    exact ⟨_, ds, by rw [HE.out]; rfl, HV.out.below HB2.out, HB2.out, .inl ⟨by rw [HE.out]; decide, rfl⟩⟩
  by_cases hfull : lim ≤ (ds.length : Int)
  · have HE : Hid (rrE n lim ds c l = 11) := by show _ = _; unfold rrE; rw [hve.out, if_neg (by simp), if_neg hk, if_pos hfull]
    go_enter Try.func16, Try.ntmps16
    go_wp2_with (first
      | ((with_reducible refine at_load (.tmp 5) ?_); refine wpList_load_blk rfl 29 (.tmp 5) rfl w.heap.size rfl X _ HT2.out Try.underlying29 rfl hi ?_)
      | ((with_reducible refine at_load (.tmp 5) ?_); refine wpList_load_blk rfl 29 (.tmp 5) rfl w.heap.size rfl X _ HT.out Try.underlying29 rfl hi ?_)
      | (go_at_call 9; refine (HVT.out _ (HI.out.below HBA.out)).mono ?_; rintro e w1 ⟨rfl, hb1⟩; have HB1 := Lib.hid (HBA.out.trans (hb1.mono HBA.out.size)); have HT1 := Lib.hid (HT.out.call hb1); clear hb1)
      | ((with_reducible refine at_load (.tmp 19) ?_); refine wpList_load_rng 26 (.tmp 19) rfl w.heap.size 0 C (HTP.out _ HT1.out) rfl _ Try.underlying26 rfl hi3 rfl ?_)
      | (go_at_call 29; refine (HFT.out _ (HV.out.below HB1.out).1).mono ?_; rintro e w2 ⟨⟨fi, rfl, hfi⟩, hb2⟩; have hneg : fi = -1 := (by rcases hfi with ⟨h, _⟩ | ⟨k, hk', e, e2⟩; exact h; exact absurd (List.mem_map.2 ⟨ds[k], List.getElem_mem hk', e2⟩) hk); subst hneg; have HB2 := Lib.hid (HB1.out.trans (hb2.mono HB1.out.size)); have HT2 := Lib.hid (HT1.out.call hb2); clear hb2 hfi))
    go_ret2
    exact ⟨_, ds, by rw [HE.out]; rfl, HV.out.below HB2.out, HB2.out, .inl ⟨by rw [HE.out]; decide, rfl⟩⟩
  · have HE : Hid (rrE n lim ds c l = 0) := by show _ = _; unfold rrE; rw [hve.out, if_neg (by simp), if_neg hk, if_neg hfull]
    go_enter Try.func16, Try.ntmps16
    go_wp2_with (first
      | ((with_reducible refine at_load (.tmp 5) ?_); refine wpList_load_blk rfl 29 (.tmp 5) rfl w.heap.size rfl X _ HT2.out Try.underlying29 rfl hi ?_)
      | ((with_reducible refine at_load (.tmp 5) ?_); refine wpList_load_blk rfl 29 (.tmp 5) rfl w.heap.size rfl X _ HT.out Try.underlying29 rfl hi ?_)
      | (go_at_call 9; refine (HVT.out _ (HI.out.below HBA.out)).mono ?_; rintro e w1 ⟨rfl, hb1⟩; have HB1 := Lib.hid (HBA.out.trans (hb1.mono HBA.out.size)); have HT1 := Lib.hid (HT.out.call hb1); clear hb1)
      | ((with_reducible refine at_load (.tmp 19) ?_); refine wpList_load_rng 26 (.tmp 19) rfl w.heap.size 0 C (HTP.out _ HT1.out) rfl _ Try.underlying26 rfl hi3 rfl ?_)
      | (go_at_call 29; refine (HFT.out _ (HV.out.below HB1.out).1).mono ?_; rintro e w2 ⟨⟨fi, rfl, hfi⟩, hb2⟩; have hneg : fi = -1 := (by rcases hfi with ⟨h, _⟩ | ⟨k, hk', e, e2⟩; exact h; exact absurd (List.mem_map.2 ⟨ds[k], List.getElem_mem hk', e2⟩) hk); subst hneg; have HB2 := Lib.hid (HB1.out.trans (hb2.mono HB1.out.size)); have HT2 := Lib.hid (HT1.out.call hb2); clear hb2 hfi)
      | (go_at_call 30; refine (HAT.out _ (HV.out.below HB2.out) (HI.out.below HB2.out)).mono ?_; rintro e w3 ⟨⟨v3, ds3, rfl, hv3, ha3⟩, hb3⟩; have HV3 := Lib.hid hv3; have HA3 := Lib.hid ha3; have HB3 := Lib.hid (HB2.out.trans (hb3.mono HB2.out.size)); clear hv3 ha3 hb3))
    go_ret2
    exact ⟨_, ds3, by rw [HE.out]; rfl, HV3.out, HB3.out, .inr ⟨HE.out, HA3.out⟩⟩

end Go.Proofs.Ytdfemompijhohaa
