/- Cast. -/
import Derived.Test.YtcbjjafjomdklaaVoC
set_option linter.unusedVariables false

set_option linter.unusedSimpArgs false
namespace Go.Proofs.Ytcbjjafjomdklaa
open Go.RowKit

set_option maxRecDepth 100000

/-- What Cast promises. -/
def CastE (b g : Nat) (vs : List VoD) (ep : Int) (r l : List Int) (w : World) (e : Ending) (w' : World) : Prop :=
  e = .returned (.tuple #[.int .i64 (castR vs ep r l).2, .int .i64 (vlE l vs.length)]) ∧ VtI w' b g (castR vs ep r l).1 ∧ w.grownBy w' (some g)

def CastI (w : World) (b g : Nat) (vs : List VoD) (ep : Int) (r l : List Int) (X : Array Value) (c i : Value) (wr : World) : Prop :=
  ∃ k : Nat, k ≤ l.length ∧ i = .int .i64 k ∧ c = .int .i64 (castK vs ep r l k).2 ∧ VtI wr b g (castK vs ep r l k).1 ∧ Blk wr w.heap.size X ∧ w.grownBy wr (some g)

theorem grown_below {w a u : World} {row : Option Nat} (h : w.grownBy a row) (hb : Below w.heap.size a u) : w.grownBy u row :=
  ⟨hb.os.trans h.os, hb.tape.trans h.tape, hb.output.trans h.output, Nat.le_trans h.size hb.size, fun k hk hne => (hb.block k hk).trans (h.block k hk hne)⟩

theorem grown_upd {w a u : World} {g : Nat} (h : w.grownBy a (some g)) (hu : Upd g a u) : w.grownBy u (some g) :=
  ⟨hu.os.trans h.os, hu.tape.trans h.tape, hu.output.trans h.output, by rw [hu.size]; exact h.size, fun k hk hne => (hu.block k (fun e => hne (by rw [e]))).trans (h.block k hk hne)⟩

theorem below_grown' {w a : World} (row : Option Nat) (h : Below w.heap.size w a) : w.grownBy a row := ⟨h.os, h.tape, h.output, h.size, fun k hk _ => h.block k hk⟩

theorem VtI.set {w w' : World} {b g : Nat} {vs : List VoD} (h : VtI w b g vs) {j : Nat} {v : VoD} (hv : v.ok) (hu : Upd g w w') (hr : RowB w' g ((vs.map VoD.cells).set j v.cells)) : VtI w' b g (vs.set j v) where
  blk := by rw [List.length_set]; exact hu.blk h.blk h.ne
  row := by rw [List.map_set]; exact hr
  ok := fun x hx => by
    rcases List.mem_or_eq_of_mem_set hx with h' | rfl
    · exact h.ok x h'
    · exact hv
  len := by rw [List.length_set]; exact h.len
  ne := h.ne

theorem castI_same {e : Int} {r : List Int} {T : List VoD} {n : Int} {j : Nat} (h1 : (T.getD j zeV).has = true) (h2 : e ≤ (T.getD j zeV).n) : castI e r (T, n) j = (T, n) := by
  unfold castI; rw [if_pos (by simpa using ⟨h1, h2⟩)]

theorem castI_new {e : Int} {r : List Int} {T : List VoD} {n : Int} {j : Nat} (h : ¬ ((T.getD j zeV).has = true ∧ e ≤ (T.getD j zeV).n)) : castI e r (T, n) j = (T.set j ⟨true, e, r⟩, n + 1) := by
  unfold castI; rw [if_neg (by simpa using h)]; rfl

theorem castR_no {vs : List VoD} {e : Int} {r l : List Int} (h : vlE l vs.length ≠ 0) : castR vs e r l = (vs, 0) := by unfold castR; rw [if_neg h]

theorem castR_yes {vs : List VoD} {e : Int} {r l : List Int} (h : vlE l vs.length = 0) : castR vs e r l = castK vs e r l l.length := by unfold castR; rw [if_pos h]

set_option maxHeartbeats 8000000 in
theorem cast_any (b g : Nat) (vs : List VoD) (e : Int) (r : List Int) (v : Value) (l : List Int) (w : World) (hV : VtI w b g vs) (he : 0 ≤ e ∧ e ≤ 18446744073709551615) (hr : IsBytes 32 r) (hI : IntsV w v l) (hO : Off g v) :
    Calls Try.prog 13 #[.pointer (some ⟨b, 0, none⟩), .int .u64 e, .agg (bytesL r).toArray, v] w (CastE b g vs e r l w) := by
  have HV := Lib.hid hV
  have hblt := hV.blk.lt
  have hglt := hV.row.lt
  have c0 : w.cell? ⟨b, 0, none⟩ = some (.slice (some ⟨g, 0, none⟩) vs.length vs.length) := hV.blk.cell 0
  have HL : Hid (vs.length ≤ 1024) := hV.len
  have HR := Lib.hid hr
  have HE := Lib.hid he
  have HI := Lib.hid hI
  have HO := Lib.hid hO
  have HVL := Lib.hid (fun u (hu : IntsV u v l) => vlist_any v l vs.length u hu (by omega) (by have := hV.len; omega))
  obtain ⟨X, hX⟩ : ∃ X, Hid ((bytesL r).toArray = X) := ⟨_, rfl⟩
  rw [hX.out]
  have HBA := Lib.hid ((Below.refl w.heap.size w).alloc (Nat.le_refl _) (.cells X 28))
  have HBX : Hid (Blk (w.alloc (.cells X 28)) w.heap.size X) := Blk.new rfl
  obtain ⟨m, hm⟩ : ∃ m, Hid (vs.length = m) := ⟨_, rfl⟩
  rw [hm.out] at c0 HL HVL
  obtain ⟨ve, hve⟩ : ∃ ve, vlE l m = ve := ⟨_, rfl⟩
  rw [hve] at HVL
  have HVE : Hid (vlE l vs.length = ve) := by show _ = _; rw [hm.out]; exact hve
  have hm1 : m ≤ 1024 := HL.out
  obtain ⟨a, len, cap, rfl, hlen, hmax, _⟩ := hI.1
  unfold maxLen at hmax
  have HLEN := Lib.hid hlen
  clear hV hr hI hO he hve hlen
  by_cases h0 : ve = 0
  case neg =>
    have hq : (ve != 0) = true := by simpa using h0
    have HC := Lib.hid (castR_no (e := e) (r := r) (l := l) (vs := vs) (by rw [HVE.out]; exact h0))
    go_enter Try.func13, Try.ntmps13
    go_wp2_with (go_at_call 26; refine (HVL.out _ (HI.out.below HBA.out)).mono ?_; rintro e w1 ⟨rfl, rfl⟩)
    go_ret2
    exact ⟨by rw [HC.out, HVE.out]; rfl, by rw [HC.out]; exact HV.out.call HBA.out, below_grown' _ HBA.out⟩
  subst h0
  have HC := Lib.hid (castR_yes (e := e) (r := r) (l := l) (vs := vs) HVE.out)
  have HG := Lib.hid (vl_good HVE.out)
  have HCO := Lib.hid (castK_ok (l := l) HV.out.ok HE.out HR.out)
  go_enter Try.func13, Try.ntmps13
  go_wp2_with (go_at_call 26; refine (HVL.out _ (HI.out.below HBA.out)).mono ?_; rintro e w1 ⟨rfl, rfl⟩)
  go_loopw [8, 24] (fun c i wr => CastI w b g vs e r l X c i wr) (fun _ i _ => len - (intOf i).toNat)
  case atStart => exact ⟨0, Nat.zero_le _, rfl, rfl, HV.out.call HBA.out, HBX.out, below_grown' _ HBA.out⟩
  case round =>
    obtain ⟨k, hk, rfl, rfl, hti, hbx, hgr⟩ := hrel
    have HTM0 : (castK vs e r l k).1.length = m := by rw [castK_len _ _ _ _ k hk, hm.out]
    have HCN := Lib.hid (castK_cnt vs e r l k hk)
    have HNX := Lib.hid (fun hk => castK_succ (vs := vs) (e := e) (r := r) (l := l) (k := k) hk)
    rw [HLEN.out] at hk
    obtain ⟨P, hP⟩ : ∃ P, castK vs e r l k = P := ⟨_, rfl⟩
    obtain ⟨T, n⟩ := P
    rw [hP] at hti HTM0 HCN HNX ⊢
    simp only at hti HTM0 HCN HNX ⊢
    have HP := Lib.hid hP
    have HTI := Lib.hid hti
    have HTM := Lib.hid HTM0
    have HBX1 := Lib.hid hbx
    have HGR := Lib.hid hgr
    have HN := HCN.out
    clear hti HTM0 hbx hgr c0 hP
    by_cases hlt : k < len
    case neg =>
      obtain rfl : k = len := by omega
      go_wp2_with fail
      go_ret2
      have e1 : castR vs e r l = (T, n) := by rw [HC.out, HLEN.out]; exact HP.out
      exact ⟨by rw [e1, HVE.out]; rfl, by rw [e1]; exact HTI.out, HGR.out⟩
    have hlt' : (k : Int) < len := by omega
    have hkl : k < l.length := by rw [HLEN.out]; exact hlt
    obtain ⟨hx0, hx1, _⟩ := HG.out.2 k hkl
    have HIr := HI.out.1.grownOff HGR.out (fun g' e' => by cases e'; exact HO.out)
    obtain ⟨rb, ro, rfl, hcx⟩ : ∃ rb ro, a = some ⟨rb, ro, none⟩ ∧ wr.cell? ⟨rb, ro + k, none⟩ = some (.int .i64 (l.getD k 0)) := by
      obtain ⟨a', n', c', e', _, _, h5⟩ := HIr
      cases e'
      rcases h5 with h0 | ⟨b', off, rfl, _, hc⟩
      · omega
      · exact ⟨b', off, rfl, hc k hlt⟩
    have HNK := Lib.hid (HNX.out hkl)
    obtain ⟨j, hj⟩ : ∃ j : Nat, l.getD k 0 = j := ⟨(l.getD k 0).toNat, by omega⟩
    rw [hj] at hcx HNK hx1
    have hjm : j < m := by rw [hm.out] at hx1; omega
    have hjm' : (j : Int) < m := by omega
    have hjT : j < T.length := by rw [HTM.out]; exact hjm
    obtain ⟨ch, cn⟩ := row_cells HTI.out.row HTI.out.ok hjT
    have hdo := getD_ok HTI.out.ok j
    have HSA := Lib.hid (fun h1 h2 => castI_same (e := e) (r := r) (T := T) (n := n) (j := j) h1 h2)
    have HNE := Lib.hid (fun h => castI_new (e := e) (r := r) (T := T) (n := n) (j := j) h)
    obtain ⟨d, hd⟩ : ∃ d, T.getD j zeV = d := ⟨_, rfl⟩
    rw [hd] at ch cn hdo HSA HNE
    obtain ⟨dh, dn, dr⟩ := d
    obtain ⟨hd0, hd1, _⟩ := hdo
    simp only at ch cn HSA HNE hd0 hd1
    have c0 : wr.cell? ⟨b, 0, none⟩ = some (.slice (some ⟨g, 0, none⟩) m m) := by have := HTI.out.blk.cell 0; rw [HTM.out] at this; exact this
    have he0 := HE.out
    clear HNX hx0 hx1 hj hd HIr
    have HSTEP : Hid (∀ w2 : World, VtI w2 b g (T.set j ⟨true, e, r⟩) → Blk w2 w.heap.size X → w.grownBy w2 (some g) → castI e r (T, n) j = (T.set j ⟨true, e, r⟩, n + 1) → CastI w b g vs e r l X (.int .i64 (n + 1)) (.int .i64 ((k : Int) + 1)) w2) := fun w2 h1 h2 h3 h4 => ⟨k + 1, by omega, by go_num, by rw [HNK.out, h4], by rw [HNK.out, h4]; exact h1, h2, h3⟩
    have KEEP : Hid (dh = true → e ≤ dn → CastI w b g vs e r l X (.int .i64 n) (.int .i64 ((k : Int) + 1)) wr) := fun h1 h2 => ⟨k + 1, by omega, by go_num, by rw [HNK.out, HSA.out h1 h2], by rw [HNK.out, HSA.out h1 h2]; exact HTI.out, HBX1.out, HGR.out⟩
    obtain ⟨RL, hRL⟩ : ∃ RL, Hid (bytesL r = RL) := ⟨_, rfl⟩
    have HBV := Lib.hid (fun u => build_vo true (n := e) HR.out u)
    have hiRL : (Try.prog.info? 28).map (·.size) = some RL.length := by rw [← hRL.out, bytesL_len HR.out]; kernel_rfl
    have hNVo : (⟨true, e, r⟩ : VoD).ok := ⟨HE.out.1, HE.out.2, HR.out⟩
    have HNV := Lib.hid hNVo
    obtain ⟨NV, hNV⟩ : ∃ NV, Hid ((⟨true, e, r⟩ : VoD).cells = NV) := ⟨_, rfl⟩
    rw [hRL.out, hNV.out] at HBV
    have hNVl : NV.length = 34 := by rw [← hNV.out]; exact VoD.len hNVo
    have hNV1 : Hid (∀ v ∈ NV, v.oneCell' = true) := by show ∀ v ∈ NV, _; rw [← hNV.out]; exact VoD.one _
    have hiNV : (Try.prog.info? 78).map (·.size) = some 34 := by kernel_rfl
    clear hNVo
    by_cases hkeep : dh = true ∧ e ≤ dn
    · obtain ⟨rfl, h2⟩ := hkeep
      go_wp2_with fail
      go_roundw
      case rel => exact KEEP.out rfl h2
      case measure => simp [intOf]; omega
    have HNEW := Lib.hid (HNE.out hkeep)
    have HTD : Hid (VtI wr.drew b g T) := ⟨HTI.out.blk, HTI.out.row, HTI.out.ok, HTI.out.len, HTI.out.ne⟩
    have HS : Hid (wr.drew.cell? ⟨b, 0, none⟩ = some (.slice (some ⟨g, 0, none⟩) m m) ∧ Blk wr.drew w.heap.size X) := ⟨c0, HBX1.out⟩
    have HGD : Hid (w.grownBy wr.drew (some g)) := ⟨HGR.out.os, HGR.out.tape, HGR.out.output, HGR.out.size, HGR.out.block⟩
    cases dh
    case false =>
      clear KEEP
      go_wp2_with fail
      refine wp_region_held_drew (S := fun u => u.cell? ⟨b, 0, none⟩ = some (.slice (some ⟨g, 0, none⟩) m m) ∧ Blk u w.heap.size X) (by kernel_rfl) (HS.out) (fun _ => ?_)
      (try simp only [Act.put, List.setIfInBounds_toArray, List.set_cons_zero, List.set_cons_succ])
      refine wpAnyH_take (i := 0) (oi := ⟨some 48, _, _, _, _, _⟩) (v := .pointer (some ⟨b, 0, none⟩)) rfl (by kernel_rfl) (by kernel_rfl) (by kernel_rfl) (fun _ _ _ h => h) (Or.inl ⟨by rfl, fun wz hz => ?_⟩) HS.out ?_
      · clear hz; go_simp; first | done | with_reducible rfl | rfl
      (try simp only [Act.put, List.setIfInBounds_toArray, List.set_cons_zero, List.set_cons_succ])
      refine wpAnyH_take (i := 1) (oi := ⟨some 49, _, _, _, _, _⟩) (v := .pointer (some ⟨b, 0, none⟩)) rfl (by kernel_rfl) (by kernel_rfl) (by kernel_rfl) (fun _ _ _ h => h) (Or.inl ⟨by rfl, fun wz hz => ?_⟩) HS.out ?_
      · clear hz; go_simp; first | done | with_reducible rfl | rfl
      (try simp only [Act.put, List.setIfInBounds_toArray, List.set_cons_zero, List.set_cons_succ])
      refine wpAnyH_take (i := 2) (oi := ⟨some 50, _, _, _, _, _⟩) (v := .pointer (some ⟨b, 0, none⟩)) rfl (by kernel_rfl) (by kernel_rfl) (by kernel_rfl) (fun _ _ _ h => h) (Or.inl ⟨by rfl, fun wz hz => ?_⟩) HS.out ?_
      · clear hz; go_simp; first | done | with_reducible rfl | rfl
      (try simp only [Act.put, List.setIfInBounds_toArray, List.set_cons_zero, List.set_cons_succ])
      refine held_load1 (oi := ⟨some 51, _, _, _, _, _⟩) 3 rfl (by kernel_rfl) (by kernel_rfl) (by kernel_rfl) (fun _ _ _ _ h => h) rfl 44 (.tmp 50) rfl b (0) rfl (.slice (some ⟨g, 0, none⟩) m m) _ (fun u' hu => hu.1) Try.underlying44 rfl HS.out ?_
      (try simp only [Act.put, List.setIfInBounds_toArray, List.set_cons_zero, List.set_cons_succ])
      refine wpAnyH_take (i := 4) (oi := ⟨some 52, _, _, _, _, _⟩) (v := .int .i64 j) rfl (by kernel_rfl) (by kernel_rfl) (by kernel_rfl) (fun _ _ _ h => h) (Or.inl ⟨by rfl, fun wz hz => ?_⟩) HS.out ?_
      · clear hz; go_simp; first | done | with_reducible rfl | rfl
      (try simp only [Act.put, List.setIfInBounds_toArray, List.set_cons_zero, List.set_cons_succ])
      refine wpAnyH_take (i := 5) (oi := ⟨some 53, _, _, _, _, _⟩) (v := .int .u64 e) rfl (by kernel_rfl) (by kernel_rfl) (by kernel_rfl) (fun _ _ _ h => h) (Or.inl ⟨by rfl, fun wz hz => ?_⟩) HS.out ?_
      · clear hz; go_simp; first | done | with_reducible rfl | rfl
      (try simp only [Act.put, List.setIfInBounds_toArray, List.set_cons_zero, List.set_cons_succ])
      refine held_load (oi := ⟨some 54, _, _, _, _, _⟩) 6 rfl (by kernel_rfl) (by kernel_rfl) (by kernel_rfl) (fun _ _ _ _ h => h) rfl 28 (.tmp 6) rfl w.heap.size (0) rfl RL _ (fun u' hu => by rw [← hRL.out]; exact (hX.out ▸ hu.2 : Blk u' w.heap.size (bytesL r).toArray).range) Try.underlying28 rfl (hiRL) HS.out ?_
      (try simp only [Act.put, List.setIfInBounds_toArray, List.set_cons_zero, List.set_cons_succ])
      refine held_build (oi := ⟨some 55, _, _, _, _, _⟩) 7 rfl (by kernel_rfl) (by kernel_rfl) (by kernel_rfl) (fun _ _ _ _ h => h) rfl 78 _ rfl #[(0, .bool true), (1, .int .u64 e), (2, .agg RL.toArray)] (by simp [Act.eval]) (.agg NV.toArray) (HBV.out) HS.out ?_
      (try simp only [Act.put, List.setIfInBounds_toArray, List.set_cons_zero, List.set_cons_succ])
      refine wpAnyH_take (i := 8) (oi := ⟨some 56, _, _, _, _, _⟩) (v := .pointer (some ⟨g, j * 34, none⟩)) rfl (by kernel_rfl) (by kernel_rfl) (by kernel_rfl) (fun _ _ _ h => h) (Or.inl ⟨by rfl, fun wz hz => ?_⟩) HS.out ?_
      · clear hz; go_simp; first | done | with_reducible rfl | rfl
      (try simp only [Act.put, List.setIfInBounds_toArray, List.set_cons_zero, List.set_cons_succ])
      refine wpAnyH_ready (rs := [9]) (by kernel_rfl) (by simp) ?_
      refine AllReadyH.cons rfl (fun K hK => ?_) AllReadyH.nil
      rw [if_pos (by rfl)]
      refine wp_store_row 78 (.tmp 56) (.tmp 55) rfl g 34 j (T.map VoD.cells) NV HTD.out.row (cells34 HTI.out.ok) (by rw [List.length_map, HTM.out]; exact hjm) (by simp [Act.eval]) (by simp [Act.eval]) hNVl hiNV hNV1 ?_
      intro w2 U2 B2
      have HV2 := Lib.hid (VtI.set (j := j) HTD.out HNV.out U2 (hNV.out ▸ B2)); have HX2 := Lib.hid (U2.blk HS.out.2 (by omega)); have HG2 := Lib.hid (grown_upd HGD.out U2)
      have HS2 := Lib.hid (show w2.cell? ⟨b, 0, none⟩ = some (.slice (some ⟨g, 0, none⟩) m m) by have := HV2.out.blk.cell 0; rw [List.length_set, HTM.out] at this; exact this); clear U2 B2
      refine hK.out _ _ (⟨HS2.out, HX2.out⟩) (fun _ => ?_)
      clear hK K
      (try simp only [Act.put, List.setIfInBounds_toArray, List.set_cons_zero, List.set_cons_succ])
      refine wpAnyH_done (by kernel_rfl) ?_ _
      go_wp2_with fail
      go_roundw
      case rel => exact HSTEP.out _ HV2.out HX2.out HG2.out HNEW.out
      case measure => simp [intOf]; omega
    case true =>
      have hlt2 : dn < e := by simp at hkeep; omega
      clear KEEP hkeep
      go_wp2_with fail
      refine wp_region_held_drew (S := fun u => u.cell? ⟨b, 0, none⟩ = some (.slice (some ⟨g, 0, none⟩) m m) ∧ Blk u w.heap.size X) (by kernel_rfl) (HS.out) (fun _ => ?_)
      (try simp only [Act.put, List.setIfInBounds_toArray, List.set_cons_zero, List.set_cons_succ])
      refine wpAnyH_take (i := 0) (oi := ⟨some 48, _, _, _, _, _⟩) (v := .pointer (some ⟨b, 0, none⟩)) rfl (by kernel_rfl) (by kernel_rfl) (by kernel_rfl) (fun _ _ _ h => h) (Or.inl ⟨by rfl, fun wz hz => ?_⟩) HS.out ?_
      · clear hz; go_simp; first | done | with_reducible rfl | rfl
      (try simp only [Act.put, List.setIfInBounds_toArray, List.set_cons_zero, List.set_cons_succ])
      refine wpAnyH_take (i := 1) (oi := ⟨some 49, _, _, _, _, _⟩) (v := .pointer (some ⟨b, 0, none⟩)) rfl (by kernel_rfl) (by kernel_rfl) (by kernel_rfl) (fun _ _ _ h => h) (Or.inl ⟨by rfl, fun wz hz => ?_⟩) HS.out ?_
      · clear hz; go_simp; first | done | with_reducible rfl | rfl
      (try simp only [Act.put, List.setIfInBounds_toArray, List.set_cons_zero, List.set_cons_succ])
      refine wpAnyH_take (i := 2) (oi := ⟨some 50, _, _, _, _, _⟩) (v := .pointer (some ⟨b, 0, none⟩)) rfl (by kernel_rfl) (by kernel_rfl) (by kernel_rfl) (fun _ _ _ h => h) (Or.inl ⟨by rfl, fun wz hz => ?_⟩) HS.out ?_
      · clear hz; go_simp; first | done | with_reducible rfl | rfl
      (try simp only [Act.put, List.setIfInBounds_toArray, List.set_cons_zero, List.set_cons_succ])
      refine held_load1 (oi := ⟨some 51, _, _, _, _, _⟩) 3 rfl (by kernel_rfl) (by kernel_rfl) (by kernel_rfl) (fun _ _ _ _ h => h) rfl 44 (.tmp 50) rfl b (0) rfl (.slice (some ⟨g, 0, none⟩) m m) _ (fun u' hu => hu.1) Try.underlying44 rfl HS.out ?_
      (try simp only [Act.put, List.setIfInBounds_toArray, List.set_cons_zero, List.set_cons_succ])
      refine wpAnyH_take (i := 4) (oi := ⟨some 52, _, _, _, _, _⟩) (v := .int .i64 j) rfl (by kernel_rfl) (by kernel_rfl) (by kernel_rfl) (fun _ _ _ h => h) (Or.inl ⟨by rfl, fun wz hz => ?_⟩) HS.out ?_
      · clear hz; go_simp; first | done | with_reducible rfl | rfl
      (try simp only [Act.put, List.setIfInBounds_toArray, List.set_cons_zero, List.set_cons_succ])
      refine wpAnyH_take (i := 5) (oi := ⟨some 53, _, _, _, _, _⟩) (v := .int .u64 e) rfl (by kernel_rfl) (by kernel_rfl) (by kernel_rfl) (fun _ _ _ h => h) (Or.inl ⟨by rfl, fun wz hz => ?_⟩) HS.out ?_
      · clear hz; go_simp; first | done | with_reducible rfl | rfl
      (try simp only [Act.put, List.setIfInBounds_toArray, List.set_cons_zero, List.set_cons_succ])
      refine held_load (oi := ⟨some 54, _, _, _, _, _⟩) 6 rfl (by kernel_rfl) (by kernel_rfl) (by kernel_rfl) (fun _ _ _ _ h => h) rfl 28 (.tmp 6) rfl w.heap.size (0) rfl RL _ (fun u' hu => by rw [← hRL.out]; exact (hX.out ▸ hu.2 : Blk u' w.heap.size (bytesL r).toArray).range) Try.underlying28 rfl (hiRL) HS.out ?_
      (try simp only [Act.put, List.setIfInBounds_toArray, List.set_cons_zero, List.set_cons_succ])
      refine held_build (oi := ⟨some 55, _, _, _, _, _⟩) 7 rfl (by kernel_rfl) (by kernel_rfl) (by kernel_rfl) (fun _ _ _ _ h => h) rfl 78 _ rfl #[(0, .bool true), (1, .int .u64 e), (2, .agg RL.toArray)] (by simp [Act.eval]) (.agg NV.toArray) (HBV.out) HS.out ?_
      (try simp only [Act.put, List.setIfInBounds_toArray, List.set_cons_zero, List.set_cons_succ])
      refine wpAnyH_take (i := 8) (oi := ⟨some 56, _, _, _, _, _⟩) (v := .pointer (some ⟨g, j * 34, none⟩)) rfl (by kernel_rfl) (by kernel_rfl) (by kernel_rfl) (fun _ _ _ h => h) (Or.inl ⟨by rfl, fun wz hz => ?_⟩) HS.out ?_
      · clear hz; go_simp; first | done | with_reducible rfl | rfl
      (try simp only [Act.put, List.setIfInBounds_toArray, List.set_cons_zero, List.set_cons_succ])
      refine wpAnyH_ready (rs := [9]) (by kernel_rfl) (by simp) ?_
      refine AllReadyH.cons rfl (fun K hK => ?_) AllReadyH.nil
      rw [if_pos (by rfl)]
      refine wp_store_row 78 (.tmp 56) (.tmp 55) rfl g 34 j (T.map VoD.cells) NV HTD.out.row (cells34 HTI.out.ok) (by rw [List.length_map, HTM.out]; exact hjm) (by simp [Act.eval]) (by simp [Act.eval]) hNVl hiNV hNV1 ?_
      intro w2 U2 B2
      have HV2 := Lib.hid (VtI.set (j := j) HTD.out HNV.out U2 (hNV.out ▸ B2)); have HX2 := Lib.hid (U2.blk HS.out.2 (by omega)); have HG2 := Lib.hid (grown_upd HGD.out U2)
      have HS2 := Lib.hid (show w2.cell? ⟨b, 0, none⟩ = some (.slice (some ⟨g, 0, none⟩) m m) by have := HV2.out.blk.cell 0; rw [List.length_set, HTM.out] at this; exact this); clear U2 B2
      refine hK.out _ _ (⟨HS2.out, HX2.out⟩) (fun _ => ?_)
      clear hK K
      (try simp only [Act.put, List.setIfInBounds_toArray, List.set_cons_zero, List.set_cons_succ])
      refine wpAnyH_done (by kernel_rfl) ?_ _
      go_wp2_with fail
      go_roundw
      case rel => exact HSTEP.out _ HV2.out HX2.out HG2.out HNEW.out
      case measure => simp [intOf]; omega
end Go.Proofs.Ytcbjjafjomdklaa
