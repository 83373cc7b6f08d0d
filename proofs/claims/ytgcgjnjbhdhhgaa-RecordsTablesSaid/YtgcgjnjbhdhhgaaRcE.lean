/- appendClaim, EncodeAttestation, EncodeVerdict. -/
import Derived.Test.YtgcgjnjbhdhhgaaRcA
set_option linter.unusedVariables false
namespace Go.Proofs.Ytgcgjnjbhdhhgaa
open Go.RowKit

theorem zero_len (l : List Int) : bytesL l = l.map (Value.int .u8) := rfl

set_option maxRecDepth 100000 in
set_option maxHeartbeats 4000000 in
theorem aclaim_any (v : Value) (bs : List Int) (s t : Int) (r : List Int) (lv : Value) (l : List Int) (w : World) (h : Byt w v bs) (hs : 0 ≤ s ∧ s ≤ 18446744073709551615) (ht : 0 ≤ t ∧ t ≤ 18446744073709551615) (hr : IsBytes 32 r) (hI : IntsV w lv l) (hv : vlE l 1024 = 0) (hl : l.length ≤ 1000000000) (hb : bs.length ≤ 1000000000) :
    Calls Try.prog 60 #[v, .agg (flatP [[.int .u64 s], [.int .u64 t], bytesL r, [lv]])] w (AppN w (bs ++ (uenc s.toNat ++ (uenc t.toNat ++ (r ++ lenc l))))) := by
  obtain ⟨va, vl, vc, rfl⟩ := h.shape
  obtain ⟨lva, lvl, lvc, rfl⟩ : ∃ a l c, lv = .slice a l c := by obtain ⟨⟨a, l, c, e, _⟩, _⟩ := hI; exact ⟨a, l, c, e⟩
  have h32 := bytesL_len hr
  have l1 := uenc_len10 (n := s.toNat) (by omega)
  have l2 := uenc_len10 (n := t.toNat) (by omega)
  have l3 := hr.1
  obtain ⟨ps, hps⟩ : ∃ ps, ps = [[Value.int .u64 s], [Value.int .u64 t], bytesL r, [Value.slice lva lvl lvc]] := ⟨_, rfl⟩
  rw [← hps]
  have o0 : Hid (offP ps 0 = 0) := rfl
  have o1 : Hid (offP ps 1 = 1) := by show _ = _; rw [hps]; rfl
  have o2 : Hid (offP ps 2 = 2) := by show _ = _; rw [hps]; rfl
  have o3 : Hid (offP ps 3 = 34) := by show _ = _; rw [hps]; simp [offP, h32]
  have q0 : Hid (ps[0]? = some [Value.int .u64 s]) := by show _ = _; rw [hps]; rfl
  have q1 : Hid (ps[1]? = some [Value.int .u64 t]) := by show _ = _; rw [hps]; rfl
  have q2 : Hid (ps[2]? = some (bytesL r)) := by show _ = _; rw [hps]; rfl
  have q3 : Hid (ps[3]? = some [Value.slice lva lvl lvc]) := by show _ = _; rw [hps]; rfl
  have hX0 : (flatP ps).size = 35 := by rw [flatP_size, hps]; simp [h32]
  clear hps
  obtain ⟨X, HX⟩ : ∃ X, Hid (flatP ps = X) := ⟨_, rfl⟩
  rw [HX.out] at hX0 ⊢
  have B0 : Hid (Blk (w.alloc (.cells X 54)) w.heap.size (flatP ps)) := Blk.to (Blk.new rfl) HX.out.symm
  have hba := (Below.refl w.heap.size w).alloc (Nat.le_refl _) (.cells X 54)
  have D1 := Lib.hid (auint_any (.slice va vl vc) bs s _ (h.below hba) hs.1 hs.2 (by omega))
  have D2 := Lib.hid (fun v u h => auint_any v (bs ++ uenc s.toNat) t u h ht.1 ht.2 (by rw [List.length_append]; omega))
  have D3 : Hid (∀ v u, Byt u v (bs ++ uenc s.toNat ++ uenc t.toNat) → Calls Try.prog 38 #[v, .agg (bytesL r).toArray] u (AppN u (bs ++ uenc s.toNat ++ uenc t.toNat ++ r))) := fun v u h => aroot_own v _ r u h hr (by simp only [List.length_append]; omega)
  have D4 := Lib.hid (fun v u (h : Own u w.heap.size v (bs ++ uenc s.toNat ++ uenc t.toNat ++ r)) (hb : Below w.heap.size w u) => alist_any v (.slice lva lvl lvc) (bs ++ uenc s.toNat ++ uenc t.toNat ++ r) l u w.heap.size h hb.size (fun u' hb' => hI.below (hb.trans hb')) hv hl (by simp only [List.length_append]; omega))
  have HE : Hid (bs ++ uenc s.toNat ++ uenc t.toNat ++ r ++ lenc l = bs ++ (uenc s.toNat ++ (uenc t.toNat ++ (r ++ lenc l)))) := by show _ = _; simp
  have HBA := Lib.hid hba; clear hba h hI hv hl l1 l2 l3 hr
  have hi32 : (Try.prog.info? 29).map (·.size) = some (bytesL r).length := by rw [h32]; kernel_rfl
  have HI32 := Lib.hid hi32; clear hi32 h32
  go_enter Try.func60, Try.ntmps60
  go_wp2_with (first
    | ((with_reducible refine at_load (.tmp 6) ?_); refine wpList_load_1 27 (.tmp 6) rfl w.heap.size 0 (.int .u64 s) (B0.out.cellAt q0.out o0.out) rfl _ Try.underlying27 rfl rfl ?_)
    | (go_at_call_of 37 s; refine D1.out.mono ?_; rintro e w1 ⟨v1, rfl, hy1, hb1⟩; obtain ⟨a1, l1, c1, rfl⟩ := hy1.shape; have HY1 := Lib.hid hy1; clear hy1; have K1 := Lib.hid (B0.out.call hb1); have HB1 := Lib.hid (HBA.out.trans (hb1.mono HBA.out.size)); clear hb1)
    | ((with_reducible refine at_load (.tmp 10) ?_); refine wpList_load_1 27 (.tmp 10) rfl w.heap.size 1 (.int .u64 t) (K1.out.cellAt q1.out o1.out) rfl _ Try.underlying27 rfl rfl ?_)
    | (go_at_call_of 37 t; refine (D2.out _ _ HY1.out).mono ?_; rintro e w2 ⟨v2, rfl, hy2, hb2⟩; obtain ⟨a2, l2, c2, rfl⟩ := hy2.shape; have HY2 := Lib.hid hy2; clear hy2; have K2 := Lib.hid (K1.out.call hb2); have HB2 := Lib.hid (HB1.out.trans (hb2.mono HB1.out.size)); clear hb2)
    | ((with_reducible refine at_load (.tmp 14) ?_); refine wpList_load_part 29 (.tmp 14) rfl w.heap.size ps 2 2 (bytesL r) K2.out q2.out o2.out rfl _ Try.underlying29 rfl HI32.out rfl ?_)
    | (go_at_call 38; refine (D3.out _ _ HY2.out).mono ?_; rintro e w3 ⟨v3, rfl, ho3, hb3⟩; obtain ⟨a3, l3, c3, rfl⟩ := ho3.shape; have HB3 := Lib.hid (HB2.out.trans (hb3.mono HB2.out.size)); have HO3 := Lib.hid (ho3.mono HB2.out.size); clear ho3; have K3 := Lib.hid (K2.out.call hb3); clear hb3)
    | ((with_reducible refine at_load (.tmp 18) ?_); refine wpList_load_1 22 (.tmp 18) rfl w.heap.size 34 (.slice lva lvl lvc) (K3.out.cellAt q3.out o3.out) rfl _ Try.underlying22 rfl rfl ?_)
    | (go_at_call 55; refine (D4.out _ _ HO3.out HB3.out).mono ?_; rintro e w4 ⟨v4, rfl, ho4, hb4, hg4⟩; have HO4 := Lib.hid ho4; clear ho4; have HB4 := Lib.hid hb4; clear hb4 hg4))
  go_ret
  exact ⟨v4, rfl, by rw [← HE.out]; exact HO4.out, HB3.out.trans HB4.out⟩

/-- What an Encode function promises: its bytes, or its error. -/
def EncR (w : World) (E : Int) (ys : List Int) (e : Ending) (w' : World) : Prop := ∃ v', e = .returned (.tuple #[v', .int .i64 E]) ∧ Byt w' v' (if E = 0 then ys else []) ∧ Below w.heap.size w w'

set_option maxRecDepth 100000 in
set_option maxHeartbeats 4000000 in
theorem eatt_any (s : Int) (r : List Int) (c : CpD) (lv : Value) (l : List Int) (w : World) (hs : 0 ≤ s ∧ s ≤ 18446744073709551615) (hr : IsBytes 32 r) (hc : c.ok) (hI : IntsV w lv l) (hl : l.length ≤ 1000000000) :
    Calls Try.prog 17 #[.agg (flatP [[.int .u64 s], bytesL r, c.cells, [lv]])] w (EncR w (vlE l 1024) (uenc s.toNat ++ (r ++ (c.enc ++ lenc l)))) := by
  obtain ⟨lva, lvl, lvc, rfl⟩ : ∃ a l c, lv = .slice a l c := by obtain ⟨⟨a, l, c, e, _⟩, _⟩ := hI; exact ⟨a, l, c, e⟩
  have h32 := bytesL_len hr
  have h33 := CpD.len hc
  have l1 := uenc_len10 (n := s.toNat) (by omega)
  have l2 := CpD.encl hc
  have l3 := hr.1
  obtain ⟨ps, hps⟩ : ∃ ps, ps = [[Value.int .u64 s], bytesL r, c.cells, [Value.slice lva lvl lvc]] := ⟨_, rfl⟩
  rw [← hps]
  have o0 : Hid (offP ps 0 = 0) := rfl
  have o1 : Hid (offP ps 1 = 1) := by show _ = _; rw [hps]; rfl
  have o2 : Hid (offP ps 2 = 33) := by show _ = _; rw [hps]; simp [offP, h32]
  have o3 : Hid (offP ps 3 = 66) := by show _ = _; rw [hps]; simp [offP, h32, h33]
  have q0 : Hid (ps[0]? = some [Value.int .u64 s]) := by show _ = _; rw [hps]; rfl
  have q1 : Hid (ps[1]? = some (bytesL r)) := by show _ = _; rw [hps]; rfl
  have q2 : Hid (ps[2]? = some c.cells) := by show _ = _; rw [hps]; rfl
  have q3 : Hid (ps[3]? = some [Value.slice lva lvl lvc]) := by show _ = _; rw [hps]; rfl
  have hX0 : (flatP ps).size = 67 := by rw [flatP_size, hps]; simp [h32, h33]
  clear hps
  obtain ⟨X, HX⟩ : ∃ X, Hid (flatP ps = X) := ⟨_, rfl⟩
  rw [HX.out] at hX0 ⊢
  have B0 : Hid (Blk (w.alloc (.cells X 45)) w.heap.size (flatP ps)) := Blk.to (Blk.new rfl) HX.out.symm
  have hba := (Below.refl w.heap.size w).alloc (Nat.le_refl _) (.cells X 45)
  have DV := vlists_any (w.heap.size + 1) 1 _ _ _ (lists1 (t := 22) (n := w.heap.size + 1) (by simp) (hI.below hba)) (by omega)
  rw [vlsE_one] at DV
  have HDV := Lib.hid DV; clear DV
  have D1 := Lib.hid (fun u => auint_any (.slice none 0 0) [] s u (byt_nil _) hs.1 hs.2 (by simp))
  have D2 : Hid (∀ v u, Byt u v ([] ++ uenc s.toNat) → Calls Try.prog 38 #[v, .agg (bytesL r).toArray] u (App u ([] ++ uenc s.toNat ++ r))) := fun v u h => aroot_any v _ r u h hr (by simp only [List.length_append, List.length_nil]; omega)
  have D3 : Hid (∀ v u, Byt u v ([] ++ uenc s.toNat ++ r) → Calls Try.prog 40 #[v, .agg c.cells.toArray] u (AppN u ([] ++ uenc s.toNat ++ r ++ (uenc c.n.toNat ++ c.r)))) := fun v u h => acheck_own v _ c.n c.r u h hc.1 hc.2.1 hc.2.2 (by simp only [List.length_append, List.length_nil]; omega)
  have D4 := Lib.hid (fun (hv : vlE l 1024 = 0) v u (h : Own u w.heap.size v ([] ++ uenc s.toNat ++ r ++ (uenc c.n.toNat ++ c.r))) (hb : Below w.heap.size w u) => alist_any v (.slice lva lvl lvc) _ l u w.heap.size h hb.size (fun u' hb' => hI.below (hb.trans hb')) hv hl (by simp only [List.length_append, List.length_nil]; unfold CpD.enc at l2; rw [List.length_append] at l2; omega))
  have HE : Hid ([] ++ uenc s.toNat ++ r ++ (uenc c.n.toNat ++ c.r) ++ lenc l = uenc s.toNat ++ (r ++ (c.enc ++ lenc l))) := by show _ = _; simp [CpD.enc]
  have HLE : Hid (∀ h : vlE l 1024 = 0, ([] ++ uenc s.toNat ++ r ++ (uenc c.n.toNat ++ c.r) ++ lenc l).length ≤ 140737488355328) := fun h => by
    have := lenc_len h (Nat.le_refl _) hl
    simp only [List.length_append, List.length_nil]; unfold CpD.enc at l2; rw [List.length_append] at l2; unfold lenc; omega
  have HBY : Hid (∀ x ∈ [] ++ uenc s.toNat ++ r ++ (uenc c.n.toNat ++ c.r) ++ lenc l, 0 ≤ x ∧ x ≤ 255) := by
    intro x hx
    simp only [List.mem_append, List.nil_append, lenc, lencK] at hx
    rcases hx with ((hx | hx) | hx | hx) | hx | hx
    · exact uenc_byte _ x hx
    · exact isb_rng hr x hx
    · exact uenc_byte _ x hx
    · exact isb_rng hc.2.2 x hx
    · exact uenc_byte _ x hx
    · exact seqK_byte _ _ x hx
  have HBA := Lib.hid hba; clear hba hI hl l1 l2 l3 hr hc hs
  have HI32 : Hid ((Try.prog.info? 29).map (·.size) = some (bytesL r).length) := by show _ = _; rw [h32]; kernel_rfl
  have HI33 : Hid ((Try.prog.info? 31).map (·.size) = some c.cells.length) := by show _ = _; rw [h33]; kernel_rfl
  clear h32 h33
  obtain ⟨E, hE⟩ : ∃ E, vlE l 1024 = E := ⟨_, rfl⟩
  rw [hE] at HDV D4 HLE ⊢
  clear hE
  by_cases hE0 : E = 0
  case neg =>
    have hne : (E != 0) = true := by simpa using hE0
    go_enter Try.func17, Try.ntmps17
    go_wp2_with (first
      | ((with_reducible refine at_load (.tmp 6) ?_); refine wpList_load_1 22 (.tmp 6) rfl w.heap.size 66 (.slice lva lvl lvc) (B0.out.cellAt q3.out o3.out) rfl _ Try.underlying22 rfl rfl ?_)
      | (go_at_call 54; refine HDV.out.mono ?_; rintro e w1 ⟨rfl, rfl⟩))
    go_ret2
    exact ⟨_, rfl, by rw [if_neg hE0]; exact byt_nil _, HBA.out.alloc (by simp) _⟩
  case pos =>
    subst hE0
    have HD4 := Lib.hid (D4.out rfl); clear D4
    have HLE1 := Lib.hid (HLE.out rfl); clear HLE
    have HBA2 := Lib.hid (HBA.out.alloc (by simp) (.cells #[Value.slice lva lvl lvc] 22))
    have K0 := Lib.hid (B0.out.alloc (.cells #[Value.slice lva lvl lvc] 22))
    go_enter Try.func17, Try.ntmps17
    go_wp2_with (first
      | ((with_reducible refine at_load (.tmp 6) ?_); refine wpList_load_1 22 (.tmp 6) rfl w.heap.size 66 (.slice lva lvl lvc) (B0.out.cellAt q3.out o3.out) rfl _ Try.underlying22 rfl rfl ?_)
      | (go_at_call 54; refine HDV.out.mono ?_; rintro e w0 ⟨rfl, rfl⟩)
      | ((with_reducible refine at_load (.tmp 13) ?_); refine wpList_load_1 27 (.tmp 13) rfl w.heap.size 0 (.int .u64 s) (K0.out.cellAt q0.out o0.out) rfl _ Try.underlying27 rfl rfl ?_)
      | (go_at_call 37; refine (D1.out _).mono ?_; rintro e w1 ⟨v1, rfl, hy1, hb1⟩; obtain ⟨a1, l1, c1, rfl⟩ := hy1.shape; have HY1 := Lib.hid hy1; clear hy1; have K1 := Lib.hid (K0.out.call hb1); have HB1 := Lib.hid (HBA2.out.trans (hb1.mono HBA2.out.size)); clear hb1)
      | ((with_reducible refine at_load (.tmp 17) ?_); refine wpList_load_part 29 (.tmp 17) rfl w.heap.size ps 1 1 (bytesL r) K1.out q1.out o1.out rfl _ Try.underlying29 rfl HI32.out rfl ?_)
      | (go_at_call 38; refine (D2.out _ _ HY1.out).mono ?_; rintro e w2 ⟨v2, rfl, hy2, hb2⟩; obtain ⟨a2, l2, c2, rfl⟩ := hy2.shape; have HY2 := Lib.hid hy2; clear hy2; have K2 := Lib.hid (K1.out.call hb2); have HB2 := Lib.hid (HB1.out.trans (hb2.mono HB1.out.size)); clear hb2)
      | ((with_reducible refine at_load (.tmp 21) ?_); refine wpList_load_part 31 (.tmp 21) rfl w.heap.size ps 2 33 c.cells K2.out q2.out o2.out rfl _ Try.underlying31 rfl HI33.out rfl ?_)
      | (go_at_call 40; refine (D3.out _ _ HY2.out).mono ?_; rintro e w3 ⟨v3, rfl, ho3, hb3⟩; obtain ⟨a3, l3, c3, rfl⟩ := ho3.shape; have HB3 := Lib.hid (HB2.out.trans (hb3.mono HB2.out.size)); have HO3 := Lib.hid (ho3.mono HB2.out.size); clear ho3; have K3 := Lib.hid (K2.out.call hb3); clear hb3)
      | ((with_reducible refine at_load (.tmp 25) ?_); refine wpList_load_1 22 (.tmp 25) rfl w.heap.size 66 (.slice lva lvl lvc) (K3.out.cellAt q3.out o3.out) rfl _ Try.underlying22 rfl rfl ?_)
      | (go_at_call 55; refine (HD4.out _ _ HO3.out HB3.out).mono ?_; rintro e w4 ⟨v4, rfl, ho4, hb4, hg4⟩; have HO4 := Lib.hid ho4; clear ho4; have HB4 := Lib.hid hb4; clear hb4 hg4))
    go_ret2
    refine ⟨v4, rfl, ?_, HB3.out.trans HB4.out⟩
    rw [if_pos rfl, ← HE.out]
    exact HO4.out.byt (Nat.le_trans HLE1.out (by unfold maxLen; omega)) HBY.out

end Go.Proofs.Ytgcgjnjbhdhhgaa
