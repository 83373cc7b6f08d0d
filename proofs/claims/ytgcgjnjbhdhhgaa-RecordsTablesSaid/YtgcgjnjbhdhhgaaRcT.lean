/- EncodeTable. -/
import Derived.Test.YtgcgjnjbhdhhgaaRcE
set_option linter.unusedVariables false
namespace Go.Proofs.Ytgcgjnjbhdhhgaa
open Go.RowKit

theorem tenc_len {l : List Int} (h : ∀ x ∈ l, 0 ≤ x ∧ x ≤ 18446744073709551615) {k : Nat} (hk : k ≤ l.length) (hl : l.length ≤ 1000000000) : (tencK l k).length ≤ 10 + 10 * k := by
  have h1 := uenc_len10 (n := l.length) (by omega)
  have h2 := seqK_len (f := fun i => l.getD i 0) (n := l.length) (fun i hi => (h _ (getD_mem hi)).2) k hk
  rw [tencK, List.length_append]; omega

def TI (w : World) (B : Nat) (p l : List Int) (b i : Value) (wr : World) : Prop :=
  ∃ k : Nat, k ≤ l.length ∧ i = .int .i64 k ∧ Own wr B b (p ++ tencK l k) ∧ Below B w wr

set_option maxRecDepth 100000 in
set_option maxHeartbeats 4000000 in
theorem etab_any (c : CpD) (lv : Value) (l : List Int) (w : World) (hc : c.ok) (hI : NumsV w lv l) (hl : l.length ≤ 1000000000) :
    Calls Try.prog 25 #[.agg (flatP [c.cells, [lv]])] w (EncR w (if 1024 < l.length then 3 else 0) (c.enc ++ tenc l)) := by
  obtain ⟨lva, lvl, lvc, rfl⟩ : ∃ a l c, lv = .slice a l c := by obtain ⟨⟨a, l, c, e, _⟩, _⟩ := hI; exact ⟨a, l, c, e⟩
  obtain ⟨_, _, _, e', hll, _, _⟩ := hI.1
  cases e'
  have h33 := CpD.len hc
  have l2 := CpD.encl hc
  obtain ⟨ps, hps⟩ : ∃ ps, ps = [c.cells, [Value.slice lva lvl lvc]] := ⟨_, rfl⟩
  rw [← hps]
  have o0 : Hid (offP ps 0 = 0) := rfl
  have o1 : Hid (offP ps 1 = 33) := by show _ = _; rw [hps]; simp [offP, h33]
  have q0 : Hid (ps[0]? = some c.cells) := by show _ = _; rw [hps]; rfl
  have q1 : Hid (ps[1]? = some [Value.slice lva lvl lvc]) := by show _ = _; rw [hps]; rfl
  have hX0 : (flatP ps).size = 34 := by rw [flatP_size, hps]; simp [h33]
  clear hps
  obtain ⟨X, HX⟩ : ∃ X, Hid (flatP ps = X) := ⟨_, rfl⟩
  rw [HX.out] at hX0 ⊢
  have B0 : Hid (Blk (w.alloc (.cells X 64)) w.heap.size (flatP ps)) := Blk.to (Blk.new rfl) HX.out.symm
  have hba := (Below.refl w.heap.size w).alloc (Nat.le_refl _) (.cells X 64)
  have HIU := Lib.hid (fun u (hu : Below w.heap.size w u) => hI.below hu)
  have HR := Lib.hid hI.2
  have D3 : Hid (∀ u, Calls Try.prog 40 #[.slice none 0 0, .agg c.cells.toArray] u (AppN u ([] ++ (uenc c.n.toNat ++ c.r)))) := fun u => acheck_own _ [] c.n c.r u (byt_nil u) hc.1 hc.2.1 hc.2.2 (by simp)
  have e0 : [] ++ (uenc c.n.toNat ++ c.r) = c.enc := rfl
  rw [e0] at D3
  have HBY : Hid (∀ x ∈ c.enc ++ tenc l, 0 ≤ x ∧ x ≤ 255) := by
    intro x hx
    simp only [List.mem_append, CpD.enc, tenc, tencK] at hx
    rcases hx with (hx | hx) | hx | hx
    · exact uenc_byte _ x hx
    · exact isb_rng hc.2.2 x hx
    · exact uenc_byte _ x hx
    · exact seqK_byte _ _ x hx
  have HLE : Hid ((c.enc ++ tenc l).length ≤ 140737488355328) := by
    have := tenc_len hI.2 (Nat.le_refl _) hl
    show _ ≤ _
    rw [List.length_append]; unfold tenc; omega
  have HTL := Lib.hid (fun k (hk : k ≤ l.length) => tenc_len hI.2 hk hl)
  have HI33 : Hid ((Try.prog.info? 31).map (·.size) = some c.cells.length) := by show _ = _; rw [h33]; kernel_rfl
  have HBA := Lib.hid hba; clear hba hI hc h33
  have HLL := Lib.hid hll
  have hl2 : lvl ≤ 1000000000 := by omega
  rw [hll]
  clear hll hl e0
  by_cases hbig : 1024 < lvl
  · rw [if_pos hbig]
    go_enter Try.func25, Try.ntmps25
    go_wp2_with ((with_reducible refine at_load (.tmp 7) ?_); refine wpList_load_1 62 (.tmp 7) rfl w.heap.size 33 (.slice lva lvl lvc) (B0.out.cellAt q1.out o1.out) rfl _ Try.underlying62 rfl rfl ?_)
    go_ret2
    exact ⟨_, rfl, by rw [if_neg (by omega)]; exact byt_nil _, HBA.out⟩
  · rw [if_neg hbig]
    go_enter Try.func25, Try.ntmps25
    go_wp2_with (first
      | ((with_reducible refine at_load (.tmp 7) ?_); refine wpList_load_1 62 (.tmp 7) rfl w.heap.size 33 (.slice lva lvl lvc) (B0.out.cellAt q1.out o1.out) rfl _ Try.underlying62 rfl rfl ?_)
      | ((with_reducible refine at_load (.tmp 11) ?_); refine wpList_load_part 31 (.tmp 11) rfl w.heap.size ps 0 0 c.cells B0.out q0.out o0.out rfl _ Try.underlying31 rfl HI33.out rfl ?_)
      | (go_at_call 40; refine (D3.out _).mono ?_; rintro e w3 ⟨v3, rfl, ho3, hb3⟩; have HB3 := Lib.hid (HBA.out.trans (hb3.mono HBA.out.size)); have HO3 := Lib.hid (ho3.mono (C := w.heap.size + 1) (by simp)); clear ho3; have hs3 : w.heap.size + 1 ≤ w3.heap.size := by (have := hb3.size; simpa using this)
         have K3 := Lib.hid (B0.out.call hb3); clear hb3)
      | ((with_reducible refine at_load (.tmp 15) ?_); refine wpList_load_1 62 (.tmp 15) rfl w.heap.size 33 (.slice lva lvl lvc) (K3.out.cellAt q1.out o1.out) rfl _ Try.underlying62 rfl rfl ?_)
      | (go_at_call 65; refine (anum_any _ _ _ _ (w.heap.size + 1) HO3.out hs3 (by omega) (by omega) (by omega)).mono ?_; rintro e w4 ⟨v4, rfl, ho4, hb4, hg4⟩; rw [Int.toNat_natCast] at ho4; have HO4 := Lib.hid ho4; clear ho4; have HB4 := Lib.hid (HB3.out.trans (hb4.mono (by omega))); have K4 := Lib.hid (K3.out.below hb4 (by omega)); have hs4 := Nat.le_trans hs3 hb4.size; clear hb4 hg4)
      | ((with_reducible refine at_load (.tmp 20) ?_); refine wpList_load_1 62 (.tmp 20) rfl w.heap.size 33 (.slice lva lvl lvc) (K4.out.cellAt q1.out o1.out) rfl _ Try.underlying62 rfl rfl ?_))
    go_loopw [4, 23] (fun b i wr => TI w4 (w.heap.size + 1) c.enc l b i wr) (fun _ i _ => lvl - (intOf i).toNat)
    case atStart => exact ⟨0, Nat.zero_le _, rfl, by rw [show tencK l 0 = uenc lvl by rw [tencK, HLL.out]; simp [seqK]]; exact HO4.out, Below.refl _ _⟩
    case round =>
      obtain ⟨k, hk, rfl, ho, hbl⟩ := hrel
      rw [HLL.out] at hk
      have HO := Lib.hid ho; clear ho
      have hsr := Nat.le_trans hs4 hbl.size
      have HBL := Lib.hid hbl; clear hbl
      by_cases hlt : k < lvl
      · obtain ⟨⟨_, _, _, e', _, _, hr⟩, _⟩ := HIU.out wr (HB4.out.trans (HBL.out.mono (by omega)))
        cases e'
        rcases hr with hr | ⟨b, off, rfl, hbb, hcl⟩
        · omega
        have hcell := hcl k hlt
        clear hcl
        have hkl : k < l.length := by rw [HLL.out]; exact hlt
        have hx := HR.out _ (getD_mem hkl)
        have hln := HTL.out k (by omega)
        have D := fun b u h hB => anum_any b (c.enc ++ tencK l k) (l.getD k 0) u (w.heap.size + 1) h hB hx.1 hx.2 (by rw [List.length_append]; omega)
        rw [List.append_assoc, ← tencK_next] at D
        have HKL := Lib.hid hkl; clear hkl
        clear hln
        obtain ⟨x, HX⟩ : ∃ x, Hid (x = l.getD k 0) := ⟨_, rfl⟩
        rw [← HX.out] at D hx hcell
        have HD := Lib.hid D; clear D
        go_wp2_with (go_at_call 65; refine (HD.out _ _ HO.out hsr).mono ?_; rintro e w6 ⟨v6, rfl, ho6, hb6, hg6⟩; have HO6 := Lib.hid ho6; clear ho6; have HB6 := Lib.hid hb6; clear hb6 hg6)
        go_roundw
        case rel => exact ⟨k + 1, by rw [HLL.out]; omega, by go_num, HO6.out, HBL.out.trans HB6.out⟩
        case measure => simp [intOf]; omega
      · obtain rfl : k = lvl := by omega
        go_wp2_with fail
        go_ret2
        refine ⟨_, rfl, ?_, HB4.out.trans (HBL.out.mono (by omega))⟩
        rw [if_pos rfl]
        have := HO.out
        rw [show tencK l k = tenc l by unfold tenc; rw [HLL.out]] at this
        exact this.byt (Nat.le_trans HLE.out (by unfold maxLen; omega)) HBY.out

end Go.Proofs.Ytgcgjnjbhdhhgaa
