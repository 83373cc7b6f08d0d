/- Stage 3: the walk of RootsSorted. -/
import Derived.Test.YtgleleccmpncnaaUniq
set_option linter.unusedVariables false
namespace Go.Proofs.Ytgleleccmpncnaa
open Go.RowKit

theorem rcmp_below (x y : Rt) (w : World) {c : Int} (h : cfR x y = c) :
    Calls Try.prog 20 #[.agg (encR x).toArray, .agg (encR y).toArray] w fun e w' => e = .returned (.int .i64 c) ∧ Below w.heap.size w w' := by
  subst h
  refine (rcmp_grow x y w).mono ?_
  rintro e w' ⟨rfl, q, os, rfl⟩
  exact ⟨rfl, below_grow (Below.refl _ _) (Nat.le_refl _) os q⟩

theorem contains_yes (v : Value) (d : List Rt) (x : Rt) (w : World) (h : Rts w v d) (hx : x ∈ d) :
    Calls Try.prog 29 #[v, .agg (encR x).toArray] w fun e w' => e = .returned (.bool true) ∧ Below w.heap.size w w' := by
  have := contains_any v d x w h
  rwa [decide_eq_true hx] at this

theorem Rts.row {w : World} {a : Option Addr} {len cap : Nat} {d : List Rt} (h : Rts w (.slice a len cap) d) (hp : 0 < len) : ∃ b off, a = some ⟨b, off, none⟩ ∧ b < w.heap.size ∧ RootsAt w b off d := by
  obtain ⟨a', l', c', e, hl, hm, h0⟩ := h
  cases e
  rcases h0 with h0 | h0
  · omega
  · exact h0

theorem Rts.len {w : World} {a : Option Addr} {len cap : Nat} {d : List Rt} (h : Rts w (.slice a len cap) d) : d.length = len := by
  obtain ⟨a', l', c', e, hl, _⟩ := h; cases e; exact hl

set_option maxHeartbeats 400000 in
theorem sorted_long (a : Option Addr) (len cap : Nat) (w : World) (hl : 60 < len) (hm : len ≤ 9223372036854775807) :
    Calls Try.prog 9 #[.slice a len cap] w fun e w' => e = .returned (.bool true) ∧ Below w.heap.size w w' := by
  go_enter Try.func9, Try.ntmps9
  go_wp2_with (go_at_call 22; refine (awake3 _).mono ?_; rintro e w1 ⟨rfl, hb1⟩)
  go_ret
  exact ⟨rfl, hb1⟩

set_option maxHeartbeats 1000000 in
theorem sorted_nil (a : Option Addr) (cap : Nat) (w : World) :
    Calls Try.prog 9 #[.slice a 0 cap] w fun e w' => e = .returned (.bool true) ∧ Below w.heap.size w w' := by
  have h0 : ∀ (u : World) (a : Option Addr) (c : Nat), Rts u (.slice a 0 c) [] := fun u a c => ⟨_, _, _, rfl, rfl, Nat.zero_le _, .inl rfl⟩
  have hs : ∀ (u : World) (a : Option Addr) (c : Nat), Calls Try.prog 27 #[.slice a 0 c] u fun e w' => (∃ p k, e = .returned (.slice p 0 k)) ∧ Below u.heap.size u w' := fun u a c => by
    refine (sort_any _ [] u (h0 u a c) (by simp)).mono ?_
    rintro e w' ⟨v', rfl, ⟨p, n, k, rfl, hn, _⟩, hb⟩
    have : n = 0 := by rw [← hn]; have := uniq_len []; simpa using this
    subst this
    exact ⟨⟨_, _, rfl⟩, hb⟩
  have HS := Lib.hid hs
  clear hs h0
  go_enter Try.func9, Try.ntmps9
  go_wp2_with (go_at_call 27; refine (HS.out _ _ _).mono ?_; rintro e w1 ⟨⟨p, k, rfl⟩, hb1⟩)
  refine wp_loop_rounds 1 ?_
  rw [rounds_succ]
  go_wp2_with fail
  refine wp_loop_rounds 1 ?_
  rw [rounds_succ]
  go_wp2_with (go_at_call 22; refine (awake3 _).mono ?_; rintro e w1 ⟨rfl, hb3⟩)
  go_ret
  exact ⟨rfl, bel0 (bel0 (by assumption) hb1) hb3⟩

theorem RootsAt.get {w : World} {b off k : Nat} {d : List Rt} {x : Rt} (h : RootsAt w b off d) (hk : k < d.length) (hx : d[k]! = x) : w.rangeAt b (off + k * 32) (encR x) := hx ▸ h k hk

theorem asc_get {l : List Rt} (h : l.Pairwise fun x y => cfR x y < 0) {k : Nat} (h0 : 0 < k) (hk : k < l.length) : cfR l[k - 1]! l[k]! = -1 := by
  have := List.pairwise_iff_getElem.1 h (k - 1) k (by omega) hk (by omega)
  rw [getElem!_pos _ k hk, getElem!_pos _ (k - 1) (by omega)]
  have r := cmpB_rng l[k - 1].1 l[k].1
  unfold cfR at this ⊢
  omega

theorem get_mem {l : List Rt} {k : Nat} (hk : k < l.length) : l[k]! ∈ l := by
  rw [getElem!_pos _ k hk]; exact List.getElem_mem hk

set_option maxRecDepth 1000000 in
set_option maxHeartbeats 4000000 in
theorem sorted_row (b0 o0 len cap : Nat) (d : List Rt) (w : World) (h : Rts w (.slice (some ⟨b0, o0, none⟩) len cap) d) (hp : 0 < len) (h60 : len ≤ 60) :
    Calls Try.prog 9 #[.slice (some ⟨b0, o0, none⟩) len cap] w fun e w' => e = .returned (.bool true) ∧ Below w.heap.size w w' := by
  have hl := h.len
  have HD := Lib.hid h
  have HS := Lib.hid (fun (u : World) (v : Value) (d' : List Rt) (hu : Rts u v d') (hn : d'.length ≤ 4398046511104) => sort_any v d' u hu hn)
  have HL := Lib.hid hl
  obtain ⟨U, HU⟩ : ∃ U, Hid (U = uniq d) := ⟨_, rfl⟩
  have hUl : U.length ≤ len := by rw [HU.out, ← hl]; exact uniq_len d
  have HUU := Lib.hid (show uniq U = U by rw [HU.out]; exact uniq_uniq d)
  have HUA := Lib.hid (show U.Pairwise fun x y => cfR x y < 0 by rw [HU.out]; exact uniq_asc d)
  have HUM := Lib.hid (show ∀ x, x ∈ U ↔ x ∈ d by rw [HU.out]; exact fun x => mem_uniq)
  clear h hl
  go_enter Try.func9, Try.ntmps9
  go_wp2_with (first
    | (go_at_call_of 27 b0; refine (HS.out _ _ d HD.out (by rw [HL.out]; omega)).mono ?_; rintro e w1 ⟨v1, rfl, hR1, hb1⟩; rw [← HU.out] at hR1; have HR1 := Lib.hid hR1; have HB1 := Lib.hid hb1; clear hb1; have hvs : ∃ a len cap, v1 = .slice a len cap := (by obtain ⟨a, len, cap, e, _⟩ := hR1; exact ⟨a, len, cap, e⟩); clear hR1; obtain ⟨a1, n1, c1, rfl⟩ := hvs)
    | (go_at_call 27; refine (HS.out _ _ U HR1.out (by omega)).mono ?_; rintro e w2 ⟨v2, rfl, hR2, hb2⟩; rw [HUU.out] at hR2; have HR2 := Lib.hid hR2; have HB2 := Lib.hid hb2; clear hb2; have hvs : ∃ a len cap, v2 = .slice a len cap := (by obtain ⟨a, len, cap, e, _⟩ := hR2; exact ⟨a, len, cap, e⟩); clear hR2; obtain ⟨a2, n2, c2, rfl⟩ := hvs; have hn1 := HR1.out.len; have hn2 := HR2.out.len; have hn12 : n2 = n1 := (by omega); subst hn12; have hnl : n2 ≤ len := (by omega); have hnl2 : (len < n2) = False := eq_false (by omega)))
  have hn0 : 0 < n2 := by
    have h1 := get_mem (l := d) (k := 0) (by have := HL.out; omega)
    have h2 := List.length_pos_of_mem ((HUM.out _).2 h1)
    omega
  have HN := Lib.hid hn2
  have HBW := Lib.hid (bel0 HB1.out HB2.out)
  have HD2 := Lib.hid (HD.out.below HBW.out)
  have HR1' := Lib.hid (HR1.out.below HB2.out)
  obtain ⟨b1, o1, rfl, hlt1, hr1⟩ := HR1'.out.row hn0
  obtain ⟨b2, o2, rfl, hlt2, hr2⟩ := HR2.out.row hn0
  obtain ⟨b0', o0', e0, hlt0, hr0⟩ := HD2.out.row hp
  cases e0
  have HA0 := Lib.hid hr0
  have HA1 := Lib.hid hr1
  have HA2 := Lib.hid hr2
  clear hr0 hr1 hr2 HS HD HR1 HR2 HUU HB1 HB2 HU hn1 hn2 hUl
  go_loopg [5] n2 (fun n i wr => ∃ k : Nat, k ≤ n2 ∧ n2 - k ≤ n ∧ i = .int .i64 k ∧ Below w2.heap.size w2 wr)
  case atStart => exact ⟨0, by omega, by omega, rfl, Below.refl _ _⟩
  case round =>
    obtain ⟨k, hk, hn, rfl, hbr⟩ := hrel
    have HBr := Lib.hid hbr
    clear hbr
    by_cases hlt : k < n2
    · obtain ⟨x, hx⟩ : ∃ x, U[k]! = x := ⟨_, rfl⟩
      have HX0 := Lib.hid (show ∀ u, Below w2.heap.size w2 u → u.rangeAt b1 (o1 + k * 32) (encR x) from fun u hu => (HA1.out.below hlt1 hu).get (by rw [HN.out]; exact hlt) hx)
      have HX2 := Lib.hid (show ∀ u, Below w2.heap.size w2 u → u.rangeAt b2 (o2 + k * 32) (encR x) from fun u hu => (HA2.out.below hlt2 hu).get (by rw [HN.out]; exact hlt) hx)
      have HC := Lib.hid (show ∀ u, Below w2.heap.size w2 u → Calls Try.prog 29 #[.slice (some ⟨b0, o0, none⟩) len cap, .agg (encR x).toArray] u fun e w' => e = .returned (.bool true) ∧ Below u.heap.size u w' from
        fun u hu => contains_yes _ d x u (HD2.out.below hu) ((HUM.out x).1 (hx ▸ get_mem (by rw [HN.out]; exact hlt))))
      have heq : ∀ z, Sem.run Try.prog (Op.equalIn 10000 37 (.agg (encR x).toArray) (.agg (encR x).toArray)) z = .ok true z := fun z => by
        have := eq_rt x x z
        rwa [decide_eq_true rfl] at this
      have I1 := infoRs x
      by_cases hk0 : k = 0
      · subst hk0
        clear hx
        go_wp2_with fail
        refine wp_region_fam2 (by kernel_rfl) (by kernel_rfl) ?_
        intro T F hT hF hG
        have C1 : ∀ z, (∃ t, z = F t) → z.rangeAt b1 o1 (encR x) := by rintro _ ⟨t, rfl⟩; have := HX0.out _ (bel0 HBr.out (hF t)); simpa using this
        have C2 : ∀ z, (∃ t, z = F t) → z.rangeAt b2 o2 (encR x) := by rintro _ ⟨t, rfl⟩; have := HX2.out _ (bel0 HBr.out (hF t)); simpa using this
        repeat (first
          | ((with_reducible refine at_qload (.tmp 35) ?_); refine wpQuiet_load_mid 37 _ rfl b2 o2 rfl (encR x) C2 Try.underlying37 rfl I1 (by kernel_rfl) ?_; simp only [Act.put, List.setIfInBounds_toArray, List.set_cons_succ, List.set_cons_zero])
          | ((with_reducible refine at_qload (.tmp 39) ?_); refine wpQuiet_load_mid 37 _ rfl b1 o1 rfl (encR x) C1 Try.underlying37 rfl I1 (by kernel_rfl) ?_; simp only [Act.put, List.setIfInBounds_toArray, List.set_cons_succ, List.set_cons_zero])
          | ((with_reducible refine at_qload (.tmp 63) ?_); refine wpQuiet_load_mid 37 _ rfl b1 o1 rfl (encR x) C1 Try.underlying37 rfl I1 (by kernel_rfl) ?_; simp only [Act.put, List.setIfInBounds_toArray, List.set_cons_succ, List.set_cons_zero])
          | (go_big_quiet_step ((go_at_call 29; exact fam_call hF hG (Nat.le_refl _) (HC.out _ (bel0 HBr.out (hF _)))))))
        refine wpQuiet_nil ?_
        rintro _ ⟨t, rfl⟩
        have HB' := Lib.hid (bel0 HBr.out (hF t))
        obtain ⟨wv, hwv⟩ : ∃ v, F t = v := ⟨_, rfl⟩
        rw [hwv] at HB'
        rw [hwv]
        clear C1 C2 hF hG hT hwv heq HC HX0 HX2 I1
        clear t F T
        go_wp2_with fail
        go_roundg (n2 - 1)
        case measure => omega
        case rel => exact ⟨1, by omega, Nat.le_refl _, by go_num, HB'.out⟩
      · obtain ⟨y, hy⟩ : ∃ y, U[k - 1]! = y := ⟨_, rfl⟩
        have HY := Lib.hid (show ∀ u, Below w2.heap.size w2 u → u.rangeAt b1 (o1 + (k - 1) * 32) (encR y) from fun u hu => (HA1.out.below hlt1 hu).get (by rw [HN.out]; omega) hy)
        have HCmp := Lib.hid (fun u => rcmp_below y x u (c := -1) (by rw [← hx, ← hy]; exact asc_get HUA.out (by omega) (by rw [HN.out]; exact hlt)))
        have I2 := infoRs y
        clear hx hy
        have hpos : 0 < k := by omega
        go_wp2_with fail
        refine wp_region_fam2 (by kernel_rfl) (by kernel_rfl) ?_
        intro T F hT hF hG
        have C1 : ∀ z, (∃ t, z = F t) → z.rangeAt b1 (o1 + k * 32) (encR x) := by rintro _ ⟨t, rfl⟩; exact HX0.out _ (bel0 HBr.out (hF t))
        have C2 : ∀ z, (∃ t, z = F t) → z.rangeAt b2 (o2 + k * 32) (encR x) := by rintro _ ⟨t, rfl⟩; exact HX2.out _ (bel0 HBr.out (hF t))
        have C3 : ∀ z, (∃ t, z = F t) → z.rangeAt b1 (o1 + (k - 1) * 32) (encR y) := by rintro _ ⟨t, rfl⟩; exact HY.out _ (bel0 HBr.out (hF t))
        repeat (first
          | ((with_reducible refine at_qload (.tmp 35) ?_); refine wpQuiet_load_mid 37 _ rfl b2 (o2 + k * 32) rfl (encR x) C2 Try.underlying37 rfl I1 (by kernel_rfl) ?_; simp only [Act.put, List.setIfInBounds_toArray, List.set_cons_succ, List.set_cons_zero])
          | ((with_reducible refine at_qload (.tmp 39) ?_); refine wpQuiet_load_mid 37 _ rfl b1 (o1 + k * 32) rfl (encR x) C1 Try.underlying37 rfl I1 (by kernel_rfl) ?_; simp only [Act.put, List.setIfInBounds_toArray, List.set_cons_succ, List.set_cons_zero])
          | ((with_reducible refine at_qload (.tmp 49) ?_); refine wpQuiet_load_mid 37 _ rfl b1 (o1 + (k - 1) * 32) rfl (encR y) C3 Try.underlying37 rfl I2 (by kernel_rfl) ?_; simp only [Act.put, List.setIfInBounds_toArray, List.set_cons_succ, List.set_cons_zero])
          | ((with_reducible refine at_qload (.tmp 53) ?_); refine wpQuiet_load_mid 37 _ rfl b1 (o1 + k * 32) rfl (encR x) C1 Try.underlying37 rfl I1 (by kernel_rfl) ?_; simp only [Act.put, List.setIfInBounds_toArray, List.set_cons_succ, List.set_cons_zero])
          | ((with_reducible refine at_qload (.tmp 63) ?_); refine wpQuiet_load_mid 37 _ rfl b1 (o1 + k * 32) rfl (encR x) C1 Try.underlying37 rfl I1 (by kernel_rfl) ?_; simp only [Act.put, List.setIfInBounds_toArray, List.set_cons_succ, List.set_cons_zero])
          | (go_big_quiet_step ((first
              | (go_at_call 29; exact fam_call hF hG (Nat.le_refl _) (HC.out _ (bel0 HBr.out (hF _))))
              | (go_at_call 20; exact fam_call hF hG (Nat.le_refl _) (HCmp.out _))))))
        refine wpQuiet_nil ?_
        rintro _ ⟨t, rfl⟩
        have HB' := Lib.hid (bel0 HBr.out (hF t))
        obtain ⟨wv, hwv⟩ : ∃ v, F t = v := ⟨_, rfl⟩
        rw [hwv] at HB'
        rw [hwv]
        clear C1 C2 C3 hF hG hT hwv heq HC HX0 HX2 HY HCmp I1 I2
        clear t F T
        go_wp2_with fail
        go_roundg (n2 - (k + 1))
        case measure => omega
        case rel => exact ⟨k + 1, by omega, Nat.le_refl _, by go_num, HB'.out⟩
    · go_wp2_with fail
      go_loopg [6] len (fun n i wr => ∃ m : Nat, m ≤ len ∧ len - m ≤ n ∧ i = .int .i64 m ∧ Below w2.heap.size w2 wr)
      case atStart => exact ⟨0, by omega, by omega, rfl, HBr.out⟩
      case round =>
        obtain ⟨m, hm, hn', rfl, hbs⟩ := hrel
        have HBs := Lib.hid hbs
        clear hbs
        by_cases hltm : m < len
        · obtain ⟨x, hx⟩ : ∃ x, d[m]! = x := ⟨_, rfl⟩
          have HX := Lib.hid ((HA0.out.below hlt0 HBs.out).get (by rw [HL.out]; exact hltm) hx)
          have I1 := infoRs x
          have HC := Lib.hid (contains_yes _ U x _ (HR1'.out.below HBs.out) ((HUM.out x).2 (hx ▸ get_mem (by rw [HL.out]; exact hltm))))
          clear hx
          go_wp2_with (first
            | ((with_reducible refine at_load (.tmp 77) ?_); refine wpList_load_mid rfl 37 _ rfl b0 (o0 + m * 32) rfl (encR x) _ HX.out Try.underlying37 rfl I1 ?_)
            | (go_at_call 29; refine HC.out.mono ?_; rintro e w4 ⟨rfl, hb4⟩))
          go_roundg (len - (m + 1))
          case measure => omega
          case rel => exact ⟨m + 1, by omega, Nat.le_refl _, by go_num, bel0 HBs.out hb4⟩
        · go_wp2_with (go_at_call 22; refine (awake3 _).mono ?_; rintro e w5 ⟨rfl, hb5⟩)
          go_ret
          exact ⟨rfl, bel0 HBW.out (bel0 HBs.out hb5)⟩

theorem walk_RootsSorted (v0 : Value) (a0 : List Rt) (w : World) (w0 : Rts w v0 a0) :
    Calls Try.prog 9 #[v0] w fun e w' => e = .returned (.bool true) ∧ Below w.heap.size w w' := by
  have h := w0
  obtain ⟨a, len, cap, rfl, hl, hm, h0⟩ := w0
  by_cases hc : len ≤ 60
  · by_cases hz : len = 0
    · subst hz
      exact sorted_nil a cap w
    · obtain ⟨b, off, rfl, _⟩ := h.row (by omega)
      exact sorted_row b off len cap a0 w h (by omega) hc
  · exact sorted_long a len cap w (by omega) (by unfold maxLen at hm; omega)

end Go.Proofs.Ytgleleccmpncnaa
