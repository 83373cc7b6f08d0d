/- roots.Sort and roots.Contains over any slice of roots. -/
import Derived.Test.YtjlfacdmfcbjfaaCompR
set_option linter.unusedVariables false
namespace Go.Proofs.Ytjlfacdmfcbjfaa
open Go.RowKit Go.Shelf Go.Sort Go.Lib

/-- The different roots in order, each once. -/
def uniq (d : List Rt) : List Rt := compactUpTo (inOrder d).toArray d.length

theorem inOrder_len (d : List Rt) : (inOrder d).length = d.length := by simp [inOrder]

theorem compactUpTo_len (d : Array Rt) (m : Nat) : (compactUpTo d m).length ≤ m := by
  unfold compactUpTo
  rw [List.length_map]
  have := List.length_filter_le (keeps d) (List.range m)
  simpa using this

theorem compact_zero (a : Option Addr) (cap : Nat) (w : World) :
    Calls Try.prog 54 #[.slice a 0 cap] w fun e w' => e = .returned (.slice a 0 cap) ∧ w' = w := by
  go_enter Try.func54, Try.ntmps54
  go_wp2_with fail
  go_ret
  exact ⟨rfl, rfl⟩

set_option maxHeartbeats 1000000 in
theorem sort_any (v : Value) (d : List Rt) (w : World) (h : Rts w v d) (hlen : d.length ≤ 4398046511104) :
    Calls Try.prog 35 #[v] w fun e w' => ∃ v', e = .returned v' ∧ Rts w' v' (uniq d) ∧ Below w.heap.size w w' := by
  have HC := Lib.hid (clone_any v d w h hlen)
  have HL := Lib.hid hlen
  have hvs : ∃ a len cap, v = .slice a len cap := by obtain ⟨a, len, cap, e, _⟩ := h; exact ⟨a, len, cap, e⟩
  clear h hlen
  obtain ⟨a, len, cap, rfl⟩ := hvs
  go_enter Try.func35, Try.ntmps35
  go_wp2_with (go_at_call 52; refine HC.out.mono ?_; rintro e w1 ⟨v1, rfl, hb1, hcase⟩)
  rcases hcase with ⟨rfl, p, k, rfl⟩ | ⟨g, c, rfl, hg, hlt, hdc, hcm, hH⟩
  · have HS := Lib.hid (AnyF.slices_SortFunc_none Try.sortL p k (.func (.func 50) #[] #[]) w1)
    have HK := Lib.hid (compact_zero p k w1)
    have HB := Lib.hid hb1
    clear hb1
    go_wp2_with (first
      | (go_at_call 53; refine HS.out.mono ?_; rintro e w2 ⟨rfl, rfl⟩)
      | (go_at_call 54; refine HK.out.mono ?_; rintro e w2 ⟨rfl, rfl⟩))
    go_ret
    exact ⟨_, rfl, ⟨_, _, _, rfl, by simp [uniq, inOrder, compactUpTo], Nat.zero_le _, .inl rfl⟩, HB.out⟩
  · have HS := Lib.hid (sortFunc_row g c w.heap.size d w1 w hb1 hg hlt HL.out hH)
    have HG := Lib.hid hg
    clear hb1 hH hg
    have HK := Lib.hid (fun (w2 : World) (hb : Below w.heap.size w w2) (hlt2 : g < w2.heap.size) (hH2 : HoldsK encR 32 w2 g 0 (inOrder d).toArray) =>
      compact_row g c w.heap.size (inOrder d).toArray w2 w hb HG.out hlt2 (by have := HL.out; simpa [inOrder_len] using this) (by simpa [inOrder_len] using hdc) hH2)
    have hsz : (inOrder d).toArray.size = d.length := by simp [inOrder_len]
    rw [hsz] at HK
    clear hsz
    go_wp2_with (first
      | (go_at_call 53; refine HS.out.mono ?_; rintro e w2 ⟨rfl, hb2, hlt2, hH2⟩)
      | (go_at_call 54; refine (HK.out _ hb2 hlt2 hH2).mono ?_; rintro e w3 ⟨rfl, hb3, hlt3, hR3⟩))
    go_ret
    have hle := compactUpTo_len (inOrder d).toArray d.length
    have hL := HL.out
    refine ⟨_, rfl, ⟨_, _, _, rfl, rfl, ?_, .inr ⟨g, 0, rfl, hlt3, hR3⟩⟩, hb3⟩
    unfold maxLen
    omega

theorem index_zero (a : Option Addr) (cap : Nat) (X : Array Value) (w : World) :
    Calls Try.prog 63 #[.slice a 0 cap, .agg X] w fun e w' => e = .returned (.int .i64 (-1)) ∧ Below w.heap.size w w' := by
  go_enter Try.func63, Try.ntmps63
  go_wp2_with fail
  refine wp_loop_rounds 1 ?_
  rw [rounds_succ]
  go_wp2_with fail
  go_ret
  exact ⟨rfl, (Below.refl _ _).alloc (Nat.le_refl _) _⟩

set_option maxHeartbeats 1000000 in
theorem contains_zero (a : Option Addr) (cap : Nat) (x : Rt) (w : World) :
    Calls Try.prog 56 #[.slice a 0 cap, .agg (encR x).toArray] w fun e w' => e = .returned (.bool false) ∧ Below w.heap.size w w' := by
  obtain ⟨X, HX⟩ : ∃ X, (encR x).toArray = X := ⟨_, rfl⟩
  have hs : X.size = 32 := by rw [← HX]; simp [encR_len]
  rw [HX]
  clear HX
  have hi : (Try.prog.info? 25).map (·.size) = some X.size := by rw [hs]; kernel_rfl
  have H := Lib.hid (fun u => index_zero a cap X u)
  go_enter Try.func56, Try.ntmps56
  go_wp2_with (first
    | ((with_reducible refine at_load (.tmp 3) ?_); refine wpList_load_blk rfl 25 _ rfl w.heap.size rfl X _ (Blk.new rfl) Try.underlying25 rfl hi ?_)
    | (go_at_call 63; refine (H.out _).mono ?_; rintro e w1 ⟨rfl, hb1⟩))
  go_ret
  exact ⟨rfl, bel1 (Below.refl _ _) hb1⟩

theorem scontains_any (v : Value) (d : List Rt) (x : Rt) (w : World) (h : Rts w v d) :
    Calls Try.prog 56 #[v, .agg (encR x).toArray] w fun e w' => e = .returned (.bool (decide (x ∈ d))) ∧ Below w.heap.size w w' := by
  obtain ⟨a, len, cap, rfl, hl, hm, h0⟩ := h
  by_cases hz : len = 0
  · subst hz
    obtain rfl := List.eq_nil_of_length_eq_zero hl
    simpa using contains_zero a cap x w
  · rcases h0 with h0 | ⟨b, off, rfl, hlt, hc⟩
    · exact absurd h0 hz
    · exact contains_row b off len cap d x w hl hm hc

set_option maxHeartbeats 1000000 in
theorem contains_any (v : Value) (d : List Rt) (x : Rt) (w : World) (h : Rts w v d) :
    Calls Try.prog 37 #[v, .agg (encR x).toArray] w fun e w' => e = .returned (.bool (decide (x ∈ d))) ∧ Below w.heap.size w w' := by
  obtain ⟨r, hr⟩ : ∃ r, decide (x ∈ d) = r := ⟨_, rfl⟩
  have H := Lib.hid (fun (u : World) (hu : Rts u v d) => scontains_any v d x u hu)
  rw [hr] at H ⊢
  obtain ⟨X, HX⟩ : ∃ X, (encR x).toArray = X := ⟨_, rfl⟩
  have hs : X.size = 32 := by rw [← HX]; simp [encR_len]
  rw [HX] at H ⊢
  clear HX hr
  have hi : (Try.prog.info? 25).map (·.size) = some X.size := by rw [hs]; kernel_rfl
  have hR := Lib.hid (h.below ((Below.refl _ w).alloc (Nat.le_refl _) (.cells X 25)))
  obtain ⟨a, len, cap, rfl, _⟩ := h
  go_enter Try.func37, Try.ntmps37
  go_wp2_with (first
    | ((with_reducible refine at_load (.tmp 3) ?_); refine wpList_load_blk rfl 25 _ rfl w.heap.size rfl X _ (Blk.new rfl) Try.underlying25 rfl hi ?_)
    | (go_at_call 56; refine (H.out _ hR.out).mono ?_; rintro e w1 ⟨rfl, hb1⟩))
  go_ret
  exact ⟨rfl, bel1 (Below.refl _ _) hb1⟩

end Go.Proofs.Ytjlfacdmfcbjfaa
