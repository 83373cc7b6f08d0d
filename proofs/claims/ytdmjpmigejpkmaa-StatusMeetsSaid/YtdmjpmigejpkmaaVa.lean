/- Lists of validators: what ValidateList says of them; the code's, the reference's; the reference's SameInts. -/
import Derived.Test.YtdmjpmigejpkmaaLt
import Derived.IntWalk
set_option linter.unusedVariables false

set_option linter.unusedSimpArgs false
namespace Go.Proofs.Ytdmjpmigejpkmaa
open Go.RowKit

def okAt (l : List Int) (n : Int) (i : Nat) : Int :=
  if l.getD i 0 < 0 ∨ n ≤ l.getD i 0 then 3 else if 0 < i ∧ l.getD i 0 ≤ l.getD (i - 1) 0 then 8 else 0

def vlGo (l : List Int) (n : Int) : Nat → Nat → Int
  | 0, _ => 0
  | f + 1, i => if okAt l n i ≠ 0 then okAt l n i else vlGo l n f (i + 1)

def vlE (l : List Int) (n : Int) : Int := if l.length = 0 then 2 else vlGo l n l.length 0

theorem vlGo_next {l : List Int} {n : Int} {k : Nat} (hk : k < l.length) : vlGo l n (l.length - k) k = if okAt l n k ≠ 0 then okAt l n k else vlGo l n (l.length - (k + 1)) (k + 1) := by
  obtain ⟨f, hf⟩ : ∃ f, l.length - k = f + 1 := ⟨l.length - k - 1, by omega⟩
  rw [hf, vlGo, show l.length - (k + 1) = f by omega]

theorem vlGo_good {l : List Int} {n : Int} : ∀ f i, vlGo l n f i = 0 → ∀ j, i ≤ j → j < i + f → okAt l n j = 0
  | 0, i, _, j, h1, h2 => by omega
  | f + 1, i, h, j, h1, h2 => by
    rw [vlGo] at h
    by_cases h0 : okAt l n i = 0
    · rw [if_neg (by simpa using h0)] at h
      by_cases hj : j = i
      · subst hj; exact h0
      · exact vlGo_good f (i + 1) h j (by omega) (by omega)
    · rw [if_pos h0] at h; exact absurd h h0

theorem okAt_zero {l : List Int} {n : Int} {i : Nat} (h : okAt l n i = 0) : 0 ≤ l.getD i 0 ∧ l.getD i 0 < n ∧ (0 < i → l.getD (i - 1) 0 < l.getD i 0) := by
  unfold okAt at h
  split at h
  · cases h
  · rename_i h1
    split at h
    · cases h
    · rename_i h2
      exact ⟨by omega, by omega, fun h3 => by omega⟩

theorem okAt_of {l : List Int} {n : Int} {i : Nat} (h1 : 0 ≤ l.getD i 0) (h2 : l.getD i 0 < n) (h3 : 0 < i → l.getD (i - 1) 0 < l.getD i 0) : okAt l n i = 0 := by
  unfold okAt
  rw [if_neg (by omega), if_neg (by omega)]

theorem vl_good {l : List Int} {n : Int} (h : vlE l n = 0) : 0 < l.length ∧ ∀ i, i < l.length → 0 ≤ l.getD i 0 ∧ l.getD i 0 < n ∧ (0 < i → l.getD (i - 1) 0 < l.getD i 0) := by
  unfold vlE at h
  split at h
  · cases h
  · rename_i h0
    exact ⟨by omega, fun i hi => okAt_zero (vlGo_good _ _ h i (Nat.zero_le _) (by omega))⟩

theorem vlGo_of {l : List Int} {n : Int} : ∀ f i, (∀ j, i ≤ j → j < i + f → okAt l n j = 0) → vlGo l n f i = 0
  | 0, i, _ => rfl
  | f + 1, i, h => by
    rw [vlGo, if_neg (by simpa using h i (Nat.le_refl _) (by omega))]
    exact vlGo_of f (i + 1) fun j h1 h2 => h j (by omega) (by omega)

theorem vl_of {l : List Int} {n : Int} (h0 : 0 < l.length) (h : ∀ i, i < l.length → 0 ≤ l.getD i 0 ∧ l.getD i 0 < n ∧ (0 < i → l.getD (i - 1) 0 < l.getD i 0)) : vlE l n = 0 := by
  unfold vlE
  rw [if_neg (by omega)]
  exact vlGo_of _ _ fun j _ h2 => by have := h j (by omega); exact okAt_of this.1 this.2.1 this.2.2

theorem okAt_vals (l : List Int) (n : Int) (i : Nat) : okAt l n i = 0 ∨ okAt l n i = 3 ∨ okAt l n i = 8 := by
  unfold okAt; split
  · simp
  · split <;> simp

theorem vlGo_vals (l : List Int) (n : Int) : ∀ f i, vlGo l n f i = 0 ∨ vlGo l n f i = 3 ∨ vlGo l n f i = 8
  | 0, _ => .inl rfl
  | f + 1, i => by
    rw [vlGo]
    split
    · exact okAt_vals l n i
    · exact vlGo_vals l n f (i + 1)

theorem okAt_bad1 {l : List Int} {n : Int} {i : Nat} (h : l.getD i 0 < 0 ∨ n ≤ l.getD i 0) : okAt l n i = 3 := by unfold okAt; rw [if_pos h]

theorem okAt_bad2 {l : List Int} {n : Int} {i : Nat} (h : ¬ (l.getD i 0 < 0 ∨ n ≤ l.getD i 0)) (h2 : 0 < i ∧ l.getD i 0 ≤ l.getD (i - 1) 0) : okAt l n i = 8 := by unfold okAt; rw [if_neg h, if_pos h2]

theorem vl_here {l : List Int} {n : Int} {k : Nat} {e : Int} (hk : k < l.length) (h0 : vlGo l n (l.length - k) k = vlE l n) (he : okAt l n k = e) (hne : e ≠ 0) : vlE l n = e := by
  rw [← h0, vlGo_next hk, he, if_pos hne]

theorem vl_on {l : List Int} {n : Int} {k : Nat} (hk : k < l.length) (h0 : vlGo l n (l.length - k) k = vlE l n) (he : okAt l n k = 0) : vlGo l n (l.length - (k + 1)) (k + 1) = vlE l n := by
  rw [← h0, vlGo_next hk, he, if_neg (by simp)]

set_option maxRecDepth 100000 in
set_option maxHeartbeats 4000000 in
theorem sints2 (v1 v2 : Value) (l m : List Int) (w : World) (h1 : IntsV w v1 l) (h2 : IntsV w v2 m) :
    Calls Try.prog 16 #[v1, v2] w (Tells w (l = m)) := by
  obtain ⟨⟨a1, len1, cap1, rfl, hl1, hm1, hr1⟩, hg1⟩ := h1
  obtain ⟨⟨a2, len2, cap2, rfl, hl2, hm2, hr2⟩, hg2⟩ := h2
  unfold maxLen at hm1 hm2
  have HL1 := Lib.hid hl1; clear hl1
  have HL2 := Lib.hid hl2; clear hl2
  have H1 := Lib.hid hr1; clear hr1
  have H2 := Lib.hid hr2; clear hr2
  have HG1 := Lib.hid hg1; clear hg1
  have HG2 := Lib.hid hg2; clear hg2
  by_cases hlen : len1 = len2
  case neg =>
    have hne : ((len1 : Int) != (len2 : Int)) = true := by simp; omega
    have HN : Hid (¬ l = m) := fun e => hlen (by rw [← HL1.out, ← HL2.out, e])
    clear hlen
    go_enter Try.func16, Try.ntmps16
    go_wp2_with fail
    go_ret
    exact tells_no HN.out (Below.refl _ _)
  subst hlen
  have hne : ((len1 : Int) != (len1 : Int)) = false := by simp
  go_enter Try.func16, Try.ntmps16
  go_wp2_with fail
  go_loopw [5] (fun i wr => ∃ k : Nat, k ≤ len1 ∧ i = .int .i64 k ∧ Below w.heap.size w wr ∧ ∀ j, j < k → l.getD j 0 = m.getD j 0) (fun i _ => len1 - (intOf i).toNat)
  case atStart => exact ⟨0, Nat.zero_le _, rfl, Below.refl _ _, fun j hj => absurd hj (by omega)⟩
  case round =>
    obtain ⟨k, hk, rfl, hbl, hsame⟩ := hrel
    have HS := Lib.hid hsame; clear hsame
    by_cases hlt : k < len1
    · rcases H1.out with h0 | ⟨b1, o1, rfl, hb1, hc1⟩
      · omega
      rcases H2.out with h0 | ⟨b2, o2, rfl, hb2, hc2⟩
      · omega
      have c1 : wr.cell? ⟨b1, o1 + k, none⟩ = some (.int .i64 (l.getD k 0)) := (hbl.cell (p := ⟨b1, o1 + k, none⟩) hb1).trans (hc1 k hlt)
      have c2 : wr.cell? ⟨b2, o2 + k, none⟩ = some (.int .i64 (m.getD k 0)) := (hbl.cell (p := ⟨b2, o2 + k, none⟩) hb2).trans (hc2 k hlt)
      have HBL := Lib.hid hbl; clear hbl hc1 hc2
      obtain ⟨x, HX⟩ : ∃ x, Hid (x = l.getD k 0) := ⟨_, rfl⟩
      obtain ⟨y, HY⟩ : ∃ y, Hid (y = m.getD k 0) := ⟨_, rfl⟩
      rw [← HX.out] at c1
      rw [← HY.out] at c2
      by_cases hxy : x = y
      · have hq : (x != y) = false := by simpa using hxy
        have HQ := Lib.hid hxy; clear hxy
        go_wp2_with fail
        go_quiet (fail)
        go_wp2_with fail
        go_roundw
        case rel => exact ⟨k + 1, by omega, by go_num, Below.drewN HBL.out, fun j hj => by
          by_cases hjk : j = k
          · rw [hjk, ← HX.out, ← HY.out]; exact HQ.out
          · exact HS.out j (by omega)⟩
        case measure => simp [intOf]; omega
      · have hq : (x != y) = true := by simpa using hxy
        have HQ : Hid (¬ l = m) := getD_ne (k := k) (by rw [← HX.out, ← HY.out]; exact hxy)
        clear hxy
        go_wp2_with fail
        go_quiet (fail)
        go_wp2_with fail
        go_ret
        exact tells_no HQ.out (Below.drewN HBL.out)
    · obtain rfl : k = len1 := by omega
      have HE : Hid (l = m) := list_ext_getD (by rw [HL1.out, HL2.out]) (fun j hj => HS.out j (by rw [← HL1.out]; exact hj))
      go_wp2_with fail
      go_ret
      exact tells_yes HE.out hbl

theorem tells_true {w w' : World} {p : Prop} {en : Ending} (h : Tells w p en w') (hp : p) : en = .returned (.bool true) ∧ Below w.heap.size w w' := by
  obtain ⟨b, h1, h2, h3⟩ := h
  rw [h2.2 hp] at h1; exact ⟨h1, h3⟩

theorem tells_false {w w' : World} {p : Prop} {en : Ending} (h : Tells w p en w') (hp : ¬ p) : en = .returned (.bool false) ∧ Below w.heap.size w w' := by
  obtain ⟨b, h1, h2, h3⟩ := h
  cases b
  · exact ⟨h1, h3⟩
  · exact absurd (h2.1 rfl) hp
end Go.Proofs.Ytdmjpmigejpkmaa
