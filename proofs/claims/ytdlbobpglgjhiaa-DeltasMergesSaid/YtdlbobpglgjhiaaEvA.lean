/- The reference's Has and Insert. -/
import Derived.Test.YtdlbobpglgjhiaaOwL
set_option linter.unusedVariables false

set_option linter.unusedSimpArgs false
namespace Go.Proofs.Ytdlbobpglgjhiaa
open Go.RowKit

set_option maxRecDepth 100000

theorem getD_at {l : List Int} {k : Nat} (hk : k < l.length) : l.getD k 0 = l[k] := by simp [List.getD, List.getElem?_eq_getElem hk]

/-- Element k of a slice of ints. -/
theorem IntsV.at {w : World} {a : Option Addr} {len cap : Nat} {l : List Int} (h : IntsV w (.slice a len cap) l) {k : Nat} (hk : k < l.length) :
    ∃ b off, a = some ⟨b, off, none⟩ ∧ b < w.heap.size ∧ w.cell? ⟨b, off + k, none⟩ = some (.int .i64 (l.getD k 0)) := by
  obtain ⟨⟨a', n, c, e, hl, hm, hr⟩, _⟩ := h
  cases e
  rcases hr with h0 | ⟨b, off, rfl, hb, hc⟩
  · omega
  · exact ⟨b, off, rfl, hb, hc k (by omega)⟩

theorem IntsV.len {w : World} {a : Option Addr} {len cap : Nat} {l : List Int} (h : IntsV w (.slice a len cap) l) : l.length = len ∧ len ≤ maxLen := by
  obtain ⟨⟨a', n, c, e, hl, hm, hr⟩, _⟩ := h
  cases e
  exact ⟨hl, hm⟩

set_option maxHeartbeats 4000000 in
theorem has_any (v : Value) (l : List Int) (n : Int) (w : World) (h : IntsV w v l) :
    Calls Try.prog 46 #[v, .int .i64 n] w fun e w' => e = .returned (.bool (decide (n ∈ l))) ∧ Below w.heap.size w w' := by
  obtain ⟨a, len, cap, rfl⟩ := ints_shape' h.1
  have HI := Lib.hid h
  have HL := Lib.hid h.len
  have hmx := h.len.2
  unfold maxLen at hmx
  obtain ⟨q, hq⟩ : ∃ q, Hid (decide (n ∈ l) = q) := ⟨_, Lib.hid rfl⟩
  rw [hq.out]
  clear h
  go_enter Try.func46, Try.ntmps46
  go_wp2_with fail
  go_loopw [5] (fun i wr => ∃ k : Nat, k ≤ len ∧ i = .int .i64 k ∧ (∀ j, j < k → l.getD j 0 ≠ n) ∧ Below w.heap.size w wr) (fun i _ => len - (intOf i).toNat)
  case atStart => exact ⟨0, Nat.zero_le _, rfl, fun j hj => by omega, Below.refl _ _⟩
  case round =>
    obtain ⟨k, hk, rfl, hno, hbl⟩ := hrel
    have HNO := Lib.hid hno
    have HBL := Lib.hid hbl
    clear hno hbl
    by_cases hlt : k < len
    case neg =>
      obtain rfl : k = len := by omega
      have hqf : q = false := by
        rw [← hq.out]
        simp only [decide_eq_false_iff_not]
        intro hmem
        obtain ⟨j, hj, e⟩ := List.mem_iff_getElem.1 hmem
        exact HNO.out j (by rw [← HL.out.1]; exact hj) (by rw [getD_at hj]; exact e)
      go_wp2_with fail
      go_ret
      exact ⟨by rw [hqf]; rfl, HBL.out⟩
    have hlt' : (k : Int) < len := by omega
    obtain ⟨b, off, rfl, hb, hc⟩ := HI.out.at (k := k) (by rw [HL.out.1]; exact hlt)
    have HC := Lib.hid ((HBL.out.cell (p := ⟨b, off + k, none⟩) hb).trans hc)
    obtain ⟨x, hx⟩ : ∃ x, Hid (l.getD k 0 = x) := ⟨_, Lib.hid rfl⟩
    rw [hx.out] at HC
    clear hc
    by_cases hxn : x = n
    · have hb' : (x == n) = true := by simpa using hxn
      have hqt : q = true := by
        rw [← hq.out]
        simp only [decide_eq_true_eq]
        rw [← hxn, ← hx.out]
        exact getD_mem (by rw [HL.out.1]; exact hlt)
      clear hxn
      go_wp2_with (first
        | ((with_reducible refine at_load (.tmp 14) ?_); refine wpList_load_1 3 (.tmp 14) rfl b (off + k) (.int .i64 x) HC.out rfl _ Try.underlying3 rfl rfl ?_))
      go_ret
      exact ⟨by rw [hqt]; rfl, HBL.out⟩
    · have hb' : (x == n) = false := by simpa using hxn
      have HXN := Lib.hid hxn
      clear hxn
      go_wp2_with (first
        | ((with_reducible refine at_load (.tmp 14) ?_); refine wpList_load_1 3 (.tmp 14) rfl b (off + k) (.int .i64 x) HC.out rfl _ Try.underlying3 rfl rfl ?_))
      go_roundw
      case rel => exact ⟨k + 1, by omega, by go_num, fun j hj => by rcases Nat.lt_succ_iff_lt_or_eq.1 hj with h | rfl; exact HNO.out j h; rw [hx.out]; exact HXN.out, HBL.out⟩
      case measure => simp [intOf]; omega

/-- A number is inserted into an ascending list. -/
def insI : List Int → Int → List Int
  | [], n => [n]
  | x :: l, n => if x < n then x :: insI l n else if x = n then x :: l else n :: x :: l

theorem insI_at : ∀ {l : List Int} {n : Int} {k : Nat}, k ≤ l.length → (∀ j, j < k → l.getD j 0 < n) → (k < l.length → n ≤ l.getD k 0) → insI l n = if k < l.length ∧ l.getD k 0 = n then l else l.take k ++ n :: l.drop k
  | [], n, k, hk, _, _ => by
    obtain rfl : k = 0 := by simpa using hk
    simp [insI]
  | x :: l, n, 0, _, _, h => by
    have h0 := h (by simp)
    simp at h0
    unfold insI
    rw [if_neg (by omega)]
    by_cases e : x = n <;> simp [e]
  | x :: l, n, k + 1, hk, h1, h2 => by
    have hx := h1 0 (by omega)
    simp at hx
    unfold insI
    rw [if_pos hx, insI_at (l := l) (n := n) (k := k) (by simpa using hk) (fun j hj => by simpa using h1 (j + 1) (by omega)) (fun hkl => by simpa using h2 (by simpa using hkl))]
    by_cases e : k < l.length ∧ l.getD k 0 = n
    · rw [if_pos e, if_pos (by simpa using e)]
    · rw [if_neg e, if_neg (by simpa using e)]
      simp

theorem insI_mem : ∀ {l : List Int} {n x : Int}, x ∈ insI l n ↔ x = n ∨ x ∈ l
  | [], n, x => by simp [insI]
  | y :: l, n, x => by
    unfold insI
    split
    · rw [List.mem_cons, insI_mem, List.mem_cons]
      constructor
      · rintro (h | h | h)
        · exact .inr (.inl h)
        · exact .inl h
        · exact .inr (.inr h)
      · rintro (h | h | h)
        · exact .inr (.inl h)
        · exact .inl h
        · exact .inr (.inr h)
    · split
      · rename_i e
        rw [List.mem_cons, e]
        constructor
        · rintro (h | h)
          · exact .inl h
          · exact .inr (.inr h)
        · rintro (h | h | h)
          · exact .inl h
          · exact .inl h
          · exact .inr h
      · rw [List.mem_cons]

theorem insI_len : ∀ (l : List Int) (n : Int), l.length ≤ (insI l n).length ∧ (insI l n).length ≤ l.length + 1
  | [], n => by simp [insI]
  | y :: l, n => by
    have := insI_len l n
    unfold insI
    split
    · simp only [List.length_cons]; omega
    · split <;> simp only [List.length_cons] <;> omega

theorem insI_has {l : List Int} {n : Int} (hs : l.Pairwise (· < ·)) (h : n ∈ l) : insI l n = l := by
  induction l with
  | nil => cases h
  | cons y l ih =>
    rw [List.pairwise_cons] at hs
    unfold insI
    rcases List.mem_cons.1 h with rfl | h
    · rw [if_neg (by omega), if_pos rfl]
    · rw [if_pos (hs.1 _ h), ih hs.2 h]

theorem insI_sorted {l : List Int} {n : Int} (hs : l.Pairwise (· < ·)) : (insI l n).Pairwise (· < ·) := by
  induction l with
  | nil => simp [insI]
  | cons y l ih =>
    rw [List.pairwise_cons] at hs
    unfold insI
    split
    · rename_i hy
      rw [List.pairwise_cons]
      refine ⟨fun x hx => ?_, ih hs.2⟩
      rcases insI_mem.1 hx with rfl | h
      · exact hy
      · exact hs.1 x h
    · split
      · rw [List.pairwise_cons]; exact hs
      · rename_i h1 h2
        rw [List.pairwise_cons, List.pairwise_cons]
        refine ⟨fun x hx => ?_, hs⟩
        rcases List.mem_cons.1 hx with rfl | h
        · omega
        · have := hs.1 x h; omega

theorem insI_new {l : List Int} {n : Int} (hs : l.Pairwise (· < ·)) (h : n ∉ l) : (insI l n).length = l.length + 1 := by
  induction l with
  | nil => simp [insI]
  | cons y l ih =>
    rw [List.pairwise_cons] at hs
    have hy : y ≠ n := fun e => h (by rw [e]; simp)
    unfold insI
    by_cases hlt : y < n
    · rw [if_pos hlt, List.length_cons, ih hs.2 (fun hm => h (List.mem_cons_of_mem _ hm)), List.length_cons]
    · rw [if_neg hlt, if_neg hy]; simp
end Go.Proofs.Ytdlbobpglgjhiaa
