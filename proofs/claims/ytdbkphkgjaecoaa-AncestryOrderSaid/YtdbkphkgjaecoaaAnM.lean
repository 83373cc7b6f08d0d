/- Paths of valid trees, one step up: what the walks of ancestry's functions count on. -/
import Derived.Test.YtdbkphkgjaecoaaTrI
import Derived.Test.YtdbkphkgjaecoaaTrL
import Derived.Test.YtdbkphkgjaecoaaOwM
set_option linter.unusedVariables false

set_option linter.unusedSimpArgs false
namespace Go.Proofs.Ytdbkphkgjaecoaa
open Go.RowKit

set_option maxRecDepth 100000

theorem up_path {ns : List NdD} (h : TrOK ns) {k : Nat} (hk : k < ns.length) : -1 ≤ ns[k].up ∧ ns[k].up < k ∧ pathN ns (k : Int) = pathN ns ns[k].up ++ [(k : Int)] := by
  by_cases h0 : k = 0
  · subst h0
    have e := h.root hk
    rw [e]
    refine ⟨by omega, by omega, ?_⟩
    rw [show ((0 : Nat) : Int) = 0 from rfl, pathN_zero hk, pathN_out (by omega)]
    rfl
  · obtain ⟨h1, h2, h3⟩ := h.upAt hk (by omega)
    rw [h3]
    exact ⟨by omega, by omega, pathN_step h hk (by omega)⟩

theorem path_le {ns : List NdD} (h : TrOK ns) {i x : Int} (hx : x ∈ pathN ns i) : 0 ≤ x ∧ x ≤ i := by
  by_cases hi : 0 ≤ i ∧ i < ns.length
  · obtain ⟨k, rfl⟩ : ∃ k : Nat, i = k := ⟨i.toNat, by omega⟩
    exact pathN_mem h k (by omega) x hx
  · rw [pathN_out hi] at hx; cases hx

theorem path_node {ns : List NdD} {i x : Int} (hx : x ∈ pathN ns i) : 0 ≤ i ∧ i < ns.length := by
  by_cases hi : 0 ≤ i ∧ i < ns.length
  · exact hi
  · rw [pathN_out hi] at hx; cases hx

theorem path_self {ns : List NdD} (h : TrOK ns) {k : Nat} (hk : k < ns.length) : (k : Int) ∈ pathN ns (k : Int) := by
  rw [(up_path h hk).2.2]; simp

theorem path_up {ns : List NdD} (h : TrOK ns) {k : Nat} (hk : k < ns.length) {x : Int} : x ∈ pathN ns (k : Int) ↔ x ∈ pathN ns ns[k].up ∨ x = k := by
  rw [(up_path h hk).2.2, List.mem_append, List.mem_singleton]

theorem path_pw {ns : List NdD} (h : TrOK ns) : ∀ i : Nat, i < ns.length → (pathN ns (i : Int)).Pairwise (· < ·) := by
  intro i
  induction i using Nat.strongRecOn with
  | ind i ih =>
    intro hi
    obtain ⟨h1, h2, h3⟩ := up_path h hi
    rw [h3, List.pairwise_append]
    refine ⟨?_, List.pairwise_singleton _ _, fun x hx y hy => ?_⟩
    · by_cases hu : 0 ≤ ns[i].up
      · obtain ⟨u, hu⟩ : ∃ u : Nat, ns[i].up = u := ⟨ns[i].up.toNat, by omega⟩
        rw [hu]
        exact ih u (by omega) (by omega)
      · rw [pathN_out (by omega)]; exact List.Pairwise.nil
    · rw [List.mem_singleton.1 hy]
      have := path_le h hx; omega

/-- An ancestor that is smaller is one of the parent. -/
theorem isan_step {ns : List NdD} (h : TrOK ns) {k : Nat} (hk : k < ns.length) {a : Int} (ha : a < k) : decide (a ∈ pathN ns (k : Int)) = decide (a ∈ pathN ns ns[k].up) := by
  apply Bool.eq_iff_iff.2
  rw [decide_eq_true_iff, decide_eq_true_iff, path_up h hk]
  exact ⟨fun h => h.resolve_right (by omega), .inl⟩

theorem isan_end {ns : List NdD} (h : TrOK ns) {b a : Int} (hb : 0 ≤ b ∧ b < ns.length) (ha : ¬ a < b) : decide (a ∈ pathN ns b) = (b == a) := by
  obtain ⟨k, rfl⟩ : ∃ k : Nat, b = k := ⟨b.toNat, by omega⟩
  apply Bool.eq_iff_iff.2
  rw [decide_eq_true_iff, beq_iff_eq]
  refine ⟨fun hx => ?_, fun e => ?_⟩
  · have := path_le h hx; omega
  · rw [← e]; exact path_self h (by omega)
/-! ### At -/

theorem atK_app (ns : List NdD) (l r : List Int) (s : Int) : ∀ j, j ≤ l.length → atK ns (l ++ r) s j = atK ns l s j
  | 0, _ => rfl
  | j + 1, h => by
    have e : (l ++ r).getD j 0 = l.getD j 0 := by simp [List.getD, List.getElem?_append_left (show j < l.length by omega)]
    show (if slotAt ns ((l ++ r).getD j 0) ≤ s then (l ++ r).getD j 0 else atK ns (l ++ r) s j) = (if slotAt ns (l.getD j 0) ≤ s then l.getD j 0 else atK ns l s j)
    rw [e, atK_app ns l r s j (by omega)]

theorem atP_out {ns : List NdD} {i s : Int} (h : ¬ (0 ≤ i ∧ i < ns.length)) : atP ns i s = -1 := by
  unfold atP; rw [pathN_out h]; rfl

theorem atP_step {ns : List NdD} (h : TrOK ns) {k : Nat} (hk : k < ns.length) (s : Int) : atP ns (k : Int) s = if ns[k].b.slot ≤ s then (k : Int) else atP ns ns[k].up s := by
  unfold atP
  rw [(up_path h hk).2.2, List.length_append]
  have e : (pathN ns ns[k].up ++ [(k : Int)]).getD (pathN ns ns[k].up).length 0 = k := by simp [List.getD]
  have es : slotAt ns (k : Int) = ns[k].b.slot := by simp [slotAt, List.getElem?_eq_getElem hk]
  show (if slotAt ns ((pathN ns ns[k].up ++ [(k : Int)]).getD (pathN ns ns[k].up).length 0) ≤ s then _ else atK ns _ s _) = _
  rw [e, es, atK_app _ _ _ _ _ (Nat.le_refl _)]
/-! ### Heir -/

theorem getD_app_l {l : List Int} {b : Int} {k : Nat} (h : k < l.length) : (l ++ [b]).getD k 0 = l.getD k 0 := by
  simp [List.getD, List.getElem?_append_left h]

theorem heirF_no {l : List Int} {a : Int} : ∀ f k, 1 ≤ k → (∀ j, k ≤ j → j < l.length → l.getD (j - 1) 0 ≠ a) → heirF l a f k = -1
  | 0, _, _, _ => rfl
  | f + 1, k, h1, h2 => by
    show (if k < l.length then (if l.getD (k - 1) 0 = a then l.getD k 0 else heirF l a f (k + 1)) else -1) = -1
    by_cases hk : k < l.length
    · rw [if_pos hk, if_neg (h2 k (Nat.le_refl _) hk)]
      exact heirF_no f (k + 1) (by omega) (fun j h3 h4 => h2 j (by omega) h4)
    · rw [if_neg hk]

theorem heirF_app {l : List Int} {a b : Int} : ∀ f k, 1 ≤ k → (∃ j, k ≤ j ∧ j < l.length ∧ l.getD (j - 1) 0 = a) → l.length ≤ f + k → ∀ g, l.length ≤ g + k → heirF (l ++ [b]) a f k = heirF l a g k
  | 0, k, _, ⟨j, h1, h2, _⟩, h3, _, _ => by omega
  | f + 1, k, h0, ⟨j, h1, h2, h4⟩, h3, g, h5 => by
    obtain ⟨g, rfl⟩ : ∃ x, g = x + 1 := ⟨g - 1, by omega⟩
    have hk : k < l.length := by omega
    show (if k < (l ++ [b]).length then (if (l ++ [b]).getD (k - 1) 0 = a then (l ++ [b]).getD k 0 else heirF (l ++ [b]) a f (k + 1)) else -1) = (if k < l.length then (if l.getD (k - 1) 0 = a then l.getD k 0 else heirF l a g (k + 1)) else -1)
    rw [if_pos (by rw [List.length_append]; omega), if_pos hk, getD_app_l hk, getD_app_l (by omega)]
    by_cases he : l.getD (k - 1) 0 = a
    · rw [if_pos he, if_pos he]
    · rw [if_neg he, if_neg he]
      have hjk : j ≠ k := fun e => he (by rw [← e]; exact h4)
      exact heirF_app f (k + 1) (by omega) ⟨j, by omega, h2, h4⟩ (by omega) g (by omega)

theorem heirF_last {l : List Int} {a b : Int} : ∀ f k, 1 ≤ k → k ≤ l.length → (∀ j, k ≤ j → j < l.length → l.getD (j - 1) 0 ≠ a) → l.getD (l.length - 1) 0 = a → l.length < f + k → heirF (l ++ [b]) a f k = b
  | 0, k, _, _, _, _, h => by omega
  | f + 1, k, h0, h1, h2, h3, h4 => by
    show (if k < (l ++ [b]).length then (if (l ++ [b]).getD (k - 1) 0 = a then (l ++ [b]).getD k 0 else heirF (l ++ [b]) a f (k + 1)) else -1) = b
    rw [if_pos (by rw [List.length_append]; simp; omega), getD_app_l (by omega)]
    by_cases hk : k = l.length
    · subst hk
      rw [if_pos h3]
      simp [List.getD]
    · rw [if_neg (h2 k (Nat.le_refl _) (by omega))]
      exact heirF_last f (k + 1) (by omega) (by omega) (fun j h5 h6 => h2 j (by omega) h6) h3 (by omega)

theorem heirN_no {ns : List NdD} (h : TrOK ns) {k : Nat} (hk : k < ns.length) {a : Int} (ha : a ∉ pathN ns ns[k].up) : heirN ns a (k : Int) = -1 := by
  unfold heirN
  rw [(up_path h hk).2.2]
  refine heirF_no _ _ (Nat.le_refl _) fun j h1 h2 => ?_
  rw [List.length_append, List.length_singleton] at h2
  rw [getD_app_l (by omega)]
  exact fun e => ha (by rw [← e]; exact getD_mem (by omega))

theorem heirN_out {ns : List NdD} {a b : Int} (hb : ¬ (0 ≤ b ∧ b < ns.length)) : heirN ns a b = -1 := by unfold heirN; rw [pathN_out hb]; rfl

theorem heirN_up {ns : List NdD} (h : TrOK ns) {k : Nat} (hk : k < ns.length) {a : Int} (ha : a ∈ pathN ns ns[k].up) : heirN ns a (k : Int) = if ns[k].up = a then (k : Int) else heirN ns a ns[k].up := by
  obtain ⟨h1, h2, h3⟩ := up_path h hk
  have hr := path_node ha
  obtain ⟨u, hu⟩ : ∃ u : Nat, ns[k].up = u := ⟨ns[k].up.toNat, by omega⟩
  rw [hu] at ha h3 hr ⊢
  have hul : u < ns.length := by omega
  obtain ⟨g1, g2, g3⟩ := up_path h hul
  unfold heirN
  rw [h3]
  by_cases e : (u : Int) = a
  · rw [if_pos e]
    have hpl : 0 < (pathN ns (u : Int)).length := List.length_pos_of_mem ha
    refine heirF_last _ _ (Nat.le_refl _) hpl (fun j h4 h5 => ?_) ?_ (by rw [List.length_append, List.length_singleton]; omega)
    · rw [g3, List.length_append, List.length_singleton] at h5
      rw [g3, getD_app_l (by omega), ← e]
      intro e2
      have := path_le h (getD_mem (show j - 1 < (pathN ns ns[u].up).length by omega))
      omega
    · rw [g3, ← e]; simp [List.getD]
  · rw [if_neg e]
    rw [path_up h hul] at ha
    have ha := ha.resolve_right (fun x => e x.symm)
    obtain ⟨i, hi, hx⟩ := List.mem_iff_getElem.1 ha
    refine heirF_app _ _ (Nat.le_refl _) ⟨i + 1, by omega, ?_, ?_⟩ (by rw [List.length_append]; omega) _ (by omega)
    · rw [g3, List.length_append]; simp; omega
    · rw [g3, Nat.add_sub_cancel, getD_app_l hi, ← hx]; simp [List.getD, hi]
/-! ### Common -/

theorem allK_iff {ns : List NdD} {l : List Int} {a : Int} : ∀ {j : Nat}, allK ns l a j = true ↔ ∀ i, i < j → a ∈ pathN ns (l.getD i 0)
  | 0 => by simp [allK]
  | j + 1 => by
    rw [allK_succ, Bool.and_eq_true, allK_iff, decide_eq_true_iff]
    constructor
    · rintro ⟨h1, h2⟩ i hi
      by_cases e : i = j
      · rw [e]; exact h2
      · exact h1 i (by omega)
    · exact fun h => ⟨fun i hi => h i (by omega), h j (by omega)⟩

theorem allK_mem {ns : List NdD} {l : List Int} {a : Int} : allK ns l a l.length = true ↔ ∀ y ∈ l, a ∈ pathN ns y := by
  rw [allK_iff]
  constructor
  · intro h y hy
    obtain ⟨i, hi, rfl⟩ := List.mem_iff_getElem.1 hy
    have := h i hi
    rwa [show l.getD i 0 = l[i] by simp [List.getD, hi]] at this
  · exact fun h i hi => h _ (getD_mem hi)

theorem comK_spec (ns : List NdD) (l p : List Int) : ∀ k, (comK ns l p k = -1 ∧ ∀ j, j < k → allK ns l (p.getD j 0) l.length = false) ∨ ∃ j, j < k ∧ comK ns l p k = p.getD j 0 ∧ allK ns l (p.getD j 0) l.length = true ∧ ∀ i, j < i → i < k → allK ns l (p.getD i 0) l.length = false
  | 0 => .inl ⟨rfl, fun j hj => by omega⟩
  | k + 1 => by
    cases h : allK ns l (p.getD k 0) l.length
    · rw [comK_no h]
      rcases comK_spec ns l p k with ⟨h1, h2⟩ | ⟨j, h1, h2, h3, h4⟩
      · refine .inl ⟨h1, fun j hj => ?_⟩
        by_cases e : j = k
        · rw [e]; exact h
        · exact h2 j (by omega)
      · refine .inr ⟨j, by omega, h2, h3, fun i h5 h6 => ?_⟩
        by_cases e : i = k
        · rw [e]; exact h
        · exact h4 i h5 (by omega)
    · rw [comK_yes h]
      exact .inr ⟨k, by omega, rfl, h, fun i h5 h6 => by omega⟩

theorem comN_of {ns : List NdD} (hok : TrOK ns) {l : List Int} (hl : 0 < l.length) {c : Nat} (hc : c < ns.length) (h : ∀ x, x ∈ pathN ns (c : Int) ↔ ∀ y ∈ l, x ∈ pathN ns y) : comN ns l = c := by
  have hself := (h _).1 (path_self hok hc)
  have h0 := hself _ (getD_mem hl)
  have hr := path_node h0
  unfold comN
  rw [if_neg (by omega), if_pos hr]
  obtain ⟨z, hz⟩ : ∃ z : Nat, l.getD 0 0 = z := ⟨(l.getD 0 0).toNat, by omega⟩
  rw [hz] at h0 hr ⊢
  have hpw := path_pw hok z (by omega)
  obtain ⟨P, hP⟩ : ∃ P, pathN ns (z : Int) = P := ⟨_, rfl⟩
  rw [hP] at h0 hpw ⊢
  obtain ⟨i0, hi0, hx0⟩ := List.mem_iff_getElem.1 h0
  have hg0 : P.getD i0 0 = c := by rw [← hx0]; simp [List.getD, hi0]
  rcases comK_spec ns l P P.length with ⟨_, h2⟩ | ⟨j, h1, h2, h3, h4⟩
  · have := h2 i0 hi0
    rw [hg0, allK_mem.2 hself] at this; cases this
  · rw [h2]
    have hmem := path_le hok ((h _).2 (allK_mem.1 h3))
    rcases Nat.lt_trichotomy i0 j with hlt | he | hgt
    · have := List.pairwise_iff_getElem.1 hpw i0 j hi0 h1 hlt
      have e2 : P.getD j 0 = P[j] := by simp [List.getD, h1]
      rw [e2] at hmem
      omega
    · rw [← he]; exact hg0
    · have := h4 i0 hgt hi0
      rw [hg0, allK_mem.2 hself] at this; cases this

theorem comN_nil (ns : List NdD) : comN ns [] = -1 := by unfold comN; rw [if_pos (by rfl)]

theorem comN_bad {ns : List NdD} {l : List Int} {y : Int} (hy : y ∈ l) (hb : ¬ (0 ≤ y ∧ y < ns.length)) : comN ns l = -1 := by
  unfold comN
  split
  · rfl
  · split
    · rcases comK_spec ns l (pathN ns (l.getD 0 0)) (pathN ns (l.getD 0 0)).length with ⟨h1, _⟩ | ⟨j, h1, h2, h3, h4⟩
      · exact h1
      · have := allK_mem.1 h3 y hy
        rw [pathN_out hb] at this; cases this
    · rfl

theorem mem_take_succ {l : List Int} {k : Nat} (hk : k < l.length) {y : Int} : y ∈ l.take (k + 1) ↔ y ∈ l.take k ∨ y = l.getD k 0 := by
  rw [List.take_add_one, List.mem_append, List.getElem?_eq_getElem hk]
  simp [List.getD, hk]
/-! ### Descendants -/

theorem selK_none {p : Nat → Bool} : ∀ {k : Nat}, (∀ j, j < k → p j = false) → selK p k = []
  | 0, _ => rfl
  | k + 1, h => by rw [selK_no (h k (by omega)), selK_none (fun j hj => h j (by omega))]

theorem desc_out {ns : List NdD} (h : TrOK ns) {i : Int} (hi : ¬ (0 ≤ i ∧ i < ns.length)) : descN ns i = [] := by
  unfold descN
  refine selK_none fun j hj => decide_eq_false fun hx => hi ?_
  have := pathN_rng h _ _ hx
  omega

/-- The marks up to place k. -/
def undL (ns : List NdD) (i : Int) (m k : Nat) : List Bool := (List.range m).map fun j => decide (j < k) && decide (i ∈ pathN ns (j : Int))

theorem undL_len (ns : List NdD) (i : Int) (m k : Nat) : (undL ns i m k).length = m := by simp [undL]

theorem undL_get {ns : List NdD} {i : Int} {m k j : Nat} (h : j < m) (hk : j < k) : (undL ns i m k).getD j false = decide (i ∈ pathN ns (j : Int)) := by
  simp [undL, List.getD, h, hk]

theorem undL_no {ns : List NdD} {i : Int} {m k : Nat} (h : decide (i ∈ pathN ns (k : Int)) = false) : undL ns i m (k + 1) = undL ns i m k := by
  refine List.map_congr_left fun j hj => ?_
  by_cases e : j = k
  · subst e; rw [h]; simp
  · have : decide (j < k + 1) = decide (j < k) := by apply Bool.eq_iff_iff.2; simp; omega
    rw [this]

theorem undL_set {ns : List NdD} {i : Int} {m k : Nat} (h : decide (i ∈ pathN ns (k : Int)) = true) : (undL ns i m k).set k true = undL ns i m (k + 1) := by
  apply List.ext_getElem?
  intro j
  rw [List.getElem?_set, undL_len]
  by_cases hj : j < m
  · have e1 : (undL ns i m (k + 1))[j]? = some (decide (j < k + 1) && decide (i ∈ pathN ns (j : Int))) := by simp [undL, hj]
    have e2 : (undL ns i m k)[j]? = some (decide (j < k) && decide (i ∈ pathN ns (j : Int))) := by simp [undL, hj]
    rw [e1, e2]
    by_cases e : k = j
    · subst e; simp [hj, h]
    · have : decide (j < k + 1) = decide (j < k) := by apply Bool.eq_iff_iff.2; simp; omega
      rw [if_neg e, this]
  · rw [List.getElem?_eq_none (by rw [undL_len]; omega), List.getElem?_eq_none (by rw [undL_len]; omega)]
    by_cases e : k = j
    · subst e; simp [hj]
    · simp [e]

theorem undL_zero (ns : List NdD) (i : Int) (m : Nat) : List.replicate m false = undL ns i m 0 := by
  apply List.ext_getElem?
  intro j
  simp only [undL, List.getElem?_replicate, List.getElem?_map, List.getElem?_range']
  by_cases h : j < m
  · simp [h]
  · simp [h]

theorem undL_skip {ns : List NdD} (hok : TrOK ns) {i : Nat} (m : Nat) : ∀ {k : Nat}, k ≤ i → undL ns (i : Int) m k = undL ns (i : Int) m 0
  | 0, _ => rfl
  | k + 1, h => by
    rw [undL_no, undL_skip hok m (by omega)]
    exact decide_eq_false fun hx => by have := path_le hok hx; omega

theorem undL_first {ns : List NdD} (hok : TrOK ns) {i : Nat} (hi : i < ns.length) (m : Nat) : (List.replicate m false).set i true = undL ns (i : Int) m (i + 1) := by
  rw [undL_zero ns (i : Int) m, ← undL_skip hok m (Nat.le_refl i)]
  exact undL_set (decide_eq_true (path_self hok hi))

theorem selK_first {ns : List NdD} (hok : TrOK ns) {i : Nat} (hi : i < ns.length) : selK (fun k => decide ((i : Int) ∈ pathN ns (k : Int))) (i + 1) = [(i : Int)] := by
  rw [selK_yes (by exact decide_eq_true (path_self hok hi)), selK_none (fun j hj => decide_eq_false fun hx => by have := path_le hok hx; omega)]
  rfl
end Go.Proofs.Ytdbkphkgjaecoaa
