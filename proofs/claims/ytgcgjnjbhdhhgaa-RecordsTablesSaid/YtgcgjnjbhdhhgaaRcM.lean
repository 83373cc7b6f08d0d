/- Plain mathematics of records: lists of validators, their encoding, and what a reader reads of them. -/
import Derived.Test.YtgcgjnjbhdhhgaaCdQ
set_option linter.unusedVariables false
namespace Go.Proofs.Ytgcgjnjbhdhhgaa
open Go.RowKit

/-! ### ValidateList -/
def okAt (l : List Int) (n : Int) (i : Nat) : Int :=
  if l.getD i 0 < 0 ∨ n ≤ l.getD i 0 then 3 else if 0 < i ∧ l.getD i 0 ≤ l.getD (i - 1) 0 then 8 else 0
def vlGo (l : List Int) (n : Int) : Nat → Nat → Int
  | 0, _ => 0
  | f + 1, i => if okAt l n i ≠ 0 then okAt l n i else vlGo l n f (i + 1)
def vlE (l : List Int) (n : Int) : Int := if l.length = 0 then 2 else vlGo l n l.length 0

theorem vlGo_next {l : List Int} {n : Int} {k : Nat} (hk : k < l.length) : vlGo l n (l.length - k) k = if okAt l n k ≠ 0 then okAt l n k else vlGo l n (l.length - (k + 1)) (k + 1) := by
  obtain ⟨f, hf⟩ : ∃ f, l.length - k = f + 1 := ⟨l.length - k - 1, by omega⟩
  rw [hf, vlGo, show l.length - (k + 1) = f by omega]

theorem vlGo_good {l : List Int} {n : Int} : ∀ f i, vlGo l n f i = 0 → ∀ j, i ≤ j → j < i + f → okAt l n j = 0
  | 0, i, _, j, h1, h2 => by omega
  | f + 1, i, h, j, h1, h2 => by
    rw [vlGo] at h
    by_cases h0 : okAt l n i = 0
    · rw [if_neg (by simpa using h0)] at h
      by_cases hj : j = i
      · subst hj; exact h0
      · exact vlGo_good f (i + 1) h j (by omega) (by omega)
    · rw [if_pos h0] at h; exact absurd h h0

theorem okAt_zero {l : List Int} {n : Int} {i : Nat} (h : okAt l n i = 0) : 0 ≤ l.getD i 0 ∧ l.getD i 0 < n ∧ (0 < i → l.getD (i - 1) 0 < l.getD i 0) := by
  unfold okAt at h
  split at h
  · cases h
  · rename_i h1
    split at h
    · cases h
    · rename_i h2
      exact ⟨by omega, by omega, fun h3 => by omega⟩

theorem okAt_of {l : List Int} {n : Int} {i : Nat} (h1 : 0 ≤ l.getD i 0) (h2 : l.getD i 0 < n) (h3 : 0 < i → l.getD (i - 1) 0 < l.getD i 0) : okAt l n i = 0 := by
  unfold okAt
  rw [if_neg (by omega), if_neg (by omega)]

theorem vl_good {l : List Int} {n : Int} (h : vlE l n = 0) : 0 < l.length ∧ ∀ i, i < l.length → 0 ≤ l.getD i 0 ∧ l.getD i 0 < n ∧ (0 < i → l.getD (i - 1) 0 < l.getD i 0) := by
  unfold vlE at h
  split at h
  · cases h
  · rename_i h0
    exact ⟨by omega, fun i hi => okAt_zero (vlGo_good _ _ h i (Nat.zero_le _) (by omega))⟩

theorem vlGo_of {l : List Int} {n : Int} : ∀ f i, (∀ j, i ≤ j → j < i + f → okAt l n j = 0) → vlGo l n f i = 0
  | 0, i, _ => rfl
  | f + 1, i, h => by
    rw [vlGo, if_neg (by simpa using h i (Nat.le_refl _) (by omega))]
    exact vlGo_of f (i + 1) fun j h1 h2 => h j (by omega) (by omega)

theorem vl_of {l : List Int} {n : Int} (h0 : 0 < l.length) (h : ∀ i, i < l.length → 0 ≤ l.getD i 0 ∧ l.getD i 0 < n ∧ (0 < i → l.getD (i - 1) 0 < l.getD i 0)) : vlE l n = 0 := by
  unfold vlE
  rw [if_neg (by omega)]
  exact vlGo_of _ _ fun j _ h2 => by have := h j (by omega); exact okAt_of this.1 this.2.1 this.2.2

theorem okAt_vals (l : List Int) (n : Int) (i : Nat) : okAt l n i = 0 ∨ okAt l n i = 3 ∨ okAt l n i = 8 := by
  unfold okAt; split
  · simp
  · split <;> simp
theorem vlGo_vals (l : List Int) (n : Int) : ∀ f i, vlGo l n f i = 0 ∨ vlGo l n f i = 3 ∨ vlGo l n f i = 8
  | 0, _ => .inl rfl
  | f + 1, i => by
    rw [vlGo]
    split
    · exact okAt_vals l n i
    · exact vlGo_vals l n f (i + 1)

/-! ### Encodings of sequences of numbers -/
def seqK (f : Nat → Int) : Nat → List Int
  | 0 => []
  | k + 1 => seqK f k ++ uenc (f k).toNat
def gap (l : List Int) (i : Nat) : Int := if i = 0 then l.getD 0 0 else l.getD i 0 - l.getD (i - 1) 0 - 1
/-- A list's encoding, up to element k. -/
def lencK (l : List Int) (k : Nat) : List Int := uenc l.length ++ seqK (gap l) k
def lenc (l : List Int) : List Int := lencK l l.length
def tencK (l : List Int) (k : Nat) : List Int := uenc l.length ++ seqK (fun i => l.getD i 0) k
def tenc (l : List Int) : List Int := tencK l l.length

theorem lencK_next (l : List Int) (k : Nat) : lencK l (k + 1) = lencK l k ++ uenc (gap l k).toNat := by simp [lencK, seqK]
theorem tencK_next (l : List Int) (k : Nat) : tencK l (k + 1) = tencK l k ++ uenc (l.getD k 0).toNat := by simp [tencK, seqK]

theorem seqK_len {f : Nat → Int} {n : Nat} (h : ∀ i, i < n → f i ≤ 18446744073709551615) : ∀ k, k ≤ n → (seqK f k).length ≤ 10 * k
  | 0, _ => by simp [seqK]
  | k + 1, hk => by
    have h1 := seqK_len h k (by omega)
    have h2 := uenc_len10 (n := (f k).toNat) (by have := h k (by omega); omega)
    rw [seqK, List.length_append]; omega

theorem seqK_byte (f : Nat → Int) : ∀ k, ∀ x ∈ seqK f k, 0 ≤ x ∧ x ≤ 255
  | 0 => by simp [seqK]
  | k + 1 => fun x hx => by
    rw [seqK, List.mem_append] at hx
    rcases hx with hx | hx
    · exact seqK_byte f k x hx
    · exact uenc_byte _ x hx

/-- What is still to come, from number i on, of k numbers in all. -/
def seqF (f : Nat → Int) : Nat → Nat → List Int
  | 0, _ => []
  | k + 1, i => uenc (f i).toNat ++ seqF f k (i + 1)
theorem seqK_F (f : Nat → Int) (t : List Int) : ∀ k i, seqK f i ++ (seqF f k i ++ t) = seqK f (i + k) ++ t
  | 0, i => by simp [seqF]
  | k + 1, i => by
    have := seqK_F f t k (i + 1)
    rw [show i + (k + 1) = i + 1 + k by omega, ← this, seqF, seqK]
    simp
theorem seqK_eq (f : Nat → Int) (k : Nat) : seqK f k = seqF f k 0 := by
  have := seqK_F f [] k 0
  simp [seqK] at this
  exact this.symm

theorem gap_good {l : List Int} {n : Int} (h : vlE l n = 0) {i : Nat} (hi : i < l.length) : 0 ≤ gap l i ∧ gap l i < n := by
  have h1 := (vl_good h).2 i hi
  unfold gap
  split
  · rename_i h0; subst h0; exact ⟨h1.1, h1.2.1⟩
  · rename_i h0
    have h2 := (vl_good h).2 (i - 1) (by omega)
    have := h1.2.2 (by omega)
    omega

/-! ### A reader's state -/
structure RS where
  r : List Int
  e : Int

def vU (m : Int) (s : RS) : Int := ruV s.r s.e m
def nU (m : Int) (s : RS) : RS := ⟨ruR s.r s.e m, ruE s.r s.e m⟩
def vW (s : RS) : List Int := wV s.r s.e
def nW (s : RS) : RS := ⟨tkR s.r s.e 32, tkE s.r s.e 32⟩
def vC (s : RS) : Array Value := cpX s.r s.e
def nC (s : RS) : RS := ⟨cpR s.r s.e, cpE s.r s.e⟩
def vB (s : RS) : Bool := bV s.r s.e
def nB (s : RS) : RS := ⟨bR s.r s.e, bE s.r s.e⟩
abbrev mxU : Int := 18446744073709551615

theorem nU_err {m : Int} {s : RS} (h : s.e ≠ 0) : nU m s = s := by
  unfold nU ruR ruE; rw [if_pos h, if_pos h]
theorem nW_err {s : RS} (h : s.e ≠ 0) : nW s = s := by
  unfold nW tkR tkE; rw [if_pos h, if_pos h]
theorem nB_err {s : RS} (h : s.e ≠ 0) : nB s = s := by
  unfold nB bR bE; rw [if_pos h, if_neg (fun h' => h h'.1)]
theorem nC_err {s : RS} (h : s.e ≠ 0) : nC s = s := by
  have e1 : cpE s.r s.e = s.e := by
    unfold cpE cpR1 cpE1 tkE ruE ruR
    simp only [if_pos h]
  unfold nC
  rw [e1]
  unfold cpR
  rw [e1, if_neg h]

/-- k numbers, none above m. -/
def stK (m : Int) (s : RS) : Nat → RS
  | 0 => s
  | k + 1 => nU m (stK m s k)
theorem stK_err {m : Int} {s : RS} (h : s.e ≠ 0) : ∀ k, stK m s k = s
  | 0 => rfl
  | k + 1 => by rw [stK, stK_err h k, nU_err h]
theorem stK_tail (m : Int) (s : RS) : ∀ k, stK m (nU m s) k = stK m s (k + 1)
  | 0 => rfl
  | k + 1 => by show nU m (stK m (nU m s) k) = nU m (stK m s (k + 1)); rw [stK_tail m s k]
theorem stK_add (m : Int) (s : RS) (j : Nat) : ∀ k, stK m (stK m s j) k = stK m s (j + k)
  | 0 => rfl
  | k + 1 => by rw [stK, stK_add m s j k]; rfl
theorem stK_err_at {m : Int} {s : RS} {j k : Nat} (h : (stK m s j).e ≠ 0) (hk : j ≤ k) : stK m s k = stK m s j := by
  obtain ⟨d, rfl⟩ := Nat.le.dest hk
  rw [← stK_add, stK_err h]

/-- The elements of a list that are read: each is told by its distance. -/
def elK (v : Nat → Int) : Nat → Int
  | 0 => v 0
  | k + 1 => elK v k + 1 + v (k + 1)
def lsV (s : RS) : List Int := (List.range (vU 1024 s).toNat).map (elK fun i => vU 1024 (stK 1024 (nU 1024 s) i))
def lsN (s : RS) : RS := stK 1024 (nU 1024 s) (vU 1024 s).toNat
def tbV (s : RS) : List Int := (List.range (vU 1024 s).toNat).map fun i => vU mxU (stK mxU (nU 1024 s) i)
def tbN (s : RS) : RS := stK mxU (nU 1024 s) (vU 1024 s).toNat

def byteL (l : List Int) : Prop := ∀ x ∈ l, 0 ≤ x ∧ x ≤ 255

theorem ruV_rng' {rest : List Int} {e most : Int} (h : byteL rest) (hm : 0 ≤ most) : 0 ≤ ruV rest e most ∧ ruV rest e most ≤ most := by
  have h1 := ruV_rng (rest := rest) (e := e) (most := most) (fun k hk => by
    have e1 : rest.getD k 0 = rest[k] := by simp [List.getD, List.getElem?_eq_getElem hk]
    rw [e1]; exact h _ (List.getElem_mem hk))
  refine ⟨h1.1, ?_⟩
  unfold ruV
  split
  · omega
  · split
    · omega
    · split
      · omega
      · omega

theorem vU_rng {m : Int} {s : RS} (h : byteL s.r) (hm : 0 ≤ m) : 0 ≤ vU m s ∧ vU m s ≤ m := ruV_rng' h hm
theorem nU_byte {m : Int} {s : RS} (h : byteL s.r) : byteL (nU m s).r := ruR_rng h
theorem stK_byte {m : Int} {s : RS} (h : byteL s.r) : ∀ k, byteL (stK m s k).r
  | 0 => h
  | k + 1 => nU_byte (stK_byte h k)
theorem nU_len (m : Int) (s : RS) : (nU m s).r.length ≤ s.r.length := ruR_len _ _ _
theorem stK_len (m : Int) (s : RS) : ∀ k, (stK m s k).r.length ≤ s.r.length
  | 0 => Nat.le_refl _
  | k + 1 => Nat.le_trans (nU_len m _) (stK_len m s k)

theorem elK_rng {v : Nat → Int} {m : Int} (h : ∀ i, 0 ≤ v i ∧ v i ≤ m) (hm : 0 ≤ m) : ∀ k, 0 ≤ elK v k ∧ elK v k ≤ (m + 1) * (k + 1)
  | 0 => by have := h 0; simp only [elK]; omega
  | k + 1 => by
    have h1 := elK_rng h hm k
    have h2 := h (k + 1)
    rw [elK]
    have e : (m + 1) * (((k + 1 : Nat) : Int) + 1) = (m + 1) * ((k : Int) + 1) + (m + 1) := by
      rw [show (((k + 1 : Nat) : Int) + 1) = ((k : Int) + 1) + 1 by omega, Int.mul_add, Int.mul_one]
    rw [e]
    omega

/-! ### What was written is read -/
theorem ru_back' (n : Nat) (m : Int) (hn : (n : Int) ≤ m) (hm : m ≤ 18446744073709551615) (t : List Int) : ruV (uenc n ++ t) 0 m = n ∧ ruR (uenc n ++ t) 0 m = t ∧ ruE (uenc n ++ t) 0 m = 0 := by
  unfold ruV ruR ruE
  rw [pu_back n (by omega) t]
  simp only [ne_eq, not_true_eq_false, if_false]
  rw [if_neg (by omega), if_neg (by omega), if_neg (by omega)]
  refine ⟨rfl, ?_, rfl⟩
  rw [Int.toNat_natCast, List.drop_left]

theorem U_back {n : Int} {m : Int} (h0 : 0 ≤ n) (hn : n ≤ m) (hm : m ≤ 18446744073709551615) (t : List Int) : vU m ⟨uenc n.toNat ++ t, 0⟩ = n ∧ nU m ⟨uenc n.toNat ++ t, 0⟩ = ⟨t, 0⟩ := by
  obtain ⟨h1, h2, h3⟩ := ru_back' n.toNat m (by omega) hm t
  refine ⟨?_, ?_⟩
  · show ruV _ _ _ = _; rw [h1, Int.toNat_of_nonneg h0]
  · unfold nU; simp only [h2, h3]

theorem W_back {r : List Int} (hr : r.length = 32) (t : List Int) : vW ⟨r ++ t, 0⟩ = r ∧ nW ⟨r ++ t, 0⟩ = ⟨t, 0⟩ := by
  obtain ⟨h1, h2, h3⟩ := tk_back hr t
  refine ⟨h1, ?_⟩
  unfold nW; simp only [h2, h3]

theorem C_back {n : Int} {r : List Int} (h0 : 0 ≤ n) (hn : n ≤ 18446744073709551615) (hr : r.length = 32) (t : List Int) : vC ⟨uenc n.toNat ++ (r ++ t), 0⟩ = cpV n r ∧ nC ⟨uenc n.toNat ++ (r ++ t), 0⟩ = ⟨t, 0⟩ := by
  obtain ⟨h1, h2, h3⟩ := ru_back' n.toNat 18446744073709551615 (by omega) (by omega) (r ++ t)
  obtain ⟨k1, k2, k3⟩ := tk_back hr t
  have hE : cpE (uenc n.toNat ++ (r ++ t)) 0 = 0 := by unfold cpE cpR1 cpE1; rw [h2, h3, k3]
  refine ⟨?_, ?_⟩
  · show cpX _ _ = _
    unfold cpX cpN cpR1 cpE1
    rw [hE, if_pos rfl, h1, h2, h3, k1, Int.toNat_of_nonneg h0]
  · unfold nC cpR cpR1 cpE1
    simp only [hE, if_true, h2, h3, k2]

theorem B_back (x : Bool) (t : List Int) : vB ⟨(if x then 1 else 0) :: t, 0⟩ = x ∧ nB ⟨(if x then 1 else 0) :: t, 0⟩ = ⟨t, 0⟩ := by
  obtain ⟨h1, h2, h3⟩ := bo_back x t
  refine ⟨h1, ?_⟩
  unfold nB; simp only [h2, h3]

theorem seq_back {f : Nat → Int} {m : Int} {n : Nat} (h : ∀ i, i < n → 0 ≤ f i ∧ f i ≤ m) (hm : m ≤ 18446744073709551615) (t : List Int) : ∀ k, k ≤ n →
    stK m ⟨seqK f n ++ t, 0⟩ k = ⟨seqF f (n - k) k ++ t, 0⟩
  | 0, _ => by rw [stK, seqK_eq, Nat.sub_zero]
  | k + 1, hk => by
    rw [stK, seq_back h hm t k (by omega)]
    obtain ⟨d, hd⟩ : ∃ d, n - k = d + 1 := ⟨n - k - 1, by omega⟩
    have hf := h k (by omega)
    rw [hd, seqF, List.append_assoc, (U_back hf.1 hf.2 hm _).2, show n - (k + 1) = d by omega]
theorem seq_val {f : Nat → Int} {m : Int} {n : Nat} (h : ∀ i, i < n → 0 ≤ f i ∧ f i ≤ m) (hm : m ≤ 18446744073709551615) (t : List Int) {k : Nat} (hk : k < n) :
    vU m (stK m ⟨seqK f n ++ t, 0⟩ k) = f k := by
  rw [seq_back h hm t k (by omega)]
  obtain ⟨d, hd⟩ : ∃ d, n - k = d + 1 := ⟨n - k - 1, by omega⟩
  have hf := h k hk
  rw [hd, seqF, List.append_assoc, (U_back hf.1 hf.2 hm _).1]

theorem elK_congr {v u : Nat → Int} : ∀ k, (∀ i, i ≤ k → v i = u i) → elK v k = elK u k
  | 0, h => h 0 (Nat.le_refl _)
  | k + 1, h => by rw [elK, elK, elK_congr k (fun i hi => h i (by omega)), h (k + 1) (Nat.le_refl _)]
theorem elK_gap (l : List Int) : ∀ k, elK (gap l) k = l.getD k 0
  | 0 => by simp [elK, gap]
  | k + 1 => by rw [elK, elK_gap l k, gap, if_neg (by omega)]; simp only [Nat.add_sub_cancel]; omega

theorem list_of_getD (l : List Int) : (List.range l.length).map (fun i => l.getD i 0) = l := by
  apply List.ext_getElem?
  intro i
  by_cases hi : i < l.length
  · rw [List.getElem?_map, List.getElem?_range hi, List.getElem?_eq_getElem hi]
    simp [List.getD, List.getElem?_eq_getElem hi]
  · rw [List.getElem?_eq_none (by simp; omega), List.getElem?_eq_none (by omega)]

/-- A list that was written is read. -/
theorem ls_back {l : List Int} (h : vlE l 1024 = 0) (hl : l.length ≤ 1024) (t : List Int) : lsV ⟨lenc l ++ t, 0⟩ = l ∧ lsN ⟨lenc l ++ t, 0⟩ = ⟨t, 0⟩ := by
  have hU := U_back (n := (l.length : Int)) (m := 1024) (by omega) (by omega) (by omega) (seqK (gap l) l.length ++ t)
  have hg : ∀ i, i < l.length → 0 ≤ gap l i ∧ gap l i ≤ 1024 := fun i hi => by have := gap_good h hi; omega
  rw [Int.toNat_natCast] at hU
  have e : lenc l ++ t = uenc l.length ++ (seqK (gap l) l.length ++ t) := by simp [lenc, lencK]
  unfold lsV lsN
  rw [e, hU.1, hU.2, Int.toNat_natCast]
  refine ⟨?_, ?_⟩
  · conv => rhs; rw [← list_of_getD l]
    apply List.map_congr_left
    intro i hi
    rw [List.mem_range] at hi
    rw [← elK_gap l i]
    exact elK_congr i fun j hj => seq_val hg (by omega) t (by omega)
  · rw [seq_back hg (by omega) t _ (Nat.le_refl _), Nat.sub_self]; rfl

theorem tb_back {l : List Int} (h : ∀ x ∈ l, 0 ≤ x ∧ x ≤ 18446744073709551615) (hl : l.length ≤ 1024) (t : List Int) : tbV ⟨tenc l ++ t, 0⟩ = l ∧ tbN ⟨tenc l ++ t, 0⟩ = ⟨t, 0⟩ := by
  have hU := U_back (n := (l.length : Int)) (m := 1024) (by omega) (by omega) (by omega) (seqK (fun i => l.getD i 0) l.length ++ t)
  have hg : ∀ i, i < l.length → 0 ≤ l.getD i 0 ∧ l.getD i 0 ≤ mxU := fun i hi => by
    have e : l.getD i 0 = l[i] := by simp [List.getD, List.getElem?_eq_getElem hi]
    rw [e]; exact h _ (List.getElem_mem hi)
  rw [Int.toNat_natCast] at hU
  have e : tenc l ++ t = uenc l.length ++ (seqK (fun i => l.getD i 0) l.length ++ t) := by simp [tenc, tencK]
  unfold tbV tbN
  rw [e, hU.1, hU.2, Int.toNat_natCast]
  refine ⟨?_, ?_⟩
  · conv => rhs; rw [← list_of_getD l]
    apply List.map_congr_left
    intro i hi
    rw [List.mem_range] at hi
    exact seq_val hg (by unfold mxU; omega) t (by omega)
  · rw [seq_back hg (by unfold mxU; omega) t _ (Nat.le_refl _), Nat.sub_self]; rfl

end Go.Proofs.Ytgcgjnjbhdhhgaa
