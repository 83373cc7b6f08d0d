/- The reader's Uint and take. -/
import Derived.Test.YtmnojgdfbhdkhaaCdR
set_option linter.unusedVariables false
namespace Go.Proofs.Ytmnojgdfbhdkhaa
open Go.RowKit
variable {lo : Nat}

theorem Byt.take {w : World} {a : Option Addr} {l c k : Nat} {xs : List Int} (h : Byt w (.slice a l c) xs) (hk : k ≤ l) : Byt w (.slice a k c) (xs.take k) := by
  obtain ⟨a', l', c', e, hl, hm, hr⟩ := h.ints
  cases e
  refine ⟨⟨_, _, _, rfl, by rw [List.length_take]; omega, by omega, ?_⟩, fun x hx => h.rng x (List.mem_of_mem_take hx), fun a' l' c' e => by cases e; have := h.fits _ _ _ rfl; omega⟩
  by_cases h0 : k = 0
  · exact .inl h0
  rcases hr with hr | ⟨b, off, rfl, hb, hc⟩
  · omega
  · refine .inr ⟨b, off, rfl, hb, fun i hi => ?_⟩
    rw [hc i (by omega)]
    simp [List.getD, hi]

theorem Byt.drop {w : World} {a : Option Addr} {l c k : Nat} {xs : List Int} (h : Byt w (.slice a l c) xs) (hk : k ≤ l) : Byt w (.slice (if c = k then a else a.map (·.add k)) (l - k) (c - k)) (xs.drop k) := by
  obtain ⟨a', l', c', e, hl, hm, hr⟩ := h.ints
  cases e
  refine ⟨⟨_, _, _, rfl, by rw [List.length_drop]; omega, by omega, ?_⟩, fun x hx => h.rng x (List.mem_of_mem_drop hx), fun a' l' c' e => by cases e; have := h.fits _ _ _ rfl; omega⟩
  by_cases h0 : l - k = 0
  · exact .inl h0
  have hck := (h.fits _ _ _ rfl).1
  rw [if_neg (by omega)]
  rcases hr with hr | ⟨b, off, rfl, hb, hc⟩
  · omega
  · refine .inr ⟨b, off + k, by simp [Addr.add], hb, fun i hi => ?_⟩
    rw [Nat.add_assoc, hc (k + i) (by omega)]
    simp [List.getD]

theorem far_map {a : Option Addr} {l s g : Nat} (h : ∀ x, a = some x → 0 < l → InR lo g x.block) (hs : s ≤ l) : ∀ x, a.map (·.add s) = some x → 0 < l - s → InR lo g x.block := by
  intro x hx h0
  cases a with
  | none => cases hx
  | some y =>
    have e : y.add s = x := by simpa using hx
    subst e
    have := h y rfl (by omega)
    have eb : (y.add s).block = y.block := by unfold Addr.add; split <;> rfl
    rw [eb]; exact this

theorem pu_rng (xs : List Int) (hr : ∀ k, k < xs.length → 0 ≤ xs.getD k 0 ∧ xs.getD k 0 ≤ 255) : ∀ f i, f + i = 10 → 0 ≤ (pu xs f i).1 ∧ (pu xs f i).1 ≤ 18446744073709551615 ∧ 0 ≤ (pu xs f i).2.1 ∧ (pu xs f i).2.1 ≤ xs.length ∧ ((pu xs f i).2.2 = 0 ∨ (pu xs f i).2.2 = 2 ∨ (pu xs f i).2.2 = 5)
  | 0, i, _ => by simp [pu]
  | f + 1, i, hf => by
    rw [pu]
    split
    · simp
    · rename_i hlt
      split
      · exact pu_rng xs hr f (i + 1) (by omega)
      · rename_i h128
        split
        · simp
        · rename_i hbad
          have ha := accU_rng xs (i + 1)
          have hx := hr i (by omega)
          have hb : accU xs (i + 1) ≤ 18446744073709551615 := by
            by_cases h9 : i = 9
            · subst h9
              have h1 := accU_rng xs 9
              rw [accU]
              have e1 : (2 : Int) ^ (7 * 9) = 9223372036854775808 := by decide +kernel
              rw [e1] at h1 ⊢
              generalize xs.getD 9 0 = x at *
              omega
            · have h2 : (2 : Int) ^ (7 * (i + 1)) ≤ 2 ^ 63 := by
                have : (2 : Nat) ^ (7 * (i + 1)) ≤ 2 ^ 63 := Nat.pow_le_pow_right (by decide) (by omega)
                exact_mod_cast this
              have e2 : (2 : Int) ^ 63 = 9223372036854775808 := by decide +kernel
              rw [e2] at h2
              have := ha.2
              omega
          refine ⟨ha.1, hb, by simp only []; omega, by simp only []; omega, .inl rfl⟩

/-- Uint: value, bytes left, error. -/
def ruV (rest : List Int) (e most : Int) : Int := if e ≠ 0 then 0 else if (pu rest 10 0).2.2 ≠ 0 then 0 else if most < (pu rest 10 0).1 then 0 else (pu rest 10 0).1
def ruR (rest : List Int) (e most : Int) : List Int := if e ≠ 0 then rest else if (pu rest 10 0).2.2 ≠ 0 then rest else if most < (pu rest 10 0).1 then rest else rest.drop (pu rest 10 0).2.1.toNat
def ruE (rest : List Int) (e most : Int) : Int := if e ≠ 0 then e else if (pu rest 10 0).2.2 ≠ 0 then (pu rest 10 0).2.2 else if most < (pu rest 10 0).1 then 3 else 0

/-- What a reading method promises. -/
def Reads (lo : Nat) (w : World) (g : Nat) (v : Value) (rest : List Int) (e : Int) (en : Ending) (w' : World) : Prop := en = .returned v ∧ Rdr lo w' g rest e ∧ w.grownBy w' (some g)

set_option maxRecDepth 100000 in
set_option maxHeartbeats 2000000 in
theorem uint_any (g : Nat) (rest : List Int) (e most : Int) (w : World) (h : Rdr lo w g rest e) (hm0 : 0 ≤ most) (hm1 : most ≤ 18446744073709551615) :
    Calls Try.prog 76 #[.pointer (some ⟨g, 0, none⟩), .int .u64 most] w (Reads lo w g (.int .u64 (ruV rest e most)) (ruR rest e most) (ruE rest e most)) := by
  have HR := Lib.hid h
  obtain ⟨a, l, c, hB, hY, hF⟩ := h
  have hP := pu_rng rest (fun k hk => hY.at hk) 10 0 rfl
  have D := parse_any (.slice a l c) rest w hY
  have hll : rest.length = l := by
    obtain ⟨a', l', c', e', hl, _⟩ := hY.ints
    cases e'; exact hl
  have hfits := hY.fits _ _ _ rfl
  unfold maxLen at hfits
  obtain ⟨c0, c1, c2⟩ := Rdr.two hB
  have HY := Lib.hid hY; clear hY hB
  have HF := Lib.hid hF; clear hF
  unfold ruV ruR ruE
  generalize pu rest 10 0 = r at *
  obtain ⟨n, s, er⟩ := r
  simp only at hP D ⊢
  obtain ⟨n0, n1, s0, s1, her⟩ := hP
  rw [hll] at s1
  obtain ⟨s, rfl⟩ := Int.eq_ofNat_of_zero_le s0
  rw [Int.toNat_natCast]
  have HD := Lib.hid D; clear D hll
  by_cases he : e = 0
  case neg =>
    rw [if_pos he, if_pos he, if_pos he]
    have hne : (e != 0) = true := by simpa using he
    have he' : (e == 0) = false := by simpa using he
    clear her
    go_enter Try.func76, Try.ntmps76
    go_wp2_with fail
    go_ret
    exact ⟨rfl, HR.out, World.grownBy.rfl' _ _⟩
  subst he
  simp only [ne_eq, not_true_eq_false, if_false]
  by_cases h1 : er = 0
  case neg =>
    rw [if_pos h1, if_pos h1, if_pos h1]
    clear her
    have hne : (er != 0) = true := by simpa using h1
    have hne2 : (er == 0) = false := by simpa using h1
    go_enter Try.func76, Try.ntmps76
    go_wp2_with (go_at_call 96; refine HD.out.mono ?_; rintro e w1 ⟨rfl, rfl⟩)
    go_ret
    exact ⟨rfl, HR.out.setErr, grownBy_set⟩
  subst h1
  simp only [not_true_eq_false, if_false]
  clear her
  by_cases h2 : most < n
  · rw [if_pos h2, if_pos h2, if_pos h2]
    go_enter Try.func76, Try.ntmps76
    go_wp2_with (go_at_call 96; refine HD.out.mono ?_; rintro e w1 ⟨rfl, rfl⟩)
    go_ret
    exact ⟨rfl, HR.out.setErr, grownBy_set⟩
  · rw [if_neg h2, if_neg h2, if_neg h2]
    have HD1 : Hid (c = s → Byt w (.slice a (l - s) 0) (rest.drop s)) := fun h => by
      have := HY.out.drop (k := s) (by omega)
      rw [if_pos h, show c - s = 0 by omega] at this
      exact this
    have HD2 : Hid (¬ c = s → Byt w (.slice (a.map (·.add s)) (l - s) (c - s)) (rest.drop s)) := fun h => by
      have := HY.out.drop (k := s) (by omega)
      rwa [if_neg h] at this
    go_enter Try.func76, Try.ntmps76
    go_wp2_with (go_at_call 96; refine HD.out.mono ?_; rintro e w1 ⟨rfl, rfl⟩)
    · go_ret
      exact ⟨rfl, HR.out.setRest (HD1.out (by omega)) (fun x hx h0 => HF.out x hx (by omega)), grownBy_set⟩
    · go_ret
      exact ⟨rfl, HR.out.setRest (HD2.out (by omega)) (far_map HF.out (by omega)), grownBy_set⟩

/-- take: value, bytes left, error. -/
def tkR (rest : List Int) (e n : Int) : List Int := if e ≠ 0 then rest else if (rest.length : Int) < n then rest else rest.drop n.toNat
def tkE (rest : List Int) (e n : Int) : Int := if e ≠ 0 then e else if (rest.length : Int) < n then 5 else 0
def tkV (rest : List Int) (e n : Int) : List Int := if e ≠ 0 then [] else if (rest.length : Int) < n then [] else rest.take n.toNat

def Takes (lo : Nat) (w : World) (g : Nat) (ys rest : List Int) (e : Int) (en : Ending) (w' : World) : Prop :=
  ∃ a l c, en = .returned (.slice a l c) ∧ Byt w' (.slice a l c) ys ∧ (∀ x, a = some x → 0 < l → InR lo g x.block) ∧ Rdr lo w' g rest e ∧ w.grownBy w' (some g)

set_option maxRecDepth 100000 in
set_option maxHeartbeats 2000000 in
theorem take_any (g : Nat) (rest : List Int) (e n : Int) (w : World) (h : Rdr lo w g rest e) (hm0 : 0 ≤ n) (hm1 : n ≤ 18446744073709551615) :
    Calls Try.prog 115 #[.pointer (some ⟨g, 0, none⟩), .int .u64 n] w (Takes lo w g (tkV rest e n) (tkR rest e n) (tkE rest e n)) := by
  have HR := Lib.hid h
  obtain ⟨a, l, c, hB, hY, hF⟩ := h
  have hll : rest.length = l := by
    obtain ⟨a', l', c', e', hl, _⟩ := hY.ints
    cases e'; exact hl
  have hfits := hY.fits _ _ _ rfl
  unfold maxLen at hfits
  obtain ⟨c0, c1, c2⟩ := Rdr.two hB
  have HY := Lib.hid hY; clear hY hB
  have HF := Lib.hid hF; clear hF
  unfold tkV tkR tkE
  rw [hll]
  clear hll
  by_cases he : e = 0
  case neg =>
    rw [if_pos he, if_pos he, if_pos he]
    have hne : (e != 0) = true := by simpa using he
    go_enter Try.func115, Try.ntmps115
    go_wp2_with fail
    go_ret
    exact ⟨none, 0, 0, rfl, byt_nil _, (fun x hx => by cases hx), HR.out, World.grownBy.rfl' _ _⟩
  subst he
  simp only [ne_eq, not_true_eq_false, if_false]
  by_cases h2 : (l : Int) < n
  · rw [if_pos h2, if_pos h2, if_pos h2]
    go_enter Try.func115, Try.ntmps115
    go_wp2_with fail
    go_ret
    exact ⟨none, 0, 0, rfl, byt_nil _, (fun x hx => by cases hx), HR.out.setErr, grownBy_set⟩
  · rw [if_neg h2, if_neg h2, if_neg h2]
    obtain ⟨s, rfl⟩ := Int.eq_ofNat_of_zero_le hm0
    rw [Int.toNat_natCast]
    have hs : s ≤ l := by omega
    have HD1 : Hid (c = s → Byt w (.slice a (l - s) 0) (rest.drop s)) := fun h => by
      have := HY.out.drop (k := s) (by omega)
      rw [if_pos h, show c - s = 0 by omega] at this
      exact this
    have HD2 : Hid (¬ c = s → Byt w (.slice (a.map (·.add s)) (l - s) (c - s)) (rest.drop s)) := fun h => by
      have := HY.out.drop (k := s) (by omega)
      rwa [if_neg h] at this
    have HT := Lib.hid (HY.out.take (k := s) hs)
    go_enter Try.func115, Try.ntmps115
    go_wp2_with fail
    · go_ret
      have hf : ∀ x, a = some x → 0 < s → InR lo g x.block := fun x hx h0 => HF.out x hx (by omega)
      have ec : c = s := by omega
      have HTT := HT.out
      rw [ec] at HTT
      exact ⟨a, s, s, rfl, HTT.grownBy grownBy_set (fun x hx h0 => (hf x hx h0).ne), hf, HR.out.setRest (HD1.out ec) (fun x hx h0 => HF.out x hx (by omega)), grownBy_set⟩
    · go_ret
      have hf : ∀ x, a = some x → 0 < s → InR lo g x.block := fun x hx h0 => HF.out x hx (by omega)
      exact ⟨a, s, c, rfl, HT.out.grownBy grownBy_set (fun x hx h0 => (hf x hx h0).ne), hf, HR.out.setRest (HD2.out (by omega)) (far_map HF.out (by omega)), grownBy_set⟩

end Go.Proofs.Ytmnojgdfbhdkhaa
