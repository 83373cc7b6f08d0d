/- codec.parseUint. -/
import Derived.Test.YtmnojgdfbhdkhaaCdB
import Derived.Outline
set_option linter.unusedVariables false
namespace Go.Proofs.Ytmnojgdfbhdkhaa
open Go.RowKit

/-- The number that the first k groups hold. -/
def accU (xs : List Int) : Nat → Int
  | 0 => 0
  | k + 1 => accU xs k + (xs.getD k 0 % 128) * 2 ^ (7 * k)

/-- The number, its groups and the error, from group i on. -/
def pu (xs : List Int) : Nat → Nat → Int × Int × Int
  | 0, _ => (0, 0, 2)
  | f + 1, i => if xs.length ≤ i then (0, 0, 5) else if 128 ≤ xs.getD i 0 then pu xs f (i + 1) else if (xs.getD i 0 = 0 ∧ 0 < i) ∨ (1 < xs.getD i 0 ∧ i = 9) then (0, 0, 2) else (accU xs (i + 1), i + 1, 0)

theorem pow7 (k : Nat) : (2 : Int) ^ (7 * (k + 1)) = 128 * 2 ^ (7 * k) := by
  rw [show 7 * (k + 1) = 7 * k + 7 by omega, Int.pow_add, Int.mul_comm]; rfl
theorem pow7_pos (k : Nat) : 0 < (2 : Int) ^ (7 * k) := Int.pow_pos (by omega)

theorem accU_rng (xs : List Int) (k : Nat) : 0 ≤ accU xs k ∧ accU xs k < 2 ^ (7 * k) := by
  induction k with
  | zero => simp [accU]
  | succ k ih =>
    rw [accU, pow7]
    have hp := pow7_pos k
    generalize (2 : Int) ^ (7 * k) = p at *
    have h1 : 0 ≤ xs.getD k 0 % 128 ∧ xs.getD k 0 % 128 ≤ 127 := by omega
    generalize xs.getD k 0 % 128 = c at *
    have h2 : 0 ≤ c * p := Int.mul_nonneg h1.1 (by omega)
    have h3 : c * p ≤ 127 * p := Int.mul_le_mul_of_nonneg_right h1.2 (by omega)
    omega

theorem or_acc (a c i : Nat) (ha : a < 2 ^ i) (hc : c * 2 ^ i < 2 ^ 64) (h64 : 2 ^ i ≤ 2 ^ 64) : bits .or .u64 (a : Int) ((c : Int) * 2 ^ i) = (a : Int) + (c : Int) * 2 ^ i := by
  have h := (bits_nat .u64 64 (by decide) (fun n h0 h1 => by rw [IntKind.wrap_u64]; omega) a (c * 2 ^ i) (by omega) hc).2
  have e : ((c * 2 ^ i : Nat) : Int) = (c : Int) * 2 ^ i := by push_cast; rfl
  rw [e] at h
  rw [h, Nat.or_comm, Nat.mul_comm, ← Nat.two_pow_add_eq_or_of_lt ha c]
  push_cast
  rw [Int.mul_comm, Int.add_comm]

theorem or_next {xs : List Int} {k : Nat} (h0 : 0 ≤ xs.getD k 0) (hk : k ≤ 8 ∨ (k = 9 ∧ xs.getD k 0 ≤ 1)) : bits .or .u64 (accU xs k) (IntKind.u64.wrap (xs.getD k 0 % 128 * 2 ^ (k * 7))) = accU xs (k + 1) := by
  have ha := accU_rng xs k
  rw [accU, Nat.mul_comm k 7]
  generalize xs.getD k 0 = x at *
  obtain ⟨a, hA⟩ := Int.eq_ofNat_of_zero_le ha.1
  obtain ⟨c, hC⟩ := Int.eq_ofNat_of_zero_le (show 0 ≤ x % 128 by omega)
  have hc : c * 2 ^ (7 * k) < 2 ^ 64 := by
    rcases hk with hk | ⟨rfl, hk⟩
    · have h1 : c ≤ 127 := by omega
      have h2 : 2 ^ (7 * k) ≤ 2 ^ 56 := Nat.pow_le_pow_right (by decide) (by omega)
      have h3 : c * 2 ^ (7 * k) ≤ 127 * 2 ^ 56 := Nat.mul_le_mul h1 h2
      exact Nat.lt_of_le_of_lt h3 (by decide +kernel)
    · have h1 : c ≤ 1 := by omega
      have h3 : c * 2 ^ (7 * 9) ≤ 1 * 2 ^ (7 * 9) := Nat.mul_le_mul_right _ h1
      exact Nat.lt_of_le_of_lt h3 (by decide +kernel)
  have hi : 2 ^ (7 * k) ≤ 2 ^ 64 := Nat.pow_le_pow_right (by decide) (by omega)
  have hal : a < 2 ^ (7 * k) := by
    have := ha.2
    rw [hA] at this
    exact_mod_cast this
  have e : IntKind.u64.wrap ((c : Int) * 2 ^ (7 * k)) = (c : Int) * 2 ^ (7 * k) := by
    have e1 : (c : Int) * 2 ^ (7 * k) = ((c * 2 ^ (7 * k) : Nat) : Int) := by push_cast; rfl
    rw [e1, IntKind.wrap_u64]
    omega
  rw [hA, hC, e, or_acc a c (7 * k) hal hc hi]

theorem pu_step (xs : List Int) {k : Nat} (h : k < 10) : pu xs (10 - k) k = if xs.length ≤ k then (0, 0, 5) else if 128 ≤ xs.getD k 0 then pu xs (10 - (k + 1)) (k + 1) else if (xs.getD k 0 = 0 ∧ 0 < k) ∨ (1 < xs.getD k 0 ∧ k = 9) then (0, 0, 2) else (accU xs (k + 1), (k : Int) + 1, 0) := by
  rw [show 10 - k = (10 - (k + 1)) + 1 by omega, pu]

/-- What stands at the loop's head. -/
def PuI (xs : List Int) (n i : Value) : Prop := ∃ (k : Nat) (m : Int), k ≤ 10 ∧ k ≤ xs.length ∧ i = .int .i64 k ∧ n = .int .u64 m ∧ (k < 10 → m = accU xs k) ∧ pu xs (10 - k) k = pu xs 10 0

theorem tup3 {k l m : IntKind} {a b c : Int} {r : Int × Int × Int} (h : (a, b, c) = r) : Ending.returned (.tuple #[.int k a, .int l b, .int m c]) = .returned (.tuple #[.int k r.1, .int l r.2.1, .int m r.2.2]) := by rw [← h]

set_option maxRecDepth 100000 in
set_option maxHeartbeats 4000000 in
theorem parse_any (v : Value) (xs : List Int) (w : World) (h : Byt w v xs) :
    Calls Try.prog 96 #[v] w fun e w' => e = .returned (.tuple #[.int .u64 (pu xs 10 0).1, .int .i64 (pu xs 10 0).2.1, .int .i64 (pu xs 10 0).2.2]) ∧ w = w' := by
  obtain ⟨a, len, cap, rfl, hl, hm, hr⟩ := h.ints
  have H := Lib.hid (fun k hk => h.at (k := k) hk)
  clear h
  unfold maxLen at hm
  have HL := Lib.hid hl; clear hl
  obtain ⟨res, hres⟩ : ∃ r, pu xs 10 0 = r := ⟨_, rfl⟩
  go_enter Try.func96, Try.ntmps96
  rw [hres]
  go_wp2_with fail
  go_loop [2, 8] (fun n i => PuI xs n i) (fun _ i => 10 - (intOf i).toNat)
  case atStart => exact ⟨0, 0, by omega, by omega, rfl, rfl, fun _ => rfl, rfl⟩
  case round =>
    obtain ⟨k, m, hk, hkl, rfl, rfl, hacc, hpu⟩ := hrel
    rw [HL.out] at hkl
    rw [hres] at hpu
    have HRES := Lib.hid hres
    clear hres
    by_cases hlt : k < 10
    · have hk0 : (0 : Int) ≤ (k : Int) := by omega
      have hk2 : (k : Int) < 10 := by omega
      obtain rfl := hacc hlt
      clear hacc
      have hp := pu_step xs hlt
      rw [HL.out] at hp
      by_cases hend : k = len
      · rw [if_pos (by omega), hpu] at hp
        have HP := Lib.hid hp.symm
        clear hpu hp
        have hek : ((k : Int) == (len : Int)) = true := by simp; omega
        have HEND := Lib.hid hend; clear hend
        go_wp2_with fail
        go_ret3
        exact ⟨tup3 HP.out, rfl⟩
      · rw [if_neg (by omega)] at hp
        rcases hr with h0 | ⟨b, off, rfl, hb, hc⟩
        · omega
        have hcell := hc k (by omega)
        have hx := H.out k (by rw [HL.out]; omega)
        have HO := Lib.hid (fun h => or_next (xs := xs) (k := k) hx.1 h)
        obtain ⟨x, HX⟩ : ∃ x, Hid (x = xs.getD k 0) := ⟨_, rfl⟩
        rw [← HX.out] at hcell hx HO hp
        clear hc
        have hne : ((k : Int) == (len : Int)) = false := by simp; omega
        obtain ⟨acc, HA⟩ : ∃ acc, Hid (acc = accU xs k) := ⟨_, rfl⟩
        rw [← HA.out] at HO ⊢
        by_cases h128 : 128 ≤ x
        · rw [if_pos h128, hpu] at hp
          have HN : Hid (PuI xs (.int .u64 (bits .or .u64 acc (IntKind.u64.wrap (x % 128 * 2 ^ (k * 7))))) (.int .i64 ((k : Int) + 1))) :=
            ⟨k + 1, _, by omega, by rw [HL.out]; omega, rfl, rfl, fun h => HO.out (.inl (by omega)), by rw [← hp]; exact HRES.out.symm⟩
          clear hpu hp
          go_wp2_with fail
          exact ⟨HN.out, by simp [intOf]; omega⟩
        · rw [if_neg h128, hpu] at hp
          clear hpu
          have hx1 : x < 128 := by omega
          by_cases hbad : (x = 0 ∧ 0 < k) ∨ (1 < x ∧ k = 9)
          · rw [if_pos hbad] at hp
            have HP := Lib.hid hp.symm
            clear hp
            rcases hbad with ⟨h1, h2⟩ | ⟨h1, h2⟩
            · have g1 : (x == 0) = true := by simpa using h1
              have g2 : (0 : Int) < (k : Int) := by omega
              have g3 : ¬ 1 < x := by omega
              have H1 := Lib.hid h1; clear h1
              clear HO
              go_wp2_with fail
              go_ret3
              exact ⟨tup3 HP.out, rfl⟩
            · have g1 : (x == 0) = false := by simp; omega
              have g2 : ((k : Int) == 9) = true := by simp; omega
              have H2 := Lib.hid h2; clear h2
              clear HO
              go_wp2_with fail
              go_ret3
              exact ⟨tup3 HP.out, rfl⟩
          · rw [if_neg hbad] at hp
            have HP : Hid ((bits .or .u64 acc (IntKind.u64.wrap (x % 128 * 2 ^ (k * 7))), (k : Int) + 1, (0 : Int)) = res) := by
              show _ = _
              rw [hp, HO.out (by omega)]
            clear hp HO
            by_cases h0 : x = 0
            · have g1 : (x == 0) = true := by simpa using h0
              obtain rfl : k = 0 := by omega
              have g3 : ¬ 1 < x := by omega
              have H0 := Lib.hid h0; clear h0 hbad
              have HP0 : Hid ((bits .or .u64 acc (x % 128), (1 : Int), (0 : Int)) = res) := by
                have := HP.out
                rw [show x % 128 * 2 ^ (0 * 7) = x % 128 by simp, show IntKind.u64.wrap (x % 128) = x % 128 by rw [IntKind.wrap_u64]; omega] at this
                show _ = _
                simpa using this
              have hne0 : ((0 : Int) == (len : Int)) = false := by simp; omega
              have hl0 : (0 : Int) < (len : Int) := by omega
              have hl1 : 0 < len := by omega
              rw [Nat.add_zero] at hcell
              go_wp2_with fail
              go_ret3
              exact ⟨tup3 HP0.out, rfl⟩
            · have g1 : (x == 0) = false := by simpa using h0
              have H0 := Lib.hid h0; clear h0
              by_cases h1 : 1 < x
              · have g2 : ((k : Int) == 9) = false := by simp; omega
                clear hbad
                go_wp2_with fail
                go_ret3
                exact ⟨tup3 HP.out, rfl⟩
              · clear hbad
                go_wp2_with fail
                go_ret3
                exact ⟨tup3 HP.out, rfl⟩
    · obtain rfl : k = 10 := by omega
      have HP : Hid (((0 : Int), (0 : Int), (2 : Int)) = res) := by show _ = _; rw [← hpu]; rfl
      clear hpu hacc
      go_wp2_with fail
      go_ret3
      exact ⟨tup3 HP.out, rfl⟩

end Go.Proofs.Ytmnojgdfbhdkhaa
