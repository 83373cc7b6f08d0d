/- Contract of wide.isNotation: one to 80 decimal digits, no leading zero but for "0" itself. -/
import Derived.Test.YtgleleccmpncnaaWorld
import Derived.Test.YtgleleccmpncnaaMath
set_option linter.unusedVariables false
namespace Go.Proofs.Ytgleleccmpncnaa
open Go.RowKit

/-- Byte i of a string, as a number; 0 beyond its end. -/
def sB (s : ByteArray) (i : Nat) : Int := if h : i < s.size then ((s[i]'h).toNat : Int) else 0

def isDig (c : Int) : Bool := decide (48 ≤ c) && decide (c ≤ 57)

/-- Every byte is a decimal digit. -/
def digs (s : ByteArray) : Bool := (List.range s.size).all fun j => isDig (sB s j)

def notB (s : ByteArray) : Bool := decide (1 ≤ s.size) && decide (s.size ≤ 80) && digs s && (sB s 0 != 48 || s.size == 1)

theorem sB_at {s : ByteArray} {k : Nat} (h : k < s.size) : ((s[k]'h).toNat : Int) = sB s k := by unfold sB; rw [dif_pos h]

theorem sB_rng (s : ByteArray) (k : Nat) : 0 ≤ sB s k ∧ sB s k ≤ 255 := by
  unfold sB
  split
  · rename_i h
    have := (s[k]'h).toNat_lt
    omega
  · omega

theorem digs_all {s : ByteArray} (h : ∀ j, j < s.size → isDig (sB s j) = true) : digs s = true := by
  unfold digs
  rw [List.all_eq_true]
  intro j hj
  exact h j (List.mem_range.1 hj)

theorem digs_not {s : ByteArray} {k : Nat} (hk : k < s.size) (h : isDig (sB s k) = false) : digs s = false := by
  unfold digs
  rw [List.all_eq_false]
  exact ⟨k, List.mem_range.2 hk, by simp [h]⟩

set_option maxHeartbeats 1000000 in
theorem not_any (s : ByteArray) (w : World) (hs : s.size ≤ maxLen) :
    Calls Try.prog 35 #[.string s] w fun e w' => e = .returned (.bool (notB s)) ∧ w = w' := by
  have hsm : (s.size : Int) ≤ 9223372036854775807 := by unfold maxLen at hs; omega
  by_cases h1 : 1 ≤ s.size
  · have hne : s ≠ ByteArray.empty := fun h => by rw [h] at h1; exact absurd h1 (by decide)
    have hz : ((s.size : Int) == 0) = false := by simp; omega
    by_cases h80 : s.size ≤ 80
    · have hz2 : (s.size : Int) ≤ 80 := by omega
      have e0 : notB s = (digs s && (sB s 0 != 48 || s.size == 1)) := by unfold notB; simp [h1, h80]
      have E0 := Lib.hid e0; clear e0
      go_enter Try.func35, Try.ntmps35
      go_wp2_with fail
      go_loop [14] (fun i => ∃ k : Nat, k ≤ s.size ∧ i = .int .i64 k ∧ ∀ j, j < k → isDig (sB s j) = true) (fun i => s.size - (intOf i).toNat)
      case atStart => exact ⟨0, by omega, rfl, fun j hj => absurd hj (Nat.not_lt_zero _)⟩
      case round =>
        obtain ⟨k, hk, rfl, hall⟩ := hrel
        have HALL := Lib.hid hall; clear hall
        by_cases hlt : k < s.size
        · obtain ⟨c, HC⟩ : ∃ c, Hid (c = sB s k) := ⟨_, rfl⟩
          have hcell : ((s[k]'hlt).toNat : Int) = c := by rw [HC.out, sB_at hlt]
          by_cases hd : isDig c = true
          · have hd' := hd
            unfold isDig at hd'
            simp at hd'
            obtain ⟨d1, d2⟩ := hd'
            have HD := Lib.hid hd; clear hd
            go_wp2_with fail
            refine ⟨⟨k + 1, by omega, rfl, fun j hj => ?_⟩, by simp [intOf]; omega⟩
            by_cases hjk : j = k
            · subst hjk; rw [← HC.out]; exact HD.out
            · exact HALL.out j (by omega)
          · have hd0 : isDig c = false := by simpa using hd
            have E1 := Lib.hid (show notB s = false by rw [E0.out, digs_not hlt (by rw [← HC.out]; exact hd0)]; rfl)
            have hd' := hd0
            unfold isDig at hd'
            have hor : c < 48 ∨ 57 < c := by simp at hd'; omega
            clear hd hd0 hd'
            rcases hor with h | h
            · go_wp2_with fail
              go_ret
              exact ⟨ret_bool E1.out.symm, rfl⟩
            · have h' : ¬ c < 48 := by omega
              go_wp2_with fail
              go_ret
              exact ⟨ret_bool E1.out.symm, rfl⟩
        · have hds := digs_all (s := s) (fun j hj => HALL.out j (by omega))
          have E1 := Lib.hid (show notB s = (sB s 0 != 48 || s.size == 1) by rw [E0.out, hds]; rfl)
          obtain ⟨c, HC⟩ : ∃ c, Hid (c = sB s 0) := ⟨_, rfl⟩
          have hcell : ((s[0]'(by omega)).toNat : Int) = c := by rw [HC.out, sB_at (by omega)]
          clear hds
          by_cases hc : c = 48
          · have E2 := Lib.hid (show notB s = (s.size == 1) by rw [E1.out, ← HC.out, hc]; rfl)
            by_cases hone : s.size = 1
            · have hone' : ((s.size : Int) == 1) = true := by simp; omega
              go_wp2_with fail
              go_ret
              exact ⟨ret_bool (by rw [E2.out, hone]; rfl), rfl⟩
            · have hone' : ((s.size : Int) == 1) = false := by simp; omega
              have E3 := Lib.hid (show notB s = false by rw [E2.out]; simpa using hone)
              go_wp2_with fail
              go_ret
              exact ⟨ret_bool E3.out.symm, rfl⟩
          · have hc' : (c != 48) = true := by simpa using hc
            have E2 := Lib.hid (show notB s = true by rw [E1.out, ← HC.out, hc']; rfl)
            go_wp2_with fail
            go_ret
            exact ⟨ret_bool E2.out.symm, rfl⟩
    · have hz2 : 80 < (s.size : Int) := by omega
      have E1 := Lib.hid (show notB s = false by unfold notB; simp [h80])
      go_enter Try.func35, Try.ntmps35
      go_wp2_with fail
      go_ret
      exact ⟨ret_bool E1.out.symm, rfl⟩
  · have hsz : s.size = 0 := by omega
    obtain rfl : s = ByteArray.empty := by
      apply ByteArray.ext
      apply Array.eq_empty_of_size_eq_zero
      exact hsz
    have E1 := Lib.hid (show notB ByteArray.empty = false by decide)
    go_enter Try.func35, Try.ntmps35
    go_wp2_with fail
    go_ret
    exact ⟨ret_bool E1.out.symm, rfl⟩

end Go.Proofs.Ytgleleccmpncnaa
