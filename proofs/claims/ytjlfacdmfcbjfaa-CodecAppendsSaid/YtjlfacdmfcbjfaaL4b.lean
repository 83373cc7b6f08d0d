/- Stage 4: the walk of CodecBack. -/
import Derived.Test.YtjlfacdmfcbjfaaCdQ
import Derived.Test.YtjlfacdmfcbjfaaCdE
import Derived.Test.YtjlfacdmfcbjfaaL4y
import Derived.Test.YtjlfacdmfcbjfaaOpenW
import Derived.Deep.MidRow
import Derived.Deep.RegionHeld3
set_option linter.unusedVariables false
namespace Go.Proofs.Ytjlfacdmfcbjfaa
open Go.RowKit

/-- Five readings, one after the other. -/
structure Five (d : List Int) (u : Int) (v : Bool) (xs : List Int) (z : Int) (q r : List Int) (e r1 e1 r2 e2 r3 e3 r4 e4 : _) : Prop where
  u : ruV d 0 18446744073709551615 = u ∧ ruR d 0 18446744073709551615 = r1 ∧ ruE d 0 18446744073709551615 = e1
  v : bV r1 e1 = v ∧ bR r1 e1 = r2 ∧ bE r1 e1 = e2
  w : wV r2 e2 = xs ∧ tkR r2 e2 32 = r3 ∧ tkE r2 e2 32 = e3
  z : bytesN z = wV r3 e3 ∧ W256 z ∧ tkR r3 e3 32 = r4 ∧ tkE r3 e3 32 = e4
  q : byV r4 e4 100 = q ∧ byR r4 e4 100 = r ∧ byE r4 e4 100 = e

theorem five_full (n : Nat) (hn : (n : Int) ≤ 18446744073709551615) (x : Bool) (r : List Int) (hr : r.length = 32) (m : Int) (hm : W256 m) (y t : List Int) (hy : y.length ≤ 100) :
    ∃ r1 r2 r3 r4, Five (uenc n ++ [if x then 1 else 0] ++ r ++ bytesN m ++ (uenc y.length ++ y) ++ t) n x r m y t 0 r1 0 r2 0 r3 0 r4 0 := by
  refine ⟨_, _, _, _, ⟨?_, bo_back x (r ++ (bytesN m ++ (uenc y.length ++ y ++ t))), tk_back hr (bytesN m ++ (uenc y.length ++ y ++ t)), ?_, by_back y t hy⟩⟩
  · have := ru_back n hn ([if x then 1 else 0] ++ (r ++ (bytesN m ++ (uenc y.length ++ y ++ t))))
    simp only [List.append_assoc] at this ⊢
    exact this
  · have := tk_back (bytesN_is m).1 (uenc y.length ++ y ++ t)
    exact ⟨this.1.symm, hm, this.2.1, this.2.2⟩

theorem bR_rng {d : List Int} {e : Int} (h : ∀ b ∈ d, 0 ≤ b ∧ b ≤ 255) : ∀ b ∈ bR d e, 0 ≤ b ∧ b ≤ 255 := by
  unfold bR
  split
  · exact fun b hb => h b (List.mem_of_mem_drop hb)
  · exact h
theorem tkR_rng {d : List Int} {e n : Int} (h : ∀ b ∈ d, 0 ≤ b ∧ b ≤ 255) : ∀ b ∈ tkR d e n, 0 ≤ b ∧ b ≤ 255 := by
  unfold tkR
  split
  · exact h
  · split
    · exact h
    · exact fun b hb => h b (List.mem_of_mem_drop hb)

def f1 (d : List Int) : List Int × Int := (ruR d 0 18446744073709551615, ruE d 0 18446744073709551615)
def f2 (s : List Int × Int) : List Int × Int := (bR s.1 s.2, bE s.1 s.2)
def f3 (s : List Int × Int) : List Int × Int := (tkR s.1 s.2 32, tkE s.1 s.2 32)
def f5 (s : List Int × Int) : Int := byE s.1 s.2 100

theorem five_any (d : List Int) (h : ∀ b ∈ d, 0 ≤ b ∧ b ≤ 255) : ∃ u v xs z q r' r1 e1 r2 e2 r3 e3 r4 e4, Five d u v xs z q r' (f5 (f3 (f3 (f2 (f1 d))))) r1 e1 r2 e2 r3 e3 r4 e4 := by
  obtain ⟨z, hz, hzb⟩ := bytes_of_num (wV_is (rest := (f3 (f2 (f1 d))).1) (e := (f3 (f2 (f1 d))).2) (show ∀ b ∈ (f3 (f2 (f1 d))).1, 0 ≤ b ∧ b ≤ 255 from tkR_rng (show ∀ b ∈ (f2 (f1 d)).1, 0 ≤ b ∧ b ≤ 255 from bR_rng (show ∀ b ∈ (f1 d).1, 0 ≤ b ∧ b ≤ 255 from ruR_rng (e := 0) (most := 18446744073709551615) h))))
  exact ⟨_, _, _, z, _, _, _, _, _, _, _, _, _, _, ⟨⟨rfl, rfl, rfl⟩, ⟨rfl, rfl, rfl⟩, ⟨rfl, rfl, rfl⟩, ⟨hzb, hz, rfl, rfl⟩, ⟨rfl, rfl, rfl⟩⟩⟩

theorem stuck5 (z : List Int) : Stuck z 5 := stuck (by omega)
theorem s2 (r : List Int) : f2 (r, 5) = (r, 5) := by unfold f2; rw [(stuck5 r).b.2.1, (stuck5 r).b.2.2]
theorem s3 (r : List Int) : f3 (r, 5) = (r, 5) := by unfold f3; rw [((stuck5 r).k 32).1, ((stuck5 r).k 32).2]
theorem s5 (r : List Int) : f5 (r, 5) = 5 := by unfold f5; rw [((stuck5 r).y 100).1]
theorem f3_cut {r : List Int} (h : r.length < 32) : ∃ r', f3 (r, 0) = (r', 5) := ⟨_, by unfold f3; rw [tk_cut h]⟩

theorem take_past {a b : List Int} {k : Nat} (h : a.length ≤ k) : (a ++ b).take k = a ++ b.take (k - a.length) := by
  rw [List.take_append, List.take_of_length_le h]

theorem f4_cut (m : Int) (y : List Int) (hy : y.length ≤ 100) (k : Nat) (hk : k < (bytesN m ++ (uenc y.length ++ y)).length) : f5 (f3 ((bytesN m ++ (uenc y.length ++ y)).take k, 0)) = 5 := by
  have hm := (bytesN_is m).1
  by_cases h : k < 32
  · obtain ⟨r', e⟩ := f3_cut (r := (bytesN m ++ (uenc y.length ++ y)).take k) (by rw [List.length_take]; omega)
    rw [e, s5]
  · rw [take_past (by omega)]
    have := tk_back hm ((uenc y.length ++ y).take (k - (bytesN m).length))
    unfold f3
    simp only [this.2.1, this.2.2]
    exact by_cut y _ hy (by rw [List.length_append] at hk; omega)

theorem f3_cut' (r : List Int) (hr : r.length = 32) (m : Int) (y : List Int) (hy : y.length ≤ 100) (k : Nat) (hk : k < (r ++ (bytesN m ++ (uenc y.length ++ y))).length) : f5 (f3 (f3 ((r ++ (bytesN m ++ (uenc y.length ++ y))).take k, 0))) = 5 := by
  by_cases h : k < 32
  · obtain ⟨r', e⟩ := f3_cut (r := (r ++ (bytesN m ++ (uenc y.length ++ y))).take k) (by rw [List.length_take]; omega)
    rw [e, s3, s5]
  · rw [take_past (by omega)]
    have := tk_back hr ((bytesN m ++ (uenc y.length ++ y)).take (k - r.length))
    have e : f3 (r ++ (bytesN m ++ (uenc y.length ++ y)).take (k - r.length), 0) = ((bytesN m ++ (uenc y.length ++ y)).take (k - r.length), 0) := by
      unfold f3
      simp only [this.2.1, this.2.2]
    rw [e]
    exact f4_cut m y hy _ (by rw [List.length_append] at hk; omega)

theorem f2_cut (x : Bool) (r : List Int) (hr : r.length = 32) (m : Int) (y : List Int) (hy : y.length ≤ 100) (k : Nat) (hk : k < ((if x then 1 else 0) :: (r ++ (bytesN m ++ (uenc y.length ++ y)))).length) :
    f5 (f3 (f3 (f2 (((if x then 1 else 0) :: (r ++ (bytesN m ++ (uenc y.length ++ y)))).take k, 0)))) = 5 := by
  cases k with
  | zero =>
    rw [List.take_zero]
    have e : f2 (([] : List Int), 0) = ([], 5) := rfl
    rw [e, s3, s3, s5]
  | succ k =>
    rw [List.take_succ_cons]
    have := bo_back x ((r ++ (bytesN m ++ (uenc y.length ++ y))).take k)
    have e : f2 ((if x then 1 else 0) :: (r ++ (bytesN m ++ (uenc y.length ++ y))).take k, 0) = ((r ++ (bytesN m ++ (uenc y.length ++ y))).take k, 0) := by
      unfold f2
      simp only [this.2.1, this.2.2]
    rw [e]
    exact f3_cut' r hr m y hy k (by simp only [List.length_cons] at hk; omega)

/-- What is cut anywhere gives ErrCut. -/
theorem five_cut (n : Nat) (hn : n ≤ 18446744073709551615) (x : Bool) (r : List Int) (hr : IsBytes 32 r) (m : Int) (y : List Int) (hy : y.length ≤ 100) (hyr : ∀ b ∈ y, 0 ≤ b ∧ b ≤ 255) (k : Nat)
    (hk : k < (uenc n ++ [if x then 1 else 0] ++ r ++ bytesN m ++ (uenc y.length ++ y)).length) :
    ∃ u v xs z q r' r1 e1 r2 e2 r3 e3 r4 e4, Five ((uenc n ++ [if x then 1 else 0] ++ r ++ bytesN m ++ (uenc y.length ++ y)).take k) u v xs z q r' 5 r1 e1 r2 e2 r3 e3 r4 e4 := by
  have hfull : uenc n ++ [if x then 1 else 0] ++ r ++ bytesN m ++ (uenc y.length ++ y) = uenc n ++ ((if x then 1 else 0) :: (r ++ (bytesN m ++ (uenc y.length ++ y)))) := by simp
  have hdr : ∀ b ∈ (uenc n ++ [if x then 1 else 0] ++ r ++ bytesN m ++ (uenc y.length ++ y)).take k, 0 ≤ b ∧ b ≤ 255 := by
    intro b hb
    have hb := List.mem_of_mem_take hb
    simp only [List.mem_append, List.mem_singleton] at hb
    rcases hb with (((hb | hb) | hb) | hb) | (hb | hb)
    · exact uenc_byte n b hb
    · subst hb; split <;> omega
    · exact isb_rng hr b hb
    · exact isb_rng (bytesN_is m) b hb
    · exact uenc_byte _ b hb
    · exact hyr b hb
  have key : f5 (f3 (f3 (f2 (f1 ((uenc n ++ [if x then 1 else 0] ++ r ++ bytesN m ++ (uenc y.length ++ y)).take k))))) = 5 := by
    rw [hfull] at hk ⊢
    by_cases h : k < (uenc n).length
    · rw [List.take_append_of_le_length (by omega)]
      have e : f1 ((uenc n).take k) = (ruR ((uenc n).take k) 0 18446744073709551615, 5) := by
        unfold f1; rw [ru_cut n k hn h]
      rw [e, s2, s3, s3, s5]
    · rw [take_past (by omega)]
      have := ru_back n (by omega) ((((if x then 1 else 0) :: (r ++ (bytesN m ++ (uenc y.length ++ y)))) : List Int).take (k - (uenc n).length))
      have e : f1 (uenc n ++ (((if x then 1 else 0) :: (r ++ (bytesN m ++ (uenc y.length ++ y)))) : List Int).take (k - (uenc n).length)) = ((((if x then 1 else 0) :: (r ++ (bytesN m ++ (uenc y.length ++ y)))) : List Int).take (k - (uenc n).length), 0) := by
        unfold f1
        rw [this.2.1, this.2.2]
      rw [e]
      exact f2_cut x r hr.1 m y hy _ (by rw [List.length_append] at hk; omega)
  have h := five_any _ hdr
  rw [key] at h
  exact h

end Go.Proofs.Ytjlfacdmfcbjfaa
