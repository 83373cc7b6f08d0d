/- codec.Checksum and the reference's. -/
import Derived.Test.YtjlfacdmfcbjfaaCdM
import Derived.Test.YtjlfacdmfcbjfaaWorld
set_option linter.unusedVariables false
namespace Go.Proofs.Ytjlfacdmfcbjfaa
open Go.RowKit

/-- A slice of bytes. -/
structure Byt (w : World) (v : Value) (xs : List Int) : Prop where
  ints : Ints .u8 w v xs
  rng : ∀ x ∈ xs, 0 ≤ x ∧ x ≤ 255
  fits : ∀ a l c, v = .slice a l c → l ≤ c ∧ c ≤ maxLen

theorem Byt.below {w w' : World} {v : Value} {xs : List Int} (h : Byt w v xs) (hb : Below w.heap.size w w') : Byt w' v xs := ⟨h.ints.below hb, h.rng, h.fits⟩

theorem Byt.at {w : World} {v : Value} {xs : List Int} (h : Byt w v xs) {k : Nat} (hk : k < xs.length) : 0 ≤ xs.getD k 0 ∧ xs.getD k 0 ≤ 255 := by
  have e : xs.getD k 0 = xs[k] := by simp [List.getD, List.getElem?_eq_getElem hk]
  rw [e]; exact h.rng _ (List.getElem_mem hk)

theorem IsRow.byt {w : World} {a : Option Addr} {len cap : Nat} {zs : List Int} (h : IsRow .u8 w a len cap zs) : Byt w (.slice a len cap) (zs.take len) :=
  ⟨h.ints.1, fun x hx => wf_u8 (h.ints.2 x hx), fun a' l' c' e => by
    cases e
    rcases h with ⟨_, rfl, rfl, _⟩ | ⟨x, _, h1, h2, _⟩
    · exact ⟨Nat.le_refl _, Nat.zero_le _⟩
    · exact ⟨h1, h2⟩⟩

set_option maxHeartbeats 2000000 in
theorem cksum_any (v : Value) (xs : List Int) (w : World) (h : Byt w v xs) :
    Calls Try.prog 22 #[v] w fun e w' => e = .returned (.int .u64 (ck xs)) ∧ w = w' := by
  obtain ⟨a, len, cap, rfl, hl, hm, hr⟩ := h.ints
  have hrng := fun k hk => h.at (k := k) hk
  have H := Lib.hid hrng; clear hrng h
  unfold maxLen at hm
  have HL := Lib.hid hl; clear hl
  go_enter Try.func22, Try.ntmps22
  go_wp2_with fail
  go_loop [3, 4, 9] (fun s t i => ∃ k : Nat, k ≤ len ∧ i = .int .i64 k ∧ s = .int .u64 (ckS xs k) ∧ t = .int .u64 (ckT xs k)) (fun _ _ i => len - (intOf i).toNat)
  case atStart => exact ⟨0, Nat.zero_le _, rfl, by rw [ckS_zero], by rw [ckT_zero]⟩
  case round =>
    obtain ⟨k, hk, rfl, rfl, rfl⟩ := hrel
    have r1 := ckS_rng xs k
    have r2 := ckT_rng xs k
    obtain ⟨s, hs⟩ : ∃ s, ckS xs k = s := ⟨_, rfl⟩
    obtain ⟨t, ht⟩ : ∃ t, ckT xs k = t := ⟨_, rfl⟩
    rw [hs] at r1
    rw [ht] at r2
    by_cases hlt : k < len
    · rcases hr with h0 | ⟨b, off, rfl, hb, hc⟩
      · omega
      have hcell := hc k hlt
      have hx := H.out k (by rw [HL.out]; exact hlt)
      have e1 := ckS_next (xs := xs) (k := k) (by rw [HL.out]; exact hlt)
      have e2 := ckT_next (xs := xs) (k := k)
      rw [hs] at e1
      rw [ht, e1] at e2
      obtain ⟨x, HX⟩ : ∃ x, Hid (x = xs.getD k 0) := ⟨_, rfl⟩
      rw [← HX.out] at hcell hx e1 e2
      have E1 := Lib.hid e1; clear e1
      have E2 := Lib.hid e2; clear e2
      clear hc
      rw [hs, ht]
      clear hs ht
      go_wp2_with fail
      go_round
      case rel => exact ⟨k + 1, by omega, by go_num, by rw [E1.out], by rw [E2.out]⟩
      case measure => simp [intOf]; omega
    · obtain rfl : k = len := by omega
      have E : Hid (ck xs = t * 4294967296 + s) := by show _ = _; unfold ck; rw [HL.out, hs, ht]
      rw [hs, ht]
      clear hs ht
      go_wp2_with fail
      go_ret
      exact ⟨by rw [E.out]; rfl, rfl⟩

set_option maxHeartbeats 2000000 in
theorem rcksum_any (v : Value) (xs : List Int) (w : World) (h : Byt w v xs) :
    Calls Try.prog 23 #[v] w fun e w' => e = .returned (.int .u64 (ck xs)) ∧ w = w' := by
  obtain ⟨a, len, cap, rfl, hl, hm, hr⟩ := h.ints
  have hrng := fun k hk => h.at (k := k) hk
  have H := Lib.hid hrng; clear hrng h
  unfold maxLen at hm
  have HL := Lib.hid hl; clear hl
  go_enter Try.func23, Try.ntmps23
  go_wp2_with fail
  go_loop [3, 4, 5] (fun s t i => ∃ k : Nat, k ≤ len ∧ i = .int .i64 k ∧ s = .int .u64 (ckS xs k) ∧ t = .int .u64 (ckT xs k)) (fun _ _ i => len - (intOf i).toNat)
  case atStart => exact ⟨0, Nat.zero_le _, rfl, by rw [ckS_zero], by rw [ckT_zero]⟩
  case round =>
    obtain ⟨k, hk, rfl, rfl, rfl⟩ := hrel
    have r1 := ckS_rng xs k
    have r2 := ckT_rng xs k
    obtain ⟨s, hs⟩ : ∃ s, ckS xs k = s := ⟨_, rfl⟩
    obtain ⟨t, ht⟩ : ∃ t, ckT xs k = t := ⟨_, rfl⟩
    rw [hs] at r1
    rw [ht] at r2
    by_cases hlt : k < len
    · rcases hr with h0 | ⟨b, off, rfl, hb, hc⟩
      · omega
      have hcell := hc k hlt
      have hx := H.out k (by rw [HL.out]; exact hlt)
      have e1 := ckS_next (xs := xs) (k := k) (by rw [HL.out]; exact hlt)
      have e2 := ckT_next (xs := xs) (k := k)
      rw [hs] at e1
      rw [ht, e1] at e2
      obtain ⟨x, HX⟩ : ∃ x, Hid (x = xs.getD k 0) := ⟨_, rfl⟩
      rw [← HX.out] at hcell hx e1 e2
      have E1 := Lib.hid e1; clear e1
      have E2 := Lib.hid e2; clear e2
      clear hc
      rw [hs, ht]
      clear hs ht
      go_wp2_with fail
      go_round
      case rel => exact ⟨k + 1, by omega, by go_num, by rw [E1.out], by rw [E2.out]⟩
      case measure => simp [intOf]; omega
    · obtain rfl : k = len := by omega
      have E : Hid (ck xs = t * 4294967296 + s) := by show _ = _; unfold ck; rw [HL.out, hs, ht]
      rw [hs, ht]
      clear hs ht
      go_wp2_with fail
      go_ret
      exact ⟨by rw [E.out]; rfl, rfl⟩

end Go.Proofs.Ytjlfacdmfcbjfaa
