/- Contract of wide.FromBytes at the bytes of a number. -/
import Derived.Test.YtmnojgdfbhdkhaaToB
import Derived.BigRegion
set_option linter.unusedVariables false
namespace Go.Proofs.Ytmnojgdfbhdkhaa
open Go.RowKit

theorem byteN_rng (n : Int) (i : Nat) : 0 ≤ byteN n i ∧ byteN n i ≤ 255 := by unfold byteN; omega

theorem mod_byte (n : Int) (k : Nat) : n % (2 : Int) ^ (8 * (k + 1)) = n % (2 : Int) ^ (8 * k) + byteN n k * (2 : Int) ^ (8 * k) := by
  unfold byteN
  rw [show 8 * (k + 1) = 8 * k + 8 by omega, Int.pow_add, show (2 : Int) ^ 8 = 256 from rfl]
  have hp := pow_pos2 (8 * k)
  generalize (2 : Int) ^ (8 * k) = P at *
  have h1 := Int.mul_ediv_add_emod n P
  have h2 := Int.mul_ediv_add_emod (n / P) 256
  have h3 := Int.emod_nonneg n (show P ≠ 0 by omega)
  have h4 := Int.emod_lt_of_pos n hp
  have h5 := Int.emod_nonneg (n / P) (show (256 : Int) ≠ 0 by omega)
  have h6 := Int.emod_lt_of_pos (n / P) (show (0 : Int) < 256 by omega)
  generalize n / P % 256 = r at *
  generalize n % P = s at *
  have hle : P * r ≤ P * 255 := Int.mul_le_mul_of_nonneg_left (by omega) (by omega)
  have hge : 0 ≤ P * r := Int.mul_nonneg (by omega) (by omega)
  have hn : n = P * 256 * (n / P / 256) + (s + P * r) := by
    have : P * (n / P) = P * 256 * (n / P / 256) + P * r := by
      rw [Int.mul_assoc, ← Int.mul_add, h2]
    omega
  rw [hn, Int.mul_add_emod_self_left, Int.emod_eq_of_lt (by omega) (by omega), Int.mul_comm r]

theorem or_byte {l b : Int} {t : Nat} (ht : t < 8) (hl : 0 ≤ l) (hl2 : l < (2 : Int) ^ (8 * t)) (hb : 0 ≤ b) (hb2 : b ≤ 255) : bits .or .u64 l (IntKind.u64.wrap (b * (2 : Int) ^ (8 * t))) = l + b * (2 : Int) ^ (8 * t) ∧ l + b * (2 : Int) ^ (8 * t) < 18446744073709551616 := by
  have hp := pow_pos2 (8 * t)
  have hB : (18446744073709551616 : Int) = (2 : Int) ^ (8 * t) * ((2 : Int) ^ (56 - 8 * t) * 256) := by
    rw [show (256 : Int) = 2 ^ 8 from rfl, ← Int.pow_add, ← Int.pow_add, show 8 * t + (56 - 8 * t + 8) = 64 by omega]; rfl
  have hlt : l + b * (2 : Int) ^ (8 * t) < 18446744073709551616 := by
    have h1 : (b + 1) * (2 : Int) ^ (8 * t) ≤ 256 * (2 : Int) ^ (8 * t) := Int.mul_le_mul_of_nonneg_right (by omega) (by omega)
    have h2 : 256 * (2 : Int) ^ (8 * t) ≤ 18446744073709551616 := by
      rw [hB, Int.mul_comm 256]
      apply Int.mul_le_mul_of_nonneg_left _ (by omega)
      have := pow_pos2 (56 - 8 * t)
      omega
    rw [Int.add_mul, Int.one_mul] at h1
    omega
  refine ⟨?_, hlt⟩
  have hb0 : 0 ≤ b * (2 : Int) ^ (8 * t) := Int.mul_nonneg hb (by omega)
  rw [u64_wrap hb0 (by omega)]
  obtain ⟨x, rfl⟩ := Int.eq_ofNat_of_zero_le hb
  obtain ⟨y, rfl⟩ := Int.eq_ofNat_of_zero_le hl
  have c2 : (x : Int) * (2 : Int) ^ (8 * t) = ((x * 2 ^ (8 * t) : Nat) : Int) := by rw [Int.natCast_mul, Int.natCast_pow]; rfl
  have c1 : (2 : Int) ^ (8 * t) = ((2 ^ (8 * t) : Nat) : Int) := by rw [Int.natCast_pow]; rfl
  rw [c2] at hlt hb0 ⊢
  rw [c1] at hl2
  have hl3 : y < 2 ^ (8 * t) := Int.ofNat_lt.1 hl2
  have hlt2 : y + x * 2 ^ (8 * t) < 18446744073709551616 := Int.ofNat_lt.1 (by rw [Int.natCast_add]; exact hlt)
  have h := or_low (8 * t) x y hl3 (by omega)
  rw [bits_or_u64_nat _ _ (by omega) (by omega)] at h ⊢
  rw [Nat.or_comm, h, Int.natCast_add, Int.add_comm]

theorem put_byte_0 {u : World} {b : Nat} {s v : Int} {k t : Nat} (ht : t < 8) (hk : k = 0 + t) (hs0 : 0 ≤ s) (hs : s < (2 : Int) ^ (8 * k)) (hv : 0 ≤ v) (hv2 : v ≤ 255) (h : Blk u b #[.int .u64 (l0 s), .int .u64 (l1 s), .int .u64 (l2 s), .int .u64 (l3 s)]) :
    Blk (u.setCell ⟨b, 0, none⟩ (.int .u64 (bits .or .u64 (l0 s) (IntKind.u64.wrap (v * (2 : Int) ^ (8 * t)))))) b #[.int .u64 (l0 (s + v * (2 : Int) ^ (8 * k))), .int .u64 (l1 (s + v * (2 : Int) ^ (8 * k))), .int .u64 (l2 (s + v * (2 : Int) ^ (8 * k))), .int .u64 (l3 (s + v * (2 : Int) ^ (8 * k)))] := by
  have hp := pow_pos2 (8 * t)
  have hpk : (2 : Int) ^ (8 * k) = 1 * (2 : Int) ^ (8 * t) := by
    rw [hk, show 8 * (0 + t) = 0 + 8 * t by omega, Int.pow_add, show (2 : Int) ^ 0 = 1 from by decide]
  have hpl : (2 : Int) ^ (8 * t) ≤ 72057594037927936 := by
    have : t = 0 ∨ t = 1 ∨ t = 2 ∨ t = 3 ∨ t = 4 ∨ t = 5 ∨ t = 6 ∨ t = 7 := by omega
    rcases this with rfl | rfl | rfl | rfl | rfl | rfl | rfl | rfl <;> decide
  rw [hpk] at hs
  have hW : W256 s := by unfold W256; omega
  obtain ⟨r0, r1, r2, r3⟩ := limbs_rng s
  have hlj : l0 s < (2 : Int) ^ (8 * t) := by unfold l0; omega
  have ho := or_byte ht r0.1 hlj hv hv2
  have hsum := limbs_sum hW
  have hmul : v * (2 : Int) ^ (8 * k) = 1 * (v * (2 : Int) ^ (8 * t)) := by rw [hpk, Int.mul_left_comm]
  have hge : 0 ≤ v * (2 : Int) ^ (8 * t) := Int.mul_nonneg hv (by omega)
  have hn := limbs_of (n := s + v * (2 : Int) ^ (8 * k)) (a := l0 s + v * (2 : Int) ^ (8 * t)) (b := l1 s) (c := l2 s) (d := l3 s) (by omega) (by omega) (by omega) (by omega) (by rw [hmul]; omega)
  rw [hn.2.1, hn.2.2.1, hn.2.2.2.1, hn.2.2.2.2, ho.1]
  have := h.setCell (j := 0) (v := .int .u64 (l0 s + v * (2 : Int) ^ (8 * t)))
  simpa using this

theorem put_byte_1 {u : World} {b : Nat} {s v : Int} {k t : Nat} (ht : t < 8) (hk : k = 8 + t) (hs0 : 0 ≤ s) (hs : s < (2 : Int) ^ (8 * k)) (hv : 0 ≤ v) (hv2 : v ≤ 255) (h : Blk u b #[.int .u64 (l0 s), .int .u64 (l1 s), .int .u64 (l2 s), .int .u64 (l3 s)]) :
    Blk (u.setCell ⟨b, 1, none⟩ (.int .u64 (bits .or .u64 (l1 s) (IntKind.u64.wrap (v * (2 : Int) ^ (8 * t)))))) b #[.int .u64 (l0 (s + v * (2 : Int) ^ (8 * k))), .int .u64 (l1 (s + v * (2 : Int) ^ (8 * k))), .int .u64 (l2 (s + v * (2 : Int) ^ (8 * k))), .int .u64 (l3 (s + v * (2 : Int) ^ (8 * k)))] := by
  have hp := pow_pos2 (8 * t)
  have hpk : (2 : Int) ^ (8 * k) = 18446744073709551616 * (2 : Int) ^ (8 * t) := by
    rw [hk, show 8 * (8 + t) = 64 + 8 * t by omega, Int.pow_add, show (2 : Int) ^ 64 = 18446744073709551616 from by decide]
  have hpl : (2 : Int) ^ (8 * t) ≤ 72057594037927936 := by
    have : t = 0 ∨ t = 1 ∨ t = 2 ∨ t = 3 ∨ t = 4 ∨ t = 5 ∨ t = 6 ∨ t = 7 := by omega
    rcases this with rfl | rfl | rfl | rfl | rfl | rfl | rfl | rfl <;> decide
  rw [hpk] at hs
  have hW : W256 s := by unfold W256; omega
  obtain ⟨r0, r1, r2, r3⟩ := limbs_rng s
  have hlj : l1 s < (2 : Int) ^ (8 * t) := by unfold l1; omega
  have ho := or_byte ht r1.1 hlj hv hv2
  have hsum := limbs_sum hW
  have hmul : v * (2 : Int) ^ (8 * k) = 18446744073709551616 * (v * (2 : Int) ^ (8 * t)) := by rw [hpk, Int.mul_left_comm]
  have hge : 0 ≤ v * (2 : Int) ^ (8 * t) := Int.mul_nonneg hv (by omega)
  have hn := limbs_of (n := s + v * (2 : Int) ^ (8 * k)) (a := l0 s) (b := l1 s + v * (2 : Int) ^ (8 * t)) (c := l2 s) (d := l3 s) (by omega) (by omega) (by omega) (by omega) (by rw [hmul]; omega)
  rw [hn.2.1, hn.2.2.1, hn.2.2.2.1, hn.2.2.2.2, ho.1]
  have := h.setCell (j := 1) (v := .int .u64 (l1 s + v * (2 : Int) ^ (8 * t)))
  simpa using this

theorem put_byte_2 {u : World} {b : Nat} {s v : Int} {k t : Nat} (ht : t < 8) (hk : k = 16 + t) (hs0 : 0 ≤ s) (hs : s < (2 : Int) ^ (8 * k)) (hv : 0 ≤ v) (hv2 : v ≤ 255) (h : Blk u b #[.int .u64 (l0 s), .int .u64 (l1 s), .int .u64 (l2 s), .int .u64 (l3 s)]) :
    Blk (u.setCell ⟨b, 2, none⟩ (.int .u64 (bits .or .u64 (l2 s) (IntKind.u64.wrap (v * (2 : Int) ^ (8 * t)))))) b #[.int .u64 (l0 (s + v * (2 : Int) ^ (8 * k))), .int .u64 (l1 (s + v * (2 : Int) ^ (8 * k))), .int .u64 (l2 (s + v * (2 : Int) ^ (8 * k))), .int .u64 (l3 (s + v * (2 : Int) ^ (8 * k)))] := by
  have hp := pow_pos2 (8 * t)
  have hpk : (2 : Int) ^ (8 * k) = 340282366920938463463374607431768211456 * (2 : Int) ^ (8 * t) := by
    rw [hk, show 8 * (16 + t) = 128 + 8 * t by omega, Int.pow_add, show (2 : Int) ^ 128 = 340282366920938463463374607431768211456 from by decide]
  have hpl : (2 : Int) ^ (8 * t) ≤ 72057594037927936 := by
    have : t = 0 ∨ t = 1 ∨ t = 2 ∨ t = 3 ∨ t = 4 ∨ t = 5 ∨ t = 6 ∨ t = 7 := by omega
    rcases this with rfl | rfl | rfl | rfl | rfl | rfl | rfl | rfl <;> decide
  rw [hpk] at hs
  have hW : W256 s := by unfold W256; omega
  obtain ⟨r0, r1, r2, r3⟩ := limbs_rng s
  have hlj : l2 s < (2 : Int) ^ (8 * t) := by unfold l2; omega
  have ho := or_byte ht r2.1 hlj hv hv2
  have hsum := limbs_sum hW
  have hmul : v * (2 : Int) ^ (8 * k) = 340282366920938463463374607431768211456 * (v * (2 : Int) ^ (8 * t)) := by rw [hpk, Int.mul_left_comm]
  have hge : 0 ≤ v * (2 : Int) ^ (8 * t) := Int.mul_nonneg hv (by omega)
  have hn := limbs_of (n := s + v * (2 : Int) ^ (8 * k)) (a := l0 s) (b := l1 s) (c := l2 s + v * (2 : Int) ^ (8 * t)) (d := l3 s) (by omega) (by omega) (by omega) (by omega) (by rw [hmul]; omega)
  rw [hn.2.1, hn.2.2.1, hn.2.2.2.1, hn.2.2.2.2, ho.1]
  have := h.setCell (j := 2) (v := .int .u64 (l2 s + v * (2 : Int) ^ (8 * t)))
  simpa using this

theorem put_byte_3 {u : World} {b : Nat} {s v : Int} {k t : Nat} (ht : t < 8) (hk : k = 24 + t) (hs0 : 0 ≤ s) (hs : s < (2 : Int) ^ (8 * k)) (hv : 0 ≤ v) (hv2 : v ≤ 255) (h : Blk u b #[.int .u64 (l0 s), .int .u64 (l1 s), .int .u64 (l2 s), .int .u64 (l3 s)]) :
    Blk (u.setCell ⟨b, 3, none⟩ (.int .u64 (bits .or .u64 (l3 s) (IntKind.u64.wrap (v * (2 : Int) ^ (8 * t)))))) b #[.int .u64 (l0 (s + v * (2 : Int) ^ (8 * k))), .int .u64 (l1 (s + v * (2 : Int) ^ (8 * k))), .int .u64 (l2 (s + v * (2 : Int) ^ (8 * k))), .int .u64 (l3 (s + v * (2 : Int) ^ (8 * k)))] := by
  have hp := pow_pos2 (8 * t)
  have hpk : (2 : Int) ^ (8 * k) = 6277101735386680763835789423207666416102355444464034512896 * (2 : Int) ^ (8 * t) := by
    rw [hk, show 8 * (24 + t) = 192 + 8 * t by omega, Int.pow_add, show (2 : Int) ^ 192 = 6277101735386680763835789423207666416102355444464034512896 from by decide]
  have hpl : (2 : Int) ^ (8 * t) ≤ 72057594037927936 := by
    have : t = 0 ∨ t = 1 ∨ t = 2 ∨ t = 3 ∨ t = 4 ∨ t = 5 ∨ t = 6 ∨ t = 7 := by omega
    rcases this with rfl | rfl | rfl | rfl | rfl | rfl | rfl | rfl <;> decide
  rw [hpk] at hs
  have hW : W256 s := by unfold W256; omega
  obtain ⟨r0, r1, r2, r3⟩ := limbs_rng s
  have hlj : l3 s < (2 : Int) ^ (8 * t) := by unfold l3; omega
  have ho := or_byte ht r3.1 hlj hv hv2
  have hsum := limbs_sum hW
  have hmul : v * (2 : Int) ^ (8 * k) = 6277101735386680763835789423207666416102355444464034512896 * (v * (2 : Int) ^ (8 * t)) := by rw [hpk, Int.mul_left_comm]
  have hge : 0 ≤ v * (2 : Int) ^ (8 * t) := Int.mul_nonneg hv (by omega)
  have hn := limbs_of (n := s + v * (2 : Int) ^ (8 * k)) (a := l0 s) (b := l1 s) (c := l2 s) (d := l3 s + v * (2 : Int) ^ (8 * t)) (by omega) (by omega) (by omega) (by omega) (by rw [hmul]; omega)
  rw [hn.2.1, hn.2.2.1, hn.2.2.2.1, hn.2.2.2.2, ho.1]
  have := h.setCell (j := 3) (v := .int .u64 (l3 s + v * (2 : Int) ^ (8 * t)))
  simpa using this

theorem bytesN_at (n : Int) {k : Nat} (hk : k < 32) : (bytesN n).getD (31 - k) 0 = byteN n k := by
  simp only [bytesN, List.getD]
  rw [List.getElem?_map, List.getElem?_range (by omega)]
  simp [show 31 - (31 - k) = k by omega]

theorem blk_drew' {w : World} {b : Nat} {cs : Array Value} (h : Blk w b cs) : Blk w.drew b cs := h

def FromI (w : World) (n : Int) (i : Value) (wr : World) : Prop :=
  ∃ (k : Nat) (s : Int), k ≤ 32 ∧ i = .int .i64 k ∧ s = n % (2 : Int) ^ (8 * k) ∧ Below w.heap.size w wr ∧ Blk wr w.heap.size ((bytesN n).map (Value.int .u8)).toArray ∧ Blk wr (w.heap.size + 1) #[.int .u64 0, .int .u64 0, .int .u64 0, .int .u64 0] ∧ Blk wr (w.heap.size + 1 + 1) #[.int .u64 (l0 s), .int .u64 (l1 s), .int .u64 (l2 s), .int .u64 (l3 s)]

set_option maxHeartbeats 2000000 in
theorem fromB_any (n : Int) (hn : W256 n) (w : World) :
    Calls Try.prog 114 #[.agg ((bytesN n).map (Value.int .u8)).toArray] w fun e w' => e = .returned (.agg #[.int .u64 (l0 (n)), .int .u64 (l1 (n)), .int .u64 (l2 (n)), .int .u64 (l3 (n))]) ∧ Below w.heap.size w w' := by
  obtain ⟨X, HX⟩ : ∃ X, Hid (X = ((bytesN n).map (Value.int .u8)).toArray) := ⟨_, rfl⟩
  rw [← HX.out]
  go_enter Try.func114, Try.ntmps114
  go_wp2_with fail
  go_loopw [6] (fun i wr => FromI w n i wr) (fun i _ => 32 - (intOf i).toNat)
  case atStart =>
    refine ⟨0, 0, by omega, rfl, by simp [Int.emod_one], ?_, ?_, ?_, ?_⟩
    · exact (((Below.refl _ _).alloc (Nat.le_refl _) _).alloc (by simp) _).alloc (by simp; omega) _
    · rw [← HX.out]; exact ((Blk.new rfl).alloc _).alloc _
    · exact (Blk.new (by simp)).alloc _
    · rw [limbs_zero.1, limbs_zero.2.1, limbs_zero.2.2.1, limbs_zero.2.2.2]; exact Blk.new (by simp)
  case round =>
    obtain ⟨k, s, hk, rfl, hs, hb, bX, bR, bS⟩ := hrel
    have HS := Lib.hid hs; clear hs
    obtain ⟨s0, s1, s2, s3, s4⟩ := bS.four
    by_cases hlt : k < 32
    · obtain ⟨t, ht⟩ : ∃ t, k % 8 = t := ⟨_, rfl⟩
      have hj4 : k / 8 = 0 ∨ k / 8 = 1 ∨ k / 8 = 2 ∨ k / 8 = 3 := by omega
      have hm : (k : Int).tmod 8 = t := by rw [Int.tmod_eq_emod_of_nonneg (by omega)]; omega
      have hm' : (k : Int) % 8 = t := by omega
      have htl : t < 8 := by omega
      have hk0 : (0 : Int) ≤ (k : Int) := by omega
      have hk2 : (k : Int) < 32 := by omega
      have hw31 : IntKind.i64.wrap (31 - (k : Int)) = 31 - (k : Int) := by
        simp only [IntKind.wrap, IntKind.signed, IntKind.bits]; simp; omega
      obtain ⟨v, HV⟩ : ∃ v, Hid (v = byteN n k) := ⟨_, rfl⟩
      have cx := bytes_cell bX (k := 31 - k) (by rw [(bytesN_is n).1]; omega)
      rw [bytesN_at n hlt, ← HV.out] at cx
      have hv := byteN_rng n k
      rw [← HV.out] at hv
      obtain ⟨hv0, hv1⟩ := hv
      have HNX := Lib.hid (show s + v * (2 : Int) ^ (8 * k) = n % (2 : Int) ^ (8 * (k + 1)) by rw [mod_byte, HS.out, HV.out])
      have HS0 := Lib.hid (show 0 ≤ s by rw [HS.out]; exact Int.emod_nonneg _ (by have := pow_pos2 (8 * k); omega))
      have HS1 := Lib.hid (show s < (2 : Int) ^ (8 * k) by rw [HS.out]; exact Int.emod_lt_of_pos _ (pow_pos2 _))
      have HB := Lib.hid hb; clear hb
      have hcomm : t * 8 = 8 * t := Nat.mul_comm _ _
      rcases hj4 with hj | hj | hj | hj
      · have hd : (k : Int).tdiv 8 = 0 := by rw [Int.tdiv_eq_ediv_of_nonneg (by omega)]; omega
        have hd' : (k : Int) / 8 = 0 := by omega
        have HK := Lib.hid (show k = 0 + t by omega)
        clear ht hj
        go_wp2_with fail
        go_region
        go_wp2_with fail
        refine ⟨⟨k + 1, s + v * (2 : Int) ^ (8 * k), by omega, rfl, HNX.out, ?_, ?_, ?_, ?_⟩, by simp [intOf]; omega⟩
        · exact (HB.out.setCell (by simp; omega) _).drew
        · exact blk_drew' (bX.setCell_other (by omega))
        · exact blk_drew' (bR.setCell_other (by omega))
        · exact blk_drew' (put_byte_0 htl HK.out HS0.out HS1.out hv0 hv1 bS)
      · have hd : (k : Int).tdiv 8 = 1 := by rw [Int.tdiv_eq_ediv_of_nonneg (by omega)]; omega
        have hd' : (k : Int) / 8 = 1 := by omega
        have HK := Lib.hid (show k = 8 + t by omega)
        clear ht hj
        go_wp2_with fail
        go_region
        go_wp2_with fail
        refine ⟨⟨k + 1, s + v * (2 : Int) ^ (8 * k), by omega, rfl, HNX.out, ?_, ?_, ?_, ?_⟩, by simp [intOf]; omega⟩
        · exact (HB.out.setCell (by simp; omega) _).drew
        · exact blk_drew' (bX.setCell_other (by omega))
        · exact blk_drew' (bR.setCell_other (by omega))
        · exact blk_drew' (put_byte_1 htl HK.out HS0.out HS1.out hv0 hv1 bS)
      · have hd : (k : Int).tdiv 8 = 2 := by rw [Int.tdiv_eq_ediv_of_nonneg (by omega)]; omega
        have hd' : (k : Int) / 8 = 2 := by omega
        have HK := Lib.hid (show k = 16 + t by omega)
        clear ht hj
        go_wp2_with fail
        go_region
        go_wp2_with fail
        refine ⟨⟨k + 1, s + v * (2 : Int) ^ (8 * k), by omega, rfl, HNX.out, ?_, ?_, ?_, ?_⟩, by simp [intOf]; omega⟩
        · exact (HB.out.setCell (by simp; omega) _).drew
        · exact blk_drew' (bX.setCell_other (by omega))
        · exact blk_drew' (bR.setCell_other (by omega))
        · exact blk_drew' (put_byte_2 htl HK.out HS0.out HS1.out hv0 hv1 bS)
      · have hd : (k : Int).tdiv 8 = 3 := by rw [Int.tdiv_eq_ediv_of_nonneg (by omega)]; omega
        have hd' : (k : Int) / 8 = 3 := by omega
        have HK := Lib.hid (show k = 24 + t by omega)
        clear ht hj
        go_wp2_with fail
        go_region
        go_wp2_with fail
        refine ⟨⟨k + 1, s + v * (2 : Int) ^ (8 * k), by omega, rfl, HNX.out, ?_, ?_, ?_, ?_⟩, by simp [intOf]; omega⟩
        · exact (HB.out.setCell (by simp; omega) _).drew
        · exact blk_drew' (bX.setCell_other (by omega))
        · exact blk_drew' (bR.setCell_other (by omega))
        · exact blk_drew' (put_byte_3 htl HK.out HS0.out HS1.out hv0 hv1 bS)
    · obtain rfl : k = 32 := by omega
      have hs' : s = n := by
        rw [HS.out, show (2 : Int) ^ (8 * 32) = 115792089237316195423570985008687907853269984665640564039457584007913129639936 from by decide]
        exact Int.emod_eq_of_lt hn.1 hn.2
      rw [hs'] at s0 s1 s2 s3
      obtain ⟨z0, z1, z2, z3, z4⟩ := bR.four
      have HBB := Lib.hid hb
      clear hb hs'
      go_wp2_with fail
      obtain ⟨tR, hR⟩ := bR.store4 (v0 := .int .u64 (l0 n)) (v1 := .int .u64 (l1 n)) (v2 := .int .u64 (l2 n)) (v3 := .int .u64 (l3 n))
      refine bodyPost_ret (results_cell_row rfl _ _ (w.heap.size + 1) tR _ (0, 0) _ rfl hR Try.underlying30 rfl (by kernel_rfl)) rfl ⟨rfl, ?_⟩
      exact below_store4 HBB.out (by omega)

end Go.Proofs.Ytmnojgdfbhdkhaa
