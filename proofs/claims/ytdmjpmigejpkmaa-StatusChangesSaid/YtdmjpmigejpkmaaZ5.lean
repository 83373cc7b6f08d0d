/- Several texts as one: FromB, CdV, CdY, CdZ, CdG, CdH, HeldM, SuC, TrO, ElM, WeA, ElN, TrJ, TrK, TrQ, SuA. -/
import Derived.Test.YtdmjpmigejpkmaaZ4
import Derived.BigRegion
import Derived.Test.YtdmjpmigejpkmaaLt
import Derived.Deep.MidRow
import Derived.Deep.RegionHeld3
import Derived.Deep.RegionHeld
import Derived.Test.YtdmjpmigejpkmaaHeld4
import Derived.Test.YtdmjpmigejpkmaaZ3
import Derived.Test.YtdmjpmigejpkmaaZ2
import Derived.Test.YtdmjpmigejpkmaaEls
import Derived.Deep.CutRange
import Derived.Test.YtdmjpmigejpkmaaShelf
namespace Go.Proofs.Ytdmjpmigejpkmaa

/-! FromB -/
section
set_option linter.unusedVariables false
open Go.RowKit

theorem byteN_rng (n : Int) (i : Nat) : 0 ≤ byteN n i ∧ byteN n i ≤ 255 := by unfold byteN; omega

theorem mod_byte (n : Int) (k : Nat) : n % (2 : Int) ^ (8 * (k + 1)) = n % (2 : Int) ^ (8 * k) + byteN n k * (2 : Int) ^ (8 * k) := by
  unfold byteN
  rw [show 8 * (k + 1) = 8 * k + 8 by omega, Int.pow_add, show (2 : Int) ^ 8 = 256 from rfl]
  have hp := pow_pos2 (8 * k)
  generalize (2 : Int) ^ (8 * k) = P at *
  have h1 := Int.mul_ediv_add_emod n P
  have h2 := Int.mul_ediv_add_emod (n / P) 256
  have h3 := Int.emod_nonneg n (show P ≠ 0 by omega)
  have h4 := Int.emod_lt_of_pos n hp
  have h5 := Int.emod_nonneg (n / P) (show (256 : Int) ≠ 0 by omega)
  have h6 := Int.emod_lt_of_pos (n / P) (show (0 : Int) < 256 by omega)
  generalize n / P % 256 = r at *
  generalize n % P = s at *
  have hle : P * r ≤ P * 255 := Int.mul_le_mul_of_nonneg_left (by omega) (by omega)
  have hge : 0 ≤ P * r := Int.mul_nonneg (by omega) (by omega)
  have hn : n = P * 256 * (n / P / 256) + (s + P * r) := by
    have : P * (n / P) = P * 256 * (n / P / 256) + P * r := by
      rw [Int.mul_assoc, ← Int.mul_add, h2]
    omega
  rw [hn, Int.mul_add_emod_self_left, Int.emod_eq_of_lt (by omega) (by omega), Int.mul_comm r]

theorem or_byte {l b : Int} {t : Nat} (ht : t < 8) (hl : 0 ≤ l) (hl2 : l < (2 : Int) ^ (8 * t)) (hb : 0 ≤ b) (hb2 : b ≤ 255) : bits .or .u64 l (IntKind.u64.wrap (b * (2 : Int) ^ (8 * t))) = l + b * (2 : Int) ^ (8 * t) ∧ l + b * (2 : Int) ^ (8 * t) < 18446744073709551616 := by
  have hp := pow_pos2 (8 * t)
  have hB : (18446744073709551616 : Int) = (2 : Int) ^ (8 * t) * ((2 : Int) ^ (56 - 8 * t) * 256) := by
    rw [show (256 : Int) = 2 ^ 8 from rfl, ← Int.pow_add, ← Int.pow_add, show 8 * t + (56 - 8 * t + 8) = 64 by omega]; rfl
  have hlt : l + b * (2 : Int) ^ (8 * t) < 18446744073709551616 := by
    have h1 : (b + 1) * (2 : Int) ^ (8 * t) ≤ 256 * (2 : Int) ^ (8 * t) := Int.mul_le_mul_of_nonneg_right (by omega) (by omega)
    have h2 : 256 * (2 : Int) ^ (8 * t) ≤ 18446744073709551616 := by
      rw [hB, Int.mul_comm 256]
      apply Int.mul_le_mul_of_nonneg_left _ (by omega)
      have := pow_pos2 (56 - 8 * t)
      omega
    rw [Int.add_mul, Int.one_mul] at h1
    omega
  refine ⟨?_, hlt⟩
  have hb0 : 0 ≤ b * (2 : Int) ^ (8 * t) := Int.mul_nonneg hb (by omega)
  rw [u64_wrap hb0 (by omega)]
  obtain ⟨x, rfl⟩ := Int.eq_ofNat_of_zero_le hb
  obtain ⟨y, rfl⟩ := Int.eq_ofNat_of_zero_le hl
  have c2 : (x : Int) * (2 : Int) ^ (8 * t) = ((x * 2 ^ (8 * t) : Nat) : Int) := by rw [Int.natCast_mul, Int.natCast_pow]; rfl
  have c1 : (2 : Int) ^ (8 * t) = ((2 ^ (8 * t) : Nat) : Int) := by rw [Int.natCast_pow]; rfl
  rw [c2] at hlt hb0 ⊢
  rw [c1] at hl2
  have hl3 : y < 2 ^ (8 * t) := Int.ofNat_lt.1 hl2
  have hlt2 : y + x * 2 ^ (8 * t) < 18446744073709551616 := Int.ofNat_lt.1 (by rw [Int.natCast_add]; exact hlt)
  have h := or_low (8 * t) x y hl3 (by omega)
  rw [bits_or_u64_nat _ _ (by omega) (by omega)] at h ⊢
  rw [Nat.or_comm, h, Int.natCast_add, Int.add_comm]

theorem put_byte_0 {u : World} {b : Nat} {s v : Int} {k t : Nat} (ht : t < 8) (hk : k = 0 + t) (hs0 : 0 ≤ s) (hs : s < (2 : Int) ^ (8 * k)) (hv : 0 ≤ v) (hv2 : v ≤ 255) (h : Blk u b #[.int .u64 (l0 s), .int .u64 (l1 s), .int .u64 (l2 s), .int .u64 (l3 s)]) :
    Blk (u.setCell ⟨b, 0, none⟩ (.int .u64 (bits .or .u64 (l0 s) (IntKind.u64.wrap (v * (2 : Int) ^ (8 * t)))))) b #[.int .u64 (l0 (s + v * (2 : Int) ^ (8 * k))), .int .u64 (l1 (s + v * (2 : Int) ^ (8 * k))), .int .u64 (l2 (s + v * (2 : Int) ^ (8 * k))), .int .u64 (l3 (s + v * (2 : Int) ^ (8 * k)))] := by
  have hp := pow_pos2 (8 * t)
  have hpk : (2 : Int) ^ (8 * k) = 1 * (2 : Int) ^ (8 * t) := by
    rw [hk, show 8 * (0 + t) = 0 + 8 * t by omega, Int.pow_add, show (2 : Int) ^ 0 = 1 from by decide]
  have hpl : (2 : Int) ^ (8 * t) ≤ 72057594037927936 := by
    have : t = 0 ∨ t = 1 ∨ t = 2 ∨ t = 3 ∨ t = 4 ∨ t = 5 ∨ t = 6 ∨ t = 7 := by omega
    rcases this with rfl | rfl | rfl | rfl | rfl | rfl | rfl | rfl <;> decide
  rw [hpk] at hs
  have hW : W256 s := by unfold W256; omega
  obtain ⟨r0, r1, r2, r3⟩ := limbs_rng s
  have hlj : l0 s < (2 : Int) ^ (8 * t) := by unfold l0; omega
  have ho := or_byte ht r0.1 hlj hv hv2
  have hsum := limbs_sum hW
  have hmul : v * (2 : Int) ^ (8 * k) = 1 * (v * (2 : Int) ^ (8 * t)) := by rw [hpk, Int.mul_left_comm]
  have hge : 0 ≤ v * (2 : Int) ^ (8 * t) := Int.mul_nonneg hv (by omega)
  have hn := limbs_of (n := s + v * (2 : Int) ^ (8 * k)) (a := l0 s + v * (2 : Int) ^ (8 * t)) (b := l1 s) (c := l2 s) (d := l3 s) (by omega) (by omega) (by omega) (by omega) (by rw [hmul]; omega)
  rw [hn.2.1, hn.2.2.1, hn.2.2.2.1, hn.2.2.2.2, ho.1]
  have := h.setCell (j := 0) (v := .int .u64 (l0 s + v * (2 : Int) ^ (8 * t)))
  simpa using this

theorem put_byte_1 {u : World} {b : Nat} {s v : Int} {k t : Nat} (ht : t < 8) (hk : k = 8 + t) (hs0 : 0 ≤ s) (hs : s < (2 : Int) ^ (8 * k)) (hv : 0 ≤ v) (hv2 : v ≤ 255) (h : Blk u b #[.int .u64 (l0 s), .int .u64 (l1 s), .int .u64 (l2 s), .int .u64 (l3 s)]) :
    Blk (u.setCell ⟨b, 1, none⟩ (.int .u64 (bits .or .u64 (l1 s) (IntKind.u64.wrap (v * (2 : Int) ^ (8 * t)))))) b #[.int .u64 (l0 (s + v * (2 : Int) ^ (8 * k))), .int .u64 (l1 (s + v * (2 : Int) ^ (8 * k))), .int .u64 (l2 (s + v * (2 : Int) ^ (8 * k))), .int .u64 (l3 (s + v * (2 : Int) ^ (8 * k)))] := by
  have hp := pow_pos2 (8 * t)
  have hpk : (2 : Int) ^ (8 * k) = 18446744073709551616 * (2 : Int) ^ (8 * t) := by
    rw [hk, show 8 * (8 + t) = 64 + 8 * t by omega, Int.pow_add, show (2 : Int) ^ 64 = 18446744073709551616 from by decide]
  have hpl : (2 : Int) ^ (8 * t) ≤ 72057594037927936 := by
    have : t = 0 ∨ t = 1 ∨ t = 2 ∨ t = 3 ∨ t = 4 ∨ t = 5 ∨ t = 6 ∨ t = 7 := by omega
    rcases this with rfl | rfl | rfl | rfl | rfl | rfl | rfl | rfl <;> decide
  rw [hpk] at hs
  have hW : W256 s := by unfold W256; omega
  obtain ⟨r0, r1, r2, r3⟩ := limbs_rng s
  have hlj : l1 s < (2 : Int) ^ (8 * t) := by unfold l1; omega
  have ho := or_byte ht r1.1 hlj hv hv2
  have hsum := limbs_sum hW
  have hmul : v * (2 : Int) ^ (8 * k) = 18446744073709551616 * (v * (2 : Int) ^ (8 * t)) := by rw [hpk, Int.mul_left_comm]
  have hge : 0 ≤ v * (2 : Int) ^ (8 * t) := Int.mul_nonneg hv (by omega)
  have hn := limbs_of (n := s + v * (2 : Int) ^ (8 * k)) (a := l0 s) (b := l1 s + v * (2 : Int) ^ (8 * t)) (c := l2 s) (d := l3 s) (by omega) (by omega) (by omega) (by omega) (by rw [hmul]; omega)
  rw [hn.2.1, hn.2.2.1, hn.2.2.2.1, hn.2.2.2.2, ho.1]
  have := h.setCell (j := 1) (v := .int .u64 (l1 s + v * (2 : Int) ^ (8 * t)))
  simpa using this

theorem put_byte_2 {u : World} {b : Nat} {s v : Int} {k t : Nat} (ht : t < 8) (hk : k = 16 + t) (hs0 : 0 ≤ s) (hs : s < (2 : Int) ^ (8 * k)) (hv : 0 ≤ v) (hv2 : v ≤ 255) (h : Blk u b #[.int .u64 (l0 s), .int .u64 (l1 s), .int .u64 (l2 s), .int .u64 (l3 s)]) :
    Blk (u.setCell ⟨b, 2, none⟩ (.int .u64 (bits .or .u64 (l2 s) (IntKind.u64.wrap (v * (2 : Int) ^ (8 * t)))))) b #[.int .u64 (l0 (s + v * (2 : Int) ^ (8 * k))), .int .u64 (l1 (s + v * (2 : Int) ^ (8 * k))), .int .u64 (l2 (s + v * (2 : Int) ^ (8 * k))), .int .u64 (l3 (s + v * (2 : Int) ^ (8 * k)))] := by
  have hp := pow_pos2 (8 * t)
  have hpk : (2 : Int) ^ (8 * k) = 340282366920938463463374607431768211456 * (2 : Int) ^ (8 * t) := by
    rw [hk, show 8 * (16 + t) = 128 + 8 * t by omega, Int.pow_add, show (2 : Int) ^ 128 = 340282366920938463463374607431768211456 from by decide]
  have hpl : (2 : Int) ^ (8 * t) ≤ 72057594037927936 := by
    have : t = 0 ∨ t = 1 ∨ t = 2 ∨ t = 3 ∨ t = 4 ∨ t = 5 ∨ t = 6 ∨ t = 7 := by omega
    rcases this with rfl | rfl | rfl | rfl | rfl | rfl | rfl | rfl <;> decide
  rw [hpk] at hs
  have hW : W256 s := by unfold W256; omega
  obtain ⟨r0, r1, r2, r3⟩ := limbs_rng s
  have hlj : l2 s < (2 : Int) ^ (8 * t) := by unfold l2; omega
  have ho := or_byte ht r2.1 hlj hv hv2
  have hsum := limbs_sum hW
  have hmul : v * (2 : Int) ^ (8 * k) = 340282366920938463463374607431768211456 * (v * (2 : Int) ^ (8 * t)) := by rw [hpk, Int.mul_left_comm]
  have hge : 0 ≤ v * (2 : Int) ^ (8 * t) := Int.mul_nonneg hv (by omega)
  have hn := limbs_of (n := s + v * (2 : Int) ^ (8 * k)) (a := l0 s) (b := l1 s) (c := l2 s + v * (2 : Int) ^ (8 * t)) (d := l3 s) (by omega) (by omega) (by omega) (by omega) (by rw [hmul]; omega)
  rw [hn.2.1, hn.2.2.1, hn.2.2.2.1, hn.2.2.2.2, ho.1]
  have := h.setCell (j := 2) (v := .int .u64 (l2 s + v * (2 : Int) ^ (8 * t)))
  simpa using this

theorem put_byte_3 {u : World} {b : Nat} {s v : Int} {k t : Nat} (ht : t < 8) (hk : k = 24 + t) (hs0 : 0 ≤ s) (hs : s < (2 : Int) ^ (8 * k)) (hv : 0 ≤ v) (hv2 : v ≤ 255) (h : Blk u b #[.int .u64 (l0 s), .int .u64 (l1 s), .int .u64 (l2 s), .int .u64 (l3 s)]) :
    Blk (u.setCell ⟨b, 3, none⟩ (.int .u64 (bits .or .u64 (l3 s) (IntKind.u64.wrap (v * (2 : Int) ^ (8 * t)))))) b #[.int .u64 (l0 (s + v * (2 : Int) ^ (8 * k))), .int .u64 (l1 (s + v * (2 : Int) ^ (8 * k))), .int .u64 (l2 (s + v * (2 : Int) ^ (8 * k))), .int .u64 (l3 (s + v * (2 : Int) ^ (8 * k)))] := by
  have hp := pow_pos2 (8 * t)
  have hpk : (2 : Int) ^ (8 * k) = 6277101735386680763835789423207666416102355444464034512896 * (2 : Int) ^ (8 * t) := by
    rw [hk, show 8 * (24 + t) = 192 + 8 * t by omega, Int.pow_add, show (2 : Int) ^ 192 = 6277101735386680763835789423207666416102355444464034512896 from by decide]
  have hpl : (2 : Int) ^ (8 * t) ≤ 72057594037927936 := by
    have : t = 0 ∨ t = 1 ∨ t = 2 ∨ t = 3 ∨ t = 4 ∨ t = 5 ∨ t = 6 ∨ t = 7 := by omega
    rcases this with rfl | rfl | rfl | rfl | rfl | rfl | rfl | rfl <;> decide
  rw [hpk] at hs
  have hW : W256 s := by unfold W256; omega
  obtain ⟨r0, r1, r2, r3⟩ := limbs_rng s
  have hlj : l3 s < (2 : Int) ^ (8 * t) := by unfold l3; omega
  have ho := or_byte ht r3.1 hlj hv hv2
  have hsum := limbs_sum hW
  have hmul : v * (2 : Int) ^ (8 * k) = 6277101735386680763835789423207666416102355444464034512896 * (v * (2 : Int) ^ (8 * t)) := by rw [hpk, Int.mul_left_comm]
  have hge : 0 ≤ v * (2 : Int) ^ (8 * t) := Int.mul_nonneg hv (by omega)
  have hn := limbs_of (n := s + v * (2 : Int) ^ (8 * k)) (a := l0 s) (b := l1 s) (c := l2 s) (d := l3 s + v * (2 : Int) ^ (8 * t)) (by omega) (by omega) (by omega) (by omega) (by rw [hmul]; omega)
  rw [hn.2.1, hn.2.2.1, hn.2.2.2.1, hn.2.2.2.2, ho.1]
  have := h.setCell (j := 3) (v := .int .u64 (l3 s + v * (2 : Int) ^ (8 * t)))
  simpa using this

theorem bytesN_at (n : Int) {k : Nat} (hk : k < 32) : (bytesN n).getD (31 - k) 0 = byteN n k := by
  simp only [bytesN, List.getD]
  rw [List.getElem?_map, List.getElem?_range (by omega)]
  simp [show 31 - (31 - k) = k by omega]

theorem blk_drew' {w : World} {b : Nat} {cs : Array Value} (h : Blk w b cs) : Blk w.drew b cs := h

def FromI (w : World) (n : Int) (i : Value) (wr : World) : Prop :=
  ∃ (k : Nat) (s : Int), k ≤ 32 ∧ i = .int .i64 k ∧ s = n % (2 : Int) ^ (8 * k) ∧ Below w.heap.size w wr ∧ Blk wr w.heap.size ((bytesN n).map (Value.int .u8)).toArray ∧ Blk wr (w.heap.size + 1) #[.int .u64 0, .int .u64 0, .int .u64 0, .int .u64 0] ∧ Blk wr (w.heap.size + 1 + 1) #[.int .u64 (l0 s), .int .u64 (l1 s), .int .u64 (l2 s), .int .u64 (l3 s)]
end

/-! CdV -/
section
set_option linter.unusedVariables false
open Go.RowKit
variable {lo : Nat}

theorem byt_head {w : World} {a : Option Addr} {c : Nat} {x : Int} (h : Byt w (.slice a 1 c) [x]) : ∃ b o, a = some ⟨b, o, none⟩ ∧ w.cell? ⟨b, o, none⟩ = some (.int .u8 x) := by
  obtain ⟨_, _, _, e, _, _, hr⟩ := h.ints
  cases e
  rcases hr with hr | ⟨b, o, e, _, hc⟩
  · omega
  · exact ⟨b, o, e, hc 0 (by omega)⟩

/-- Bool: value, bytes left, error. -/
def bV (rest : List Int) (e : Int) : Bool := decide (e = 0 ∧ 0 < rest.length ∧ rest.getD 0 0 = 1)

def bR (rest : List Int) (e : Int) : List Int := if e = 0 ∧ 0 < rest.length ∧ rest.getD 0 0 ≤ 1 then rest.drop 1 else rest

def bE (rest : List Int) (e : Int) : Int := if e ≠ 0 then e else if rest.length = 0 then 5 else if 1 < rest.getD 0 0 then 2 else 0
end

/-! CdY -/
section
set_option linter.unusedVariables false
open Go.RowKit
variable {lo : Nat}

def byN (rest : List Int) (e : Int) : Int := ruV rest e 18446744073709551615

def byR1 (rest : List Int) (e : Int) : List Int := ruR rest e 18446744073709551615

def byE1 (rest : List Int) (e : Int) : Int := ruE rest e 18446744073709551615

/-- Bytes: its error, its value, what is left. -/
def byE (rest : List Int) (e most : Int) : Int := if byE1 rest e ≠ 0 then byE1 rest e else if most < 0 ∨ most < byN rest e then 3 else tkE (byR1 rest e) 0 (byN rest e)

def byV (rest : List Int) (e most : Int) : List Int := if byE rest e most = 0 then tkV (byR1 rest e) 0 (byN rest e) else []

def byR (rest : List Int) (e most : Int) : List Int := if byE rest e most = 0 then tkR (byR1 rest e) 0 (byN rest e) else rest

def RdB (lo : Nat) (w : World) (g : Nat) (ys rest : List Int) (e : Int) (en : Ending) (w' : World) : Prop := ∃ v', en = .returned v' ∧ Byt w' v' ys ∧ Rdr lo w' g rest e ∧ w.grownBy w' (some g)

theorem ruV_rng {rest : List Int} {e most : Int} (h : ∀ k, k < rest.length → 0 ≤ rest.getD k 0 ∧ rest.getD k 0 ≤ 255) : 0 ≤ ruV rest e most ∧ ruV rest e most ≤ 18446744073709551615 := by
  have hP := pu_rng rest h 10 0 rfl
  unfold ruV
  split
  · omega
  · split
    · omega
    · split <;> omega

theorem ruR_len (rest : List Int) (e most : Int) : (ruR rest e most).length ≤ rest.length := by
  unfold ruR
  split
  · omega
  · split
    · omega
    · split
      · omega
      · simp

theorem tkV_len (rest : List Int) (e n : Int) : (tkV rest e n).length ≤ rest.length := by
  unfold tkV
  split
  · simp
  · split
    · simp
    · simp; omega

theorem two3 {w : World} {g : Nat} {rest : List Int} {e : Int} (h : Rdr lo w g rest e) : ∃ a l c, w.cell? ⟨g, 0, none⟩ = some (.slice a l c) ∧ w.cell? ⟨g, 1, none⟩ = some (.int .i64 e) ∧ ∀ j, w.frozen? ⟨g, j, none⟩ = false := by
  obtain ⟨a, l, c, hB, _⟩ := h
  exact ⟨a, l, c, Rdr.two hB⟩
end

/-! CdZ -/
section
set_option linter.unusedVariables false
open Go.RowKit
variable {lo : Nat}

/-- A checkpoint's cells. -/
def cpV (n : Int) (xs : List Int) : Array Value := (Value.int .u64 n :: xs.map (Value.int .u8)).toArray

theorem cpV_app (n : Int) (xs : List Int) : #[Value.int .u64 n] ++ bytesV xs = cpV n xs := by simp [cpV, bytesV]

theorem cpV_set (n m : Int) (xs : List Int) : (cpV n xs).setIfInBounds 0 (.int .u64 m) = #[.int .u64 m] ++ bytesV xs := by simp [cpV, bytesV]

theorem cpV_zero (n : Int) (xs : List Int) : (cpV n xs)[0]? = some (.int .u64 n) := by simp [cpV]

theorem cpV_size {n : Int} {xs : List Int} (h : IsBytes 32 xs) : (cpV n xs).size = 33 := by simp [cpV, h.1]

theorem cpV_one (n : Int) (xs : List Int) : ∀ v ∈ cpV n xs, v.oneCell' = true := by
  intro v hv
  simp only [cpV, List.mem_toArray, List.mem_cons, List.mem_map] at hv
  rcases hv with rfl | ⟨x, _, rfl⟩ <;> rfl

theorem setCells_low {w : World} {b : Nat} : ∀ (vs : List Value) (o k : Nat), k < o → (w.setCells b o vs).cell? ⟨b, k, none⟩ = w.cell? ⟨b, k, none⟩
  | [], o, k, _ => rfl
  | v :: r, o, k, h => by
    rw [World.setCells, setCells_low r (o + 1) k (by omega)]
    exact World.cell?_setCell_other w ⟨b, o, none⟩ ⟨b, k, none⟩ v (by intro e; cases e; omega)

/-- A part of a block that is known whole is stored: up to its end. -/
theorem wpList_store_end {P : Program} {ops : Array Oper} {rest : List Oper} {op : Oper} {a : Act} {w : World} {Q : Exit → Act → World → Prop} (hgd : op.guard = none) (ty : TypeId) (x y : Operand) (ho : op.op = .store ty x y)
    (b : Nat) (c0 : Array Value) (cs' : Array Value) (hx : a.eval x = .pointer (some ⟨b, c0.size, none⟩)) (hy : a.eval y = .agg cs') (cs : Array Value) (hB : Blk w b (c0 ++ cs))
    (hs : cs.size = cs'.size) (hi : (P.info? ty).map (·.size) = some cs'.size) (h1 : ∀ v ∈ cs', v.oneCell' = true)
    (h : ∀ w', Upd b w w' → Blk w' b (c0 ++ cs') → wpList P ops Q rest (a.put op.dst undef) w') : wpList P ops Q (op :: rest) a w := by
  have hth : w.there b c0.size cs'.size := fun j hj => ⟨by rw [hB.cell]; simp [hs]; omega, hB.free _⟩
  refine wpList_store_mid hgd ty x y ho b c0.size cs' hx hy hth hi (Array.all_eq_true_iff_forall_mem.2 h1) ?_
  obtain ⟨c, h2, h3, h4⟩ := setCells_blk (w := w) (b := b) cs'.toList c0.size (c0 ++ cs) hB
  refine h _ h4 ?_
  have hr := World.rangeAt_setCells_same w b c0.size cs'.toList (by simpa using hth)
  have : c = c0 ++ cs' := by
    apply Array.ext_getElem?
    intro i
    by_cases hi0 : i < c0.size
    · have := setCells_low (w := w) (b := b) cs'.toList c0.size i hi0
      rw [h2.cell, hB.cell] at this
      rw [this, Array.getElem?_append_left hi0, Array.getElem?_append_left hi0]
    · by_cases hi : i < c0.size + cs'.size
      · have := hr (i - c0.size) cs'[i - c0.size] (by simp [show i - c0.size < cs'.size by omega])
        rw [show c0.size + (i - c0.size) = i by omega, h2.cell] at this
        rw [this, Array.getElem?_append_right (by omega)]
        simp [show i - c0.size < cs'.size by omega]
      · rw [Array.getElem?_eq_none (by rw [h3, Array.size_append]; omega), Array.getElem?_eq_none (by rw [Array.size_append]; omega)]
  exact this ▸ h2

theorem ruR_rng {rest : List Int} {e most : Int} (h : ∀ x ∈ rest, 0 ≤ x ∧ x ≤ 255) : ∀ x ∈ ruR rest e most, 0 ≤ x ∧ x ≤ 255 := by
  unfold ruR
  split
  · exact h
  · split
    · exact h
    · split
      · exact h
      · exact fun x hx => h x (List.mem_of_mem_drop hx)

def cpN (rest : List Int) (e : Int) : Int := ruV rest e 18446744073709551615

def cpR1 (rest : List Int) (e : Int) : List Int := ruR rest e 18446744073709551615

def cpE1 (rest : List Int) (e : Int) : Int := ruE rest e 18446744073709551615

/-- Checkpoint: its error, its value, what is left. -/
def cpE (rest : List Int) (e : Int) : Int := tkE (cpR1 rest e) (cpE1 rest e) 32

def cpXr (rest : List Int) (e : Int) : Array Value := if cpE rest e = 0 then cpV (cpN rest e) (wV (cpR1 rest e) (cpE1 rest e)) else cpV 0 zeroR

def cpR (rest : List Int) (e : Int) : List Int := if cpE rest e = 0 then tkR (cpR1 rest e) (cpE1 rest e) 32 else rest
end

/-! CdG -/
section
set_option linter.unusedVariables false
open Go.RowKit

theorem cp_range {w : World} {b : Nat} {n : Int} {xs : List Int} (h : Blk w b (cpV n xs)) : w.cell? ⟨b, 0, none⟩ = some (.int .u64 n) ∧ w.rangeAt b 1 (xs.map (Value.int .u8)) := by
  refine ⟨(h.cell 0).trans (cpV_zero _ _), fun j v hv => ?_⟩
  rw [h.cell]
  simp only [cpV]
  rw [show 1 + j = j + 1 by omega]
  simpa using hv

theorem Grew.blk {w w' : World} {v v' : Value} {b : Nat} {cs : Array Value} (h : Grew w w' v v') (hB : Blk w b cs) (hne : some b ≠ v.ownBlock) : Blk w' b cs := hB.grown h.grown hne
end

/-! CdH -/
section
set_option linter.unusedVariables false
open Go.RowKit

theorem build_cp (n : Int) (xs : List Int) (hx : IsBytes 32 xs) (u : World) : (Instr.build 33 #[(0, .int .u64 n), (1, .agg (bytesV xs))]).run Try.prog u = .ok (.agg (cpV n xs)) u := by
  have hz : ∀ w, (zeroValue 33).run Try.prog w = .ok (.agg (cpV 0 zeroR)) w := fun w => by kernel_rfl
  have hX : (bytesV xs).size = 32 := bytesV_size hx.1
  have hf : ∀ place : Nat → Option (Nat × Nat), place 0 = some (0, 1) → place 1 = some (1, 32) → Instr.fill place (cpV 0 zeroR) [(0, .int .u64 n), (1, .agg (bytesV xs))] = some (cpV n xs) := fun place h0 h1 => by
    have e0 : cpV 0 zeroR = ([] ++ (Value.int .u64 0 :: zeroR.map (Value.int .u8))).toArray := rfl
    rw [e0, fill_step (D := []) (v := .int .u64 n) h0 (by simp [Value.cells])]
    have e1 : ([] ++ (Value.int .u64 n).cells.toList ++ (Value.int .u64 0 :: zeroR.map (Value.int .u8)).drop (Value.int .u64 n).cells.size) = [Value.int .u64 n] ++ zeroR.map (Value.int .u8) := by simp [Value.cells]
    rw [e1, fill_step (D := [Value.int .u64 n]) (v := .agg (bytesV xs)) (by rw [h1]; simp [Value.cells, hX]) (by simp [Value.cells, hX, zeroR])]
    unfold Instr.fill
    congr 1
    simp [Value.cells, zeroR, cpV, bytesV]
    have := hx.1
    omega
  exact build_struct hz Try.underlying33 (places := #[(0, 1), (1, 32)]) (fun w => by kernel_rfl) (hf _ rfl rfl) u
end

/-! HeldM -/
section
set_option linter.unusedVariables false

end

/-! SuC -/
section
set_option linter.unusedVariables false
set_option linter.unusedSimpArgs false
open Go.RowKit

set_option maxRecDepth 100000

/-- The tree's box and the result's. -/
def RcS (w : World) (T : Array Value) (u : World) : Prop := PaS w T u ∧ ∃ x, Blk u (w.heap.size + 1) #[x]

theorem RcS.call {w u u' : World} {T : Array Value} (h : RcS w T u) (hb : Below u.heap.size u u') : RcS w T u' := ⟨h.1.call hb, h.2.imp fun _ hx => hx.call hb⟩

set_option maxHeartbeats 8000000 in
theorem crai_any (ns : List NdD) (hok : TrOK ns) (hlen : ns.length ≤ 100000) (i : Int) (hir : -9223372036854775808 ≤ i ∧ i ≤ 9223372036854775807) (v : Value) (w : World) (hN : NodesV w v ns) :
    Calls Try.prog 19 #[.agg #[v], .int .i64 i] w (SetE (raiN ns i) w) := by
  have hi1 : (Try.prog.info? 25).map (·.size) = some 1 := by kernel_rfl
  rw [rai_set hok i]
  have HPA : Hid (∀ u, Below w.heap.size w u → Calls Try.prog 37 #[.agg #[v], .int .i64 i] u fun e w' => ∃ v', e = .returned v' ∧ IntsV w' v' (pathN ns i) ∧ Below u.heap.size u w') := fun u hu => (anpa_any ns hok hlen i hir v u (hN.call hu))
  have HSE := Lib.hid (fun lv u (hu : Below w.heap.size w u) (hI : IntsV u lv (pathN ns i)) => settle_any ns hlen v lv (pathN ns i) 1 2 (by omega) (pathN_rng hok i) (by omega) u (hN.call hu) hI)
  unfold SetE at HSE
  obtain ⟨a, cap, rfl, hmx⟩ := hN.shape
  unfold maxLen at hmx
  obtain ⟨m, hm⟩ : ∃ m, Hid (ns.length = m) := ⟨_, Lib.hid rfl⟩
  obtain ⟨R, hR⟩ : ∃ R, setN ns (pathN ns i) 1 2 = R := ⟨_, rfl⟩
  obtain ⟨P, hP⟩ : ∃ P, pathN ns i = P := ⟨_, rfl⟩
  rw [hR, hP] at HSE
  rw [hP] at HPA
  rw [hR]
  rw [hm.out] at HPA HSE hmx ⊢
  clear hN hR hP hok hm hlen hir
  have S0 := Lib.hid (pas_new w #[.slice a m cap] 25)
  have S1 : Hid (RcS w #[.slice a m cap] ((w.alloc (.cells #[.slice a m cap] 25)).alloc (.cells #[.slice none 0 0] 25))) := ⟨⟨S0.out.t.alloc _, S0.out.b.alloc S0.out.b.size _⟩, _, Blk.new (by simp)⟩
  clear S0
  go_enter Try.func19, Try.ntmps19
  go_upto_region 1 with fail
  obtain ⟨wq, hwq⟩ : ∃ x, ((w.alloc (.cells #[.slice a m cap] 25)).alloc (.cells #[.slice none 0 0] 25)) = x := ⟨_, rfl⟩
  rw [hwq] at S1 ⊢
  clear hwq
  have HSx0 : Hid ((fun u => RcS w #[.slice a m cap] u) wq.drew) := S1.out.call (Below.drewN (n := 1) (Below.refl _ _) : Below wq.heap.size wq wq.drew)
  refine wp_region_held_drew (S := fun u => RcS w #[.slice a m cap] u) (by kernel_rfl) (HSx0.out) (fun _ => ?_)
  (try simp only [Act.put, List.setIfInBounds_toArray, List.set_cons_zero, List.set_cons_succ])
  obtain ⟨x0, hx0⟩ : ∃ x, wq.drew = x := ⟨_, rfl⟩
  rw [hx0] at HSx0 ⊢
  clear hx0
  refine held_load (oi := ⟨some 6, _, _, _, _, _⟩) 0 rfl (by kernel_rfl) (by kernel_rfl) (by kernel_rfl) (fun _ _ _ _ h => h) rfl 25 (.tmp 2) rfl w.heap.size (0) rfl [.slice a m cap] _ (fun u' hu => hu.1.t.rng) Try.underlying25 rfl (hi1) HSx0.out ?_
  (try simp only [Act.put, List.setIfInBounds_toArray, List.set_cons_zero, List.set_cons_succ])
  refine held_load (oi := ⟨some 7, _, _, _, _, _⟩) 1 rfl (by kernel_rfl) (by kernel_rfl) (by kernel_rfl) (fun _ _ _ _ h => h) rfl 25 (.tmp 2) rfl w.heap.size (0) rfl [.slice a m cap] _ (fun u' hu => hu.1.t.rng) Try.underlying25 rfl (hi1) HSx0.out ?_
  (try simp only [Act.put, List.setIfInBounds_toArray, List.set_cons_zero, List.set_cons_succ])
  refine wpAnyH_take (i := 2) (oi := ⟨some 8, _, _, _, _, _⟩) (v := .int .i64 i) rfl (by kernel_rfl) (by kernel_rfl) (by kernel_rfl) (fun _ _ _ h => h) (Or.inl ⟨by rfl, fun wz hz => ?_⟩) HSx0.out ?_
  · clear hz; go_simp; first | done | with_reducible rfl | rfl
  (try simp only [Act.put, List.setIfInBounds_toArray, List.set_cons_zero, List.set_cons_succ])
  refine wpAnyH_ready (rs := [3]) (by kernel_rfl) (by simp) ?_
  refine AllReadyH.cons (o := ⟨some 9, _, _, _, _, _⟩) rfl (fun K hK => ?_) AllReadyH.nil
  go_simp
  refine (HPA.out x0 HSx0.out.1.b).mono ?_
  rintro e x1 ⟨v1, rfl, hc1, hb⟩
  have HC1 := Lib.hid hc1
  clear hc1
  have HSx1 : Hid ((fun u => RcS w #[.slice a m cap] u) x1) := HSx0.out.call hb
  clear hb
  refine hK.out _ _ (HSx1.out) (fun _ => ?_)
  clear hK K
  (try simp only [Act.put, List.setIfInBounds_toArray, List.set_cons_zero, List.set_cons_succ])
  refine wpAnyH_ready (rs := [4]) (by kernel_rfl) (by simp) ?_
  refine AllReadyH.cons (o := ⟨some 10, _, _, _, _, _⟩) rfl (fun K hK => ?_) AllReadyH.nil
  go_simp
  refine (HSE.out v1 x1 HSx1.out.1.b HC1.out).mono ?_
  rintro e x2 ⟨v2, rfl, hn2, hc2, hw2, hb⟩
  obtain ⟨a2, n2, rfl, _⟩ := hn2.shape
  have HN2 := Lib.hid hn2
  have HC2 := Lib.hid hc2
  have HW2 : Hid (New w.heap.size (Value.slice a2 R.1.length n2)) := hw2.mono HSx1.out.1.b.size
  have HO2 : Hid (Off (w.heap.size + 1) (Value.slice a2 R.1.length n2)) := hw2.off (HSx1.out.2.elim fun _ h => h.lt)
  clear hn2 hc2 hw2
  have HSx2 : Hid ((fun u => RcS w #[.slice a m cap] u) x2) := HSx1.out.call hb
  clear hb
  refine hK.out _ _ (HSx2.out) (fun _ => ?_)
  clear hK K
  (try simp only [Act.put, List.setIfInBounds_toArray, List.set_cons_zero, List.set_cons_succ])
  refine wpAnyH_take (i := 5) (oi := ⟨some 11, _, _, _, _, _⟩) (v := .agg #[.slice a2 R.1.length n2]) rfl (by kernel_rfl) (by kernel_rfl) (by kernel_rfl) (fun _ _ _ h => h) (Or.inl ⟨by rfl, fun wz hz => ?_⟩) HSx2.out ?_
  · clear hz; go_simp; first | done | with_reducible rfl | rfl
  (try simp only [Act.put, List.setIfInBounds_toArray, List.set_cons_zero, List.set_cons_succ])
  refine wpAnyH_take (i := 6) (oi := ⟨some 12, _, _, _, _, _⟩) (v := .int .i64 R.2) rfl (by kernel_rfl) (by kernel_rfl) (by kernel_rfl) (fun _ _ _ h => h) (Or.inl ⟨by rfl, fun wz hz => ?_⟩) HSx2.out ?_
  · clear hz; go_simp; first | done | with_reducible rfl | rfl
  (try simp only [Act.put, List.setIfInBounds_toArray, List.set_cons_zero, List.set_cons_succ])
  refine wpAnyH_ready (rs := [7]) (by kernel_rfl) (by simp) ?_
  refine AllReadyH.cons (o := ⟨none, _, _, _, _, _⟩) rfl (fun K hK => ?_) AllReadyH.nil
  rw [if_pos (by rfl)]
  obtain ⟨x9, hx9⟩ := HSx2.out.2
  refine wp_store_blk 25 (.tmp 4) (.tmp 11) rfl (w.heap.size + 1) #[.slice a2 R.1.length n2] rfl rfl #[x9] hx9 rfl hi1 (by simp [Value.oneCell']) ?_
  intro w9 U9 B9
  have HS9 : Hid (RcS w #[.slice a m cap] w9) := ⟨⟨U9.blk HSx2.out.1.t (by omega), U9.below HSx2.out.1.b (by omega)⟩, _, B9⟩
  have HN9 : Hid (NodesV w9 (.slice a2 R.1.length n2) R.1) := HN2.out.grownOff (upd_grown U9) HO2.out
  have HR9 := Lib.hid B9
  clear U9 B9 hx9
  refine hK.out _ _ (HS9.out) (fun _ => ?_)
  clear hK K
  (try simp only [Act.put, List.setIfInBounds_toArray, List.set_cons_zero, List.set_cons_succ])
  refine wpAnyH_ready (rs := [8]) (by kernel_rfl) (by simp) ?_
  refine AllReadyH.cons (o := ⟨some 5, _, _, _, _, _⟩) rfl (fun K hK => ?_) AllReadyH.nil
  go_simp
  refine hK.out _ _ (HS9.out) (fun _ => ?_)
  clear hK K
  (try simp only [Act.put, List.setIfInBounds_toArray, List.set_cons_zero, List.set_cons_succ])
  refine wpAnyH_done (by kernel_rfl) ?_ _
  go_wp2_with fail
  exact bodyPost_ret (res_cell_tmp rfl rfl rfl HR9.out Try.underlying25 rfl hi1) rfl ⟨_, rfl, HN9.out, HC2.out, HW2.out, HS9.out.1.b⟩

set_option maxHeartbeats 8000000 in
theorem ccon_any (ns : List NdD) (hok : TrOK ns) (hlen : ns.length ≤ 100000) (i : Int) (v : Value) (w : World) (hN : NodesV w v ns) :
    Calls Try.prog 20 #[.agg #[v], .int .i64 i] w (SetE (conN ns i) w) := by
  have hi1 : (Try.prog.info? 25).map (·.size) = some 1 := by kernel_rfl
  rw [con_set hok i]
  have HPA : Hid (∀ u, Below w.heap.size w u → Calls Try.prog 38 #[.agg #[v], .int .i64 i] u fun e w' => ∃ v', e = .returned v' ∧ IntsV w' v' (descN ns i) ∧ Below u.heap.size u w') := fun u hu => (ande_any ns hok hlen i v u (hN.call hu)).mono fun e w' ⟨v', h1, h2, h3⟩ => ⟨v', h1, desc_intsT hlen h2, h3⟩
  have HSE := Lib.hid (fun lv u (hu : Below w.heap.size w u) (hI : IntsV u lv (descN ns i)) => settle_any ns hlen v lv (descN ns i) 2 1 (by omega) (desc_rng ns i) (by omega) u (hN.call hu) hI)
  unfold SetE at HSE
  obtain ⟨a, cap, rfl, hmx⟩ := hN.shape
  unfold maxLen at hmx
  obtain ⟨m, hm⟩ : ∃ m, Hid (ns.length = m) := ⟨_, Lib.hid rfl⟩
  obtain ⟨R, hR⟩ : ∃ R, setN ns (descN ns i) 2 1 = R := ⟨_, rfl⟩
  obtain ⟨P, hP⟩ : ∃ P, descN ns i = P := ⟨_, rfl⟩
  rw [hR, hP] at HSE
  rw [hP] at HPA
  rw [hR]
  rw [hm.out] at HPA HSE hmx ⊢
  clear hN hR hP hok hm hlen
  have S0 := Lib.hid (pas_new w #[.slice a m cap] 25)
  have S1 : Hid (RcS w #[.slice a m cap] ((w.alloc (.cells #[.slice a m cap] 25)).alloc (.cells #[.slice none 0 0] 25))) := ⟨⟨S0.out.t.alloc _, S0.out.b.alloc S0.out.b.size _⟩, _, Blk.new (by simp)⟩
  clear S0
  go_enter Try.func20, Try.ntmps20
  go_upto_region 1 with fail
  obtain ⟨wq, hwq⟩ : ∃ x, ((w.alloc (.cells #[.slice a m cap] 25)).alloc (.cells #[.slice none 0 0] 25)) = x := ⟨_, rfl⟩
  rw [hwq] at S1 ⊢
  clear hwq
  have HSx0 : Hid ((fun u => RcS w #[.slice a m cap] u) wq.drew) := S1.out.call (Below.drewN (n := 1) (Below.refl _ _) : Below wq.heap.size wq wq.drew)
  refine wp_region_held_drew (S := fun u => RcS w #[.slice a m cap] u) (by kernel_rfl) (HSx0.out) (fun _ => ?_)
  (try simp only [Act.put, List.setIfInBounds_toArray, List.set_cons_zero, List.set_cons_succ])
  obtain ⟨x0, hx0⟩ : ∃ x, wq.drew = x := ⟨_, rfl⟩
  rw [hx0] at HSx0 ⊢
  clear hx0
  refine held_load (oi := ⟨some 6, _, _, _, _, _⟩) 0 rfl (by kernel_rfl) (by kernel_rfl) (by kernel_rfl) (fun _ _ _ _ h => h) rfl 25 (.tmp 2) rfl w.heap.size (0) rfl [.slice a m cap] _ (fun u' hu => hu.1.t.rng) Try.underlying25 rfl (hi1) HSx0.out ?_
  (try simp only [Act.put, List.setIfInBounds_toArray, List.set_cons_zero, List.set_cons_succ])
  refine held_load (oi := ⟨some 7, _, _, _, _, _⟩) 1 rfl (by kernel_rfl) (by kernel_rfl) (by kernel_rfl) (fun _ _ _ _ h => h) rfl 25 (.tmp 2) rfl w.heap.size (0) rfl [.slice a m cap] _ (fun u' hu => hu.1.t.rng) Try.underlying25 rfl (hi1) HSx0.out ?_
  (try simp only [Act.put, List.setIfInBounds_toArray, List.set_cons_zero, List.set_cons_succ])
  refine wpAnyH_take (i := 2) (oi := ⟨some 8, _, _, _, _, _⟩) (v := .int .i64 i) rfl (by kernel_rfl) (by kernel_rfl) (by kernel_rfl) (fun _ _ _ h => h) (Or.inl ⟨by rfl, fun wz hz => ?_⟩) HSx0.out ?_
  · clear hz; go_simp; first | done | with_reducible rfl | rfl
  (try simp only [Act.put, List.setIfInBounds_toArray, List.set_cons_zero, List.set_cons_succ])
  refine wpAnyH_ready (rs := [3]) (by kernel_rfl) (by simp) ?_
  refine AllReadyH.cons (o := ⟨some 9, _, _, _, _, _⟩) rfl (fun K hK => ?_) AllReadyH.nil
  go_simp
  refine (HPA.out x0 HSx0.out.1.b).mono ?_
  rintro e x1 ⟨v1, rfl, hc1, hb⟩
  have HC1 := Lib.hid hc1
  clear hc1
  have HSx1 : Hid ((fun u => RcS w #[.slice a m cap] u) x1) := HSx0.out.call hb
  clear hb
  refine hK.out _ _ (HSx1.out) (fun _ => ?_)
  clear hK K
  (try simp only [Act.put, List.setIfInBounds_toArray, List.set_cons_zero, List.set_cons_succ])
  refine wpAnyH_ready (rs := [4]) (by kernel_rfl) (by simp) ?_
  refine AllReadyH.cons (o := ⟨some 10, _, _, _, _, _⟩) rfl (fun K hK => ?_) AllReadyH.nil
  go_simp
  refine (HSE.out v1 x1 HSx1.out.1.b HC1.out).mono ?_
  rintro e x2 ⟨v2, rfl, hn2, hc2, hw2, hb⟩
  obtain ⟨a2, n2, rfl, _⟩ := hn2.shape
  have HN2 := Lib.hid hn2
  have HC2 := Lib.hid hc2
  have HW2 : Hid (New w.heap.size (Value.slice a2 R.1.length n2)) := hw2.mono HSx1.out.1.b.size
  have HO2 : Hid (Off (w.heap.size + 1) (Value.slice a2 R.1.length n2)) := hw2.off (HSx1.out.2.elim fun _ h => h.lt)
  clear hn2 hc2 hw2
  have HSx2 : Hid ((fun u => RcS w #[.slice a m cap] u) x2) := HSx1.out.call hb
  clear hb
  refine hK.out _ _ (HSx2.out) (fun _ => ?_)
  clear hK K
  (try simp only [Act.put, List.setIfInBounds_toArray, List.set_cons_zero, List.set_cons_succ])
  refine wpAnyH_take (i := 5) (oi := ⟨some 11, _, _, _, _, _⟩) (v := .agg #[.slice a2 R.1.length n2]) rfl (by kernel_rfl) (by kernel_rfl) (by kernel_rfl) (fun _ _ _ h => h) (Or.inl ⟨by rfl, fun wz hz => ?_⟩) HSx2.out ?_
  · clear hz; go_simp; first | done | with_reducible rfl | rfl
  (try simp only [Act.put, List.setIfInBounds_toArray, List.set_cons_zero, List.set_cons_succ])
  refine wpAnyH_take (i := 6) (oi := ⟨some 12, _, _, _, _, _⟩) (v := .int .i64 R.2) rfl (by kernel_rfl) (by kernel_rfl) (by kernel_rfl) (fun _ _ _ h => h) (Or.inl ⟨by rfl, fun wz hz => ?_⟩) HSx2.out ?_
  · clear hz; go_simp; first | done | with_reducible rfl | rfl
  (try simp only [Act.put, List.setIfInBounds_toArray, List.set_cons_zero, List.set_cons_succ])
  refine wpAnyH_ready (rs := [7]) (by kernel_rfl) (by simp) ?_
  refine AllReadyH.cons (o := ⟨none, _, _, _, _, _⟩) rfl (fun K hK => ?_) AllReadyH.nil
  rw [if_pos (by rfl)]
  obtain ⟨x9, hx9⟩ := HSx2.out.2
  refine wp_store_blk 25 (.tmp 4) (.tmp 11) rfl (w.heap.size + 1) #[.slice a2 R.1.length n2] rfl rfl #[x9] hx9 rfl hi1 (by simp [Value.oneCell']) ?_
  intro w9 U9 B9
  have HS9 : Hid (RcS w #[.slice a m cap] w9) := ⟨⟨U9.blk HSx2.out.1.t (by omega), U9.below HSx2.out.1.b (by omega)⟩, _, B9⟩
  have HN9 : Hid (NodesV w9 (.slice a2 R.1.length n2) R.1) := HN2.out.grownOff (upd_grown U9) HO2.out
  have HR9 := Lib.hid B9
  clear U9 B9 hx9
  refine hK.out _ _ (HS9.out) (fun _ => ?_)
  clear hK K
  (try simp only [Act.put, List.setIfInBounds_toArray, List.set_cons_zero, List.set_cons_succ])
  refine wpAnyH_ready (rs := [8]) (by kernel_rfl) (by simp) ?_
  refine AllReadyH.cons (o := ⟨some 5, _, _, _, _, _⟩) rfl (fun K hK => ?_) AllReadyH.nil
  go_simp
  refine hK.out _ _ (HS9.out) (fun _ => ?_)
  clear hK K
  (try simp only [Act.put, List.setIfInBounds_toArray, List.set_cons_zero, List.set_cons_succ])
  refine wpAnyH_done (by kernel_rfl) ?_ _
  go_wp2_with fail
  exact bodyPost_ret (res_cell_tmp rfl rfl rfl HR9.out Try.underlying25 rfl hi1) rfl ⟨_, rfl, HN9.out, HC2.out, HW2.out, HS9.out.1.b⟩
end

/-! TrO -/
section
set_option linter.unusedVariables false
set_option linter.unusedSimpArgs false
open Go.RowKit

set_option maxRecDepth 100000

def stI (ns : List NdD) (k : Nat) : Int := ((ns[k]?).map NdD.st).getD 0

theorem stI_at {ns : List NdD} {k : Nat} (h : k < ns.length) : stI ns k = ns[k].st := by simp [stI, List.getElem?_eq_getElem h]

/-- The nodes that are optimistic (P16.3). -/
def waitT (ns : List NdD) : List Int := selK (fun k => decide (stI ns k = 0)) ns.length

set_option maxHeartbeats 8000000 in
theorem waitT_any (ns : List NdD) (v : Value) (w : World) (hN : NodesV w v ns) (hlen : ns.length ≤ 100000) :
    Calls Try.prog 18 #[.agg #[v]] w (SelE (waitT ns) w) := by
  obtain ⟨a, cap, rfl, hmx⟩ := hN.shape
  unfold maxLen at hmx
  have HII := Lib.hid info_int
  have HN := Lib.hid hN
  unfold waitT
  obtain ⟨p, hp⟩ : ∃ p : Nat → Bool, (fun (k : Nat) => decide (stI ns k = 0)) = p := ⟨_, rfl⟩
  have HPP : Hid (∀ k : Nat, decide (stI ns k = 0) = p k) := fun k => by rw [← hp]
  rw [hp]
  obtain ⟨m, hm⟩ : ∃ m, Hid (ns.length = m) := ⟨_, Lib.hid rfl⟩
  rw [hm.out] at hmx hlen HN ⊢
  have S0 := Lib.hid (pas_new w #[.slice a m cap] 25)
  clear hN hp
  go_enter Try.func18, Try.ntmps18
  go_wp2_with fail
  go_loopw [3, 4] (fun v i wr => SelI w #[.slice a m cap] p m v i wr) (fun _ i _ => m - (intOf i).toNat)
  case atStart => exact ⟨0, Nat.zero_le _, rfl, OwnK.nil _ _ _ _, S0.out⟩
  case round =>
    obtain ⟨k, hk, rfl, hown, hs⟩ := hrel
    have HOW := Lib.hid hown
    have S1 := Lib.hid hs
    have HXL := Lib.hid (selK_len p k)
    have HC0 := Lib.hid (hs.t.cell 0)
    clear hown hs
    by_cases hlt : k < m
    case neg =>
      obtain rfl : k = m := by omega
      go_wp2_with (first
        | ((with_reducible refine at_load (.tmp 6) ?_); refine wpList_load_1 23 (.tmp 6) rfl w.heap.size 0 (.slice a k cap) HC0.out rfl _ Try.underlying23 rfl rfl ?_))
      go_ret
      exact ⟨_, rfl, HOW.out.lower (by omega), S1.out.b⟩
    have hlt' : (k : Int) < m := by omega
    have hkn : k < ns.length := by rw [hm.out]; exact hlt
    obtain ⟨b, off, rfl, hlm, hbb, hna, _⟩ := HN.out.elem hkn
    have HUP := Lib.hid ((S1.out.b.cell (p := ⟨b, off + k * 240 + 239, none⟩) hbb).trans hna.st)
    have hpk := HPP.out k
    rw [stI_at hkn] at hpk
    obtain ⟨u, hu⟩ : ∃ u, ns[k].st = u := ⟨_, rfl⟩
    rw [hu] at HUP hpk
    clear hlm hna hu
    cases hpk2 : p k
    case false =>
      have HNX := Lib.hid (selK_no hpk2)
      rw [hpk2] at hpk
      have hbe : (u == 0) = false := by simpa using hpk
      clear hpk hpk2
      go_wp2_with (first
        | ((with_reducible refine at_load (.tmp 6) ?_); refine wpList_load_1 23 (.tmp 6) rfl w.heap.size 0 (.slice (some ⟨b, off, none⟩) m cap) HC0.out rfl _ Try.underlying23 rfl rfl ?_)
        | ((with_reducible refine at_load (.tmp 12) ?_); refine wpList_load_1 23 (.tmp 12) rfl w.heap.size 0 (.slice (some ⟨b, off, none⟩) m cap) HC0.out rfl _ Try.underlying23 rfl rfl ?_)
        | ((with_reducible refine at_load (.tmp 16) ?_); refine wpList_load_1 3 (.tmp 16) rfl b (off + k * 240 + 239) (.int .i64 u) HUP.out rfl _ Try.underlying3 rfl rfl ?_))
      go_roundw
      case rel => exact ⟨k + 1, by omega, by go_num, by rw [HNX.out]; exact HOW.out, S1.out⟩
      case measure => simp [intOf]; omega
    case true =>
      have HNX := Lib.hid (selK_yes hpk2)
      rw [hpk2] at hpk
      have hbe : (u == 0) = true := by simpa using hpk
      clear hpk hpk2
      go_wp2_with (first
        | ((with_reducible refine at_load (.tmp 6) ?_); refine wpList_load_1 23 (.tmp 6) rfl w.heap.size 0 (.slice (some ⟨b, off, none⟩) m cap) HC0.out rfl _ Try.underlying23 rfl rfl ?_)
        | ((with_reducible refine at_load (.tmp 12) ?_); refine wpList_load_1 23 (.tmp 12) rfl w.heap.size 0 (.slice (some ⟨b, off, none⟩) m cap) HC0.out rfl _ Try.underlying23 rfl rfl ?_)
        | ((with_reducible refine at_load (.tmp 16) ?_); refine wpList_load_1 3 (.tmp 16) rfl b (off + k * 240 + 239) (.int .i64 u) HUP.out rfl _ Try.underlying3 rfl rfl ?_)
        | ((with_reducible refine at_app (.tmp 19) (.tmp 21) ?_); refine wpList_app1 HII.out (by omega) Try.underlying22 (.tmp 19) (.tmp 21) rfl rfl (w.heap.size + 1) _ _ rfl (HOW.out.grown (World.grownBy_alloc _ (.cells #[.int .i64 (k : Int)] 3) none) (fun n _ => by simp)) wr.heap.size 1 (k : Int) rfl ((Blk.new rfl).cell 0) (by have := HXL.out; omega) (by have := S1.out.t.lt; simp; omega) ?_; intro v3 w3 h3 g3 o3; rw [← HNX.out] at h3; have HO3 := Lib.hid h3; have S3 := Lib.hid ((S1.out.call ((Below.refl wr.heap.size wr).alloc (Nat.le_refl _) (.cells #[.int .i64 (k : Int)] 3))).grown g3 HOW.out.off1); clear h3 g3 o3))
      go_roundw
      case rel => exact ⟨k + 1, by omega, by go_num, HO3.out, S3.out⟩
      case measure => simp [intOf]; omega

/-- How many of the first k nodes have one of these statuses (P16.3). -/
def cntT (ns : List NdD) (l : List Int) : Nat → Int
  | 0 => 0
  | k + 1 => if stI ns k ∈ l then cntT ns l k + 1 else cntT ns l k

theorem cntT_yes {ns : List NdD} {l : List Int} {k : Nat} (h : decide (stI ns k ∈ l) = true) : cntT ns l (k + 1) = cntT ns l k + 1 := by
  show (if stI ns k ∈ l then cntT ns l k + 1 else cntT ns l k) = _
  rw [if_pos (of_decide_eq_true h)]

theorem cntT_no {ns : List NdD} {l : List Int} {k : Nat} (h : decide (stI ns k ∈ l) = false) : cntT ns l (k + 1) = cntT ns l k := by
  show (if stI ns k ∈ l then cntT ns l k + 1 else cntT ns l k) = _
  rw [if_neg (of_decide_eq_false h)]

theorem cntT_rng (ns : List NdD) (l : List Int) (k : Nat) : 0 ≤ cntT ns l k ∧ cntT ns l k ≤ k := by
  induction k with
  | zero => exact ⟨Int.le_refl _, Int.le_refl _⟩
  | succ k ih => unfold cntT; split <;> omega

set_option maxHeartbeats 8000000 in
theorem cntT_any (ns : List NdD) (l : List Int) (v lv : Value) (w : World) (hN : NodesV w v ns) (hL : IntsV w lv l) (hlen : ns.length ≤ 100000) :
    Calls Try.prog 15 #[.agg #[v], lv] w fun e w' => e = .returned (.int .i64 (cntT ns l ns.length)) ∧ Below w.heap.size w w' := by
  obtain ⟨a, cap, rfl, hmx⟩ := hN.shape
  unfold maxLen at hmx
  have HN := Lib.hid hN
  have HHAS := Lib.hid (fun (n : Int) u (hu : Below w.heap.size w u) => has_any _ l n u (hL.below hu))
  obtain ⟨la, ll, lc, rfl⟩ := ints_shape' hL.1
  obtain ⟨m, hm⟩ : ∃ m, Hid (ns.length = m) := ⟨_, Lib.hid rfl⟩
  rw [hm.out] at hmx hlen HN ⊢
  have S0 := Lib.hid (pas_new w #[.slice a m cap] 25)
  clear hN hL
  go_enter Try.func15, Try.ntmps15
  go_wp2_with fail
  go_loopw [5, 6] (fun c i wr => ∃ k : Nat, k ≤ m ∧ i = .int .i64 k ∧ c = .int .i64 (cntT ns l k) ∧ PaS w #[.slice a m cap] wr) (fun _ i _ => m - (intOf i).toNat)
  case atStart => exact ⟨0, Nat.zero_le _, rfl, rfl, S0.out⟩
  case round =>
    obtain ⟨k, hk, rfl, rfl, hs⟩ := hrel
    have S1 := Lib.hid hs
    have HC0 := Lib.hid (hs.t.cell 0)
    clear hs
    by_cases hlt : k < m
    case neg =>
      obtain rfl : k = m := by omega
      go_wp2_with (first
        | ((with_reducible refine at_load (.tmp 8) ?_); refine wpList_load_1 23 (.tmp 8) rfl w.heap.size 0 (.slice a k cap) HC0.out rfl _ Try.underlying23 rfl rfl ?_))
      go_ret
      exact ⟨rfl, S1.out.b⟩
    have hlt' : (k : Int) < m := by omega
    have hkn : k < ns.length := by rw [hm.out]; exact hlt
    obtain ⟨b, off, rfl, hlm, hbb, hna, _⟩ := HN.out.elem hkn
    have HUP := Lib.hid ((S1.out.b.cell (p := ⟨b, off + k * 240 + 239, none⟩) hbb).trans hna.st)
    have HNY := Lib.hid (cntT_yes (ns := ns) (l := l) (k := k))
    have HNN := Lib.hid (cntT_no (ns := ns) (l := l) (k := k))
    have hcr := cntT_rng ns l k
    rw [stI_at hkn] at HNY HNN
    obtain ⟨u, hu⟩ : ∃ u, ns[k].st = u := ⟨_, rfl⟩
    rw [hu] at HUP HNY HNN
    have HHK := Lib.hid (fun x (hx : Below w.heap.size w x) => HHAS.out u x hx)
    obtain ⟨q, hq⟩ : ∃ q, decide (u ∈ l) = q := ⟨_, rfl⟩
    obtain ⟨n, hn⟩ : ∃ n, cntT ns l k = n := ⟨_, rfl⟩
    rw [hq] at HHK HNY HNN
    rw [hn] at HNY HNN hcr ⊢
    clear hlm hna hu hq hn
    cases q
    case false =>
      go_wp2_with (first
        | ((with_reducible refine at_load (.tmp 8) ?_); refine wpList_load_1 23 (.tmp 8) rfl w.heap.size 0 (.slice (some ⟨b, off, none⟩) m cap) HC0.out rfl _ Try.underlying23 rfl rfl ?_)
        | ((with_reducible refine at_load (.tmp 15) ?_); refine wpList_load_1 23 (.tmp 15) rfl w.heap.size 0 (.slice (some ⟨b, off, none⟩) m cap) HC0.out rfl _ Try.underlying23 rfl rfl ?_)
        | ((with_reducible refine at_load (.tmp 19) ?_); refine wpList_load_1 3 (.tmp 19) rfl b (off + k * 240 + 239) (.int .i64 u) HUP.out rfl _ Try.underlying3 rfl rfl ?_)
        | (go_at_call 35; refine (HHK.out _ S1.out.b).mono ?_; rintro e w2 ⟨rfl, hb2⟩; have S2 := Lib.hid (S1.out.call hb2); clear hb2))
      go_roundw
      case rel => exact ⟨k + 1, by omega, by go_num, by rw [HNN.out (by trivial)], S2.out⟩
      case measure => simp [intOf]; omega
    case true =>
      go_wp2_with (first
        | ((with_reducible refine at_load (.tmp 8) ?_); refine wpList_load_1 23 (.tmp 8) rfl w.heap.size 0 (.slice (some ⟨b, off, none⟩) m cap) HC0.out rfl _ Try.underlying23 rfl rfl ?_)
        | ((with_reducible refine at_load (.tmp 15) ?_); refine wpList_load_1 23 (.tmp 15) rfl w.heap.size 0 (.slice (some ⟨b, off, none⟩) m cap) HC0.out rfl _ Try.underlying23 rfl rfl ?_)
        | ((with_reducible refine at_load (.tmp 19) ?_); refine wpList_load_1 3 (.tmp 19) rfl b (off + k * 240 + 239) (.int .i64 u) HUP.out rfl _ Try.underlying3 rfl rfl ?_)
        | (go_at_call 35; refine (HHK.out _ S1.out.b).mono ?_; rintro e w2 ⟨rfl, hb2⟩; have S2 := Lib.hid (S1.out.call hb2); clear hb2))
      go_roundw
      case rel => exact ⟨k + 1, by omega, by go_num, by rw [HNY.out (by trivial)], S2.out⟩
      case measure => simp [intOf]; omega
end

/-! ElM -/
section
set_option linter.unusedVariables false
set_option linter.unusedSimpArgs false
open Go.RowKit

set_option maxRecDepth 100000

def prtN (n : Nat) (Xs : List (Array Value)) : List (Nat × Value) := (Xs.zipIdx n).map fun p => (p.2, Value.agg p.1)

theorem fillN {sz : Nat} : ∀ (Xs : List (Array Value)) (n : Nat) (D R : List Value), (∀ X ∈ Xs, X.size = sz) → D.length = n * sz → R.length = Xs.length * sz →
    Instr.fill (fun i => some (i * sz, sz)) (D ++ R).toArray (prtN n Xs) = some (D ++ rowsL Xs).toArray
  | [], n, D, R, _, hD, hR => by
    have : R = [] := List.eq_nil_of_length_eq_zero (by simpa using hR)
    subst this
    simp [prtN, Instr.fill, rowsL]
  | X :: Xs, n, D, R, hX, hD, hR => by
    have h1 : X.size = sz := hX X (by simp)
    have hs : (Value.agg X).cells.size = sz := h1
    show Instr.fill _ _ ((n, Value.agg X) :: prtN (n + 1) Xs) = _
    have hR' : R.length = Xs.length * sz + sz := by rw [hR, List.length_cons, Nat.add_mul, Nat.one_mul]
    rw [fill_step (by rw [hD, hs]) (by rw [hs, hR']; omega)]
    have e : (Value.agg X).cells.toList = X.toList := rfl
    rw [e, hs, fillN Xs (n + 1) (D ++ X.toList) (R.drop sz) (fun Y hY => hX Y (by simp [hY])) (by rw [List.length_append, hD, Array.length_toList, h1, Nat.add_mul, Nat.one_mul]) (by rw [List.length_drop, hR']; omega)]
    simp [rowsL]

theorem buildElN {P : Program} {t e : TypeId} {Z : Array Value} {sz : Nat} (ht : P.underlying t = some (.slice e)) (hz : ∀ w, (zeroValue e).run P w = .ok (.agg Z) w) (hi : (P.info? e).map (·.size) = some sz) (h0 : 0 < sz) (Xs : List (Array Value)) (hX : ∀ X ∈ Xs, X.size = sz) (hn : 0 < Xs.length) (h24 : Xs.length * sz ≤ 16777216) (u : World) :
    (Instr.buildSlice t Xs.length (prtN 0 Xs).toArray).run P u = .ok (.slice (some ⟨u.heap.size, 0, none⟩) Xs.length Xs.length) (u.alloc (.cells (rowsL Xs).toArray e)) := by
  obtain ⟨i, hi1, hi2⟩ : ∃ i, P.info? e = some i ∧ i.size = sz := by
    cases h : P.info? e with
    | none => simp [h] at hi
    | some i => exact ⟨i, rfl, by simpa [h] using hi⟩
  have hso : ∀ w, (sizeOf e).run P w = .ok sz w := fun w => by simp [sizeOf, typeInfo, hi1, hi2]
  have hp : 0 < Xs.length * sz := Nat.mul_pos hn h0
  have hf : Instr.fill (fun i => some (i * sz, sz)) ((Array.range (Xs.length * sz)).map (Z[· % Z.size]!)) (prtN 0 Xs) = some (rowsL Xs).toArray := by
    have h := fillN (sz := sz) Xs 0 [] ((Array.range (Xs.length * sz)).map (Z[· % Z.size]!)).toList hX (by simp) (by simp)
    rw [List.nil_append, List.nil_append, Array.toArray_toList] at h
    exact h
  unfold Instr.buildSlice
  simp only [Sem.run_bind, run_underlying ht, Result.andThen_ok, hso]
  rw [if_neg (by omega), if_neg (by omega)]
  simp only [Sem.run_bind, Sem.run_pure, hz, Result.andThen_ok, Value.cells, hf]
  simp [go_sem]
end

/-! WeA -/
section
set_option linter.unusedVariables false
set_option linter.unusedSimpArgs false
open Go.RowKit

set_option maxRecDepth 100000

/-- An element of a slice of roots. -/
def RtEl (P : Value → Prop) (w : World) (X : Array Value) (r : List Int) : Prop := X = (bytesL r).toArray ∧ IsBytes 32 r

theorem rtOK : ElOK 32 RtEl where
  size := fun h => by rw [h.1, List.size_toArray, bytesL_len h.2]
  one := fun h v hv => by rw [h.1] at hv; exact bytesL_one _ v (by simpa using hv)
  mono := fun h _ => h
  grown := fun h _ _ => h
  off := fun h _ => h

/-- A slice of roots. -/
abbrev RootsV (w : World) (v : Value) (rs : List (List Int)) : Prop := ElV RtEl 32 w v rs

theorem RootsV.call {w w' : World} {v : Value} {rs : List (List Int)} (h : RootsV w v rs) (hb : Below w.heap.size w w') : RootsV w' v rs := ElV.below rtOK h hb

theorem RootsV.elem {w : World} {a : Option Addr} {l cap : Nat} {rs : List (List Int)} (h : RootsV w (.slice a l cap) rs) {i : Nat} (hi : i < rs.length) :
    ∃ b off, a = some ⟨b, off, none⟩ ∧ l = rs.length ∧ b < w.heap.size ∧ w.rangeAt b (off + i * 32) (bytesL rs[i]) ∧ IsBytes 32 rs[i] := by
  obtain ⟨b, off, X, h1, h2, h3, h4, ⟨h5, h6⟩, _⟩ := ElV.at rtOK h hi
  exact ⟨b, off, h1, h2, h3, by rw [h5] at h4; exact h4, h6⟩

/-- Whether validator k counts for these roots. -/
def weiP (vs : List VoD) (es : List Int) (rs : List (List Int)) (k : Nat) : Bool := (vs.getD k zeV).has && !decide ((k : Int) ∈ es) && decide ((vs.getD k zeV).r ∈ rs)

def weiK (vs : List VoD) (es : List Int) (bs : List Int) (rs : List (List Int)) : Nat → Int
  | 0 => 0
  | k + 1 => if weiP vs es rs k then IntKind.u64.wrap (weiK vs es bs rs k + bs.getD k 0) else weiK vs es bs rs k

def weiN (vs : List VoD) (es : List Int) (bs : List Int) (rs : List (List Int)) : Int := weiK vs es bs rs (min bs.length vs.length)

theorem weiK_yes {vs : List VoD} {es bs : List Int} {rs : List (List Int)} {k : Nat} (h : weiP vs es rs k = true) : weiK vs es bs rs (k + 1) = IntKind.u64.wrap (weiK vs es bs rs k + bs.getD k 0) := by
  show (if weiP vs es rs k = true then IntKind.u64.wrap (weiK vs es bs rs k + bs.getD k 0) else weiK vs es bs rs k) = _
  rw [if_pos h]

theorem weiK_no {vs : List VoD} {es bs : List Int} {rs : List (List Int)} {k : Nat} (h : weiP vs es rs k = false) : weiK vs es bs rs (k + 1) = weiK vs es bs rs k := by
  show (if weiP vs es rs k = true then IntKind.u64.wrap (weiK vs es bs rs k + bs.getD k 0) else weiK vs es bs rs k) = _
  rw [if_neg (by rw [h]; simp)]
end

/-! ElN -/
section
set_option linter.unusedVariables false
set_option linter.unusedSimpArgs false
open Go.RowKit

set_option maxRecDepth 100000

/-- Roots. -/
def rtX (rs : List (List Int)) : List (Array Value) := rs.map fun r => (bytesL r).toArray

theorem new_roots {rs : List (List Int)} (hr : ∀ r ∈ rs, IsBytes 32 r) (hm : rs.length ≤ 1000) (u : World) : RootsV (u.alloc (.cells (rowsL (rtX rs)).toArray 31)) (.slice (some ⟨u.heap.size, 0, none⟩) rs.length rs.length) rs := by
  have hB : Blk (u.alloc (.cells (rowsL (rtX rs)).toArray 31)) u.heap.size (rowsL (rtX rs)).toArray := Blk.new rfl
  refine ⟨_, _, rfl, by unfold maxLen; omega, .inr ⟨u.heap.size, 0, rfl, hB.lt, rtX rs, ?_, by simp [rtX], ?_⟩⟩
  · have := hB.range; simpa using this
  · intro p hp
    obtain ⟨i, hi, rfl⟩ := List.mem_iff_getElem.1 hp
    simp only [List.length_zip, rtX, List.length_map] at hi
    simp only [List.getElem_zip, rtX, List.getElem_map]
    exact ⟨rfl, hr _ (List.getElem_mem _)⟩

/-- A part of a slice of roots. -/
theorem RootsV.slTake {w : World} {a : Option Addr} {l cap k : Nat} {rs : List (List Int)} (h : RootsV w (.slice a l cap) rs) (hk : k ≤ rs.length) : RootsV w (.slice a k cap) (rs.take k) := by
  obtain ⟨a', c', e, hl, hr⟩ := h
  cases e
  refine ⟨a, cap, by rw [List.length_take, Nat.min_eq_left hk], by rw [List.length_take]; omega, ?_⟩
  rcases hr with h0 | ⟨b, off, rfl, hlt, Xs, h1, h2⟩
  · exact .inl (by rw [List.length_take]; omega)
  · have hXl : Xs.length = rs.length := h2.1
    refine .inr ⟨b, off, rfl, hlt, Xs.take k, fun j v hj => h1 j v ?_, by rw [List.length_take, List.length_take, hXl], fun p hp => h2.2 p ?_⟩
    · have e : rowsL Xs = rowsL (Xs.take k) ++ rowsL (Xs.drop k) := by
        simp only [rowsL]; rw [← List.flatten_append, ← List.map_append, List.take_append_drop]
      rw [e, List.getElem?_append_left (List.getElem?_eq_some_iff.1 hj).1]; exact hj
    · obtain ⟨i, hi, rfl⟩ := List.mem_iff_getElem.1 hp
      simp only [List.length_zip, List.length_take] at hi
      simp only [List.getElem_zip, List.getElem_take]
      exact List.mem_iff_getElem.2 ⟨i, by rw [List.length_zip]; omega, by simp⟩

theorem wpQuiet_slice {P : Program} {ops : Array Oper} {C : World → Prop} {Q : Act → Prop} {o : Oper} {rest : List Oper} {a : Act} (t : TypeId) (x : Operand) (lo hi mx : Option Operand) (ho : o.op = .slice t x lo hi mx)
    (xv : Value) (lv hv mv : Option Value) (hx : a.eval x = xv) (hl : lo.map a.eval = lv) (hh : hi.map a.eval = hv) (hm : mx.map a.eval = mv) (v : Value) (hC : ∀ u, (Instr.sliceAt t xv lv hv mv).run P u = .ok v u)
    (hw : Region.wanted o (yielded ops a.tmps) = true) (h : wpQuiet P ops C Q rest (a.put o.dst v)) : wpQuiet P ops C Q (o :: rest) a := by
  refine BigFrame.wpQuiet_want hw fun K hK => ⟨v, fun w hw' => ?_, hK _ h⟩
  unfold Oper.quietAt execOp
  simp only [ho, hx, hl, hh, hm, Sem.run_bind, hC w, Result.andThen_ok, Sem.run_pure]
  exact ⟨rfl, rfl⟩

theorem at_qslice {P : Program} {ops : Array Oper} {C : World → Prop} {Q : Act → Prop} (dst : Option Tmp) {t ty' : TypeId} {x : Operand} {lo hi mx : Option Operand} {pos : String} {aft : Array Edge} {g : Option (Nat × Bool)} {rest : List Oper} {a : Act}
    (h : wpQuiet P ops C Q (⟨dst, .slice t x lo hi mx, ty', pos, aft, g⟩ :: rest) a) : wpQuiet P ops C Q (⟨dst, .slice t x lo hi mx, ty', pos, aft, g⟩ :: rest) a := h
end

/-! TrJ -/
section
set_option linter.unusedVariables false
set_option linter.unusedSimpArgs false
open Go.RowKit

set_option maxRecDepth 100000

theorem size_node (w : World) : (sizeOf 41).run Try.prog w = .ok 240 w := Try.sizeOf41 w

theorem NodesV.take {w : World} {a : Option Addr} {m cap : Nat} {ns : List NdD} (h : NodesV w (.slice a m cap) ns) {k : Nat} (hk : k ≤ m) (c : Nat) : NodesV w (.slice a k c) (ns.take k) := by
  obtain ⟨a', cap', e, hl, hr⟩ := h
  cases e
  have hlen : (ns.take k).length = k := by rw [List.length_take]; omega
  refine ⟨a, c, by rw [hlen], by rw [hlen]; omega, ?_⟩
  rcases hr with h0 | ⟨b, off, rfl, hlt, Xs, h1, h2⟩
  · exact .inl (by rw [hlen]; omega)
  · have hs : rowsL Xs = rowsL (Xs.take k) ++ rowsL (Xs.drop k) := by rw [← rowsL_app, List.take_append_drop]
    rw [hs] at h1
    refine .inr ⟨b, off, rfl, hlt, Xs.take k, fun j u hj => h1 j u (by rw [List.getElem?_append_left (List.getElem?_eq_some_iff.1 hj).1]; exact hj), ?_, fun p hp => ?_⟩
    · rw [List.length_take, List.length_take, h2.1]
    · have hl2 := h2.1
      have e : Xs.zip ns = (Xs.take k).zip (ns.take k) ++ (Xs.drop k).zip (ns.drop k) := by
        rw [← List.zip_append (by simp [hl2]), List.take_append_drop, List.take_append_drop]
      exact h2.2 p (by rw [e]; exact List.mem_append_left _ hp)

/-- The error of a tree, from node k on. -/
def badForm (d : NdD) (k : Nat) : Prop := ¬ (0 ≤ d.st ∧ d.st ≤ 2) ∨ (k = 0 ∧ d.up ≠ -1) ∨ (0 < k ∧ (d.up < 0 ∨ (k : Int) ≤ d.up))
instance (d : NdD) (k : Nat) : Decidable (badForm d k) := by unfold badForm; infer_instance

def rootAt (ns : List NdD) (i : Int) : List Int := ((ns[i.toNat]?).map (fun d => d.b.root)).getD []

def nodeE (ns : List NdD) (d : NdD) (k : Nat) : Int :=
  if badForm d k then 2 else if 0 ≤ findN (ns.take k) d.b.root then 9 else if 0 < k ∧ d.b.parent ≠ rootAt ns d.up then 10 else if 0 < k ∧ d.b.slot ≤ slotAt ns d.up then 14 else 0

def vtGo (ns : List NdD) : Nat → Nat → Int
  | 0, _ => 0
  | f + 1, k => match ns[k]? with
    | none => 0
    | some d => if nodeE ns d k = 0 then vtGo ns f (k + 1) else nodeE ns d k

def vtE (ns : List NdD) : Int := if ns.length = 0 ∨ 4096 < ns.length then 11 else vtGo ns ns.length 0

theorem vtGo_step {ns : List NdD} {k : Nat} (hk : k < ns.length) : vtGo ns (ns.length - k) k = if nodeE ns ns[k] k = 0 then vtGo ns (ns.length - (k + 1)) (k + 1) else nodeE ns ns[k] k := by
  rw [show ns.length - k = (ns.length - (k + 1)) + 1 by omega]
  show (match ns[k]? with | none => 0 | some d => if nodeE ns d k = 0 then vtGo ns (ns.length - (k + 1)) (k + 1) else nodeE ns d k) = _
  rw [List.getElem?_eq_getElem hk]

/-- The tree's variable and the node's. -/
structure VaS (w : World) (TA L : Array Value) (b : Nat) (u : World) : Prop where
  t : Blk u w.heap.size TA
  n : Blk u b L
  b : Below w.heap.size w u

theorem VaS.call {w u u' : World} {TA L : Array Value} {b : Nat} (h : VaS w TA L b u) (hb : Below u.heap.size u u') : VaS w TA L b u' := ⟨h.t.call hb, h.n.call hb, h.b.trans (hb.mono h.b.size)⟩

def VaI (w : World) (TA : Array Value) (ns : List NdD) (q : Int) (i : Value) (wr : World) : Prop :=
  ∃ k : Nat, k ≤ ns.length ∧ i = .int .i64 k ∧ vtGo ns (ns.length - k) k = q ∧ Blk wr w.heap.size TA ∧ Below w.heap.size w wr

set_option maxHeartbeats 16000000 in
theorem vtree_any (v : Value) (ns : List NdD) (w : World) (hN : NodesV w v ns) (hcap : CapOK v) :
    Calls Try.prog 30 #[.agg #[v]] w fun e w' => e = .returned (.int .i64 (vtE ns)) ∧ Below w.heap.size w w' := by
  obtain ⟨a, cap, rfl, hmx⟩ := hN.shape
  unfold maxLen at hmx
  have hcm := hcap _ _ _ rfl
  have HN := Lib.hid hN
  have hi1 : (Try.prog.info? 25).map (·.size) = some 1 := by kernel_rfl
  obtain ⟨ZN, hZN⟩ : ∃ Z, flatP (zeBkP ++ [[.int .i64 0], [.int .i64 0]]) = Z := ⟨_, rfl⟩
  have hszN : ZN.size = 240 := by rw [← hZN]; rfl
  obtain ⟨hz240, hst240⟩ := zero_array (P := Try.prog) (t := 41) (n := 240) ZN (by rw [← hZN]; kernel_rfl) hszN (by rw [← hZN]; kernel_rfl)
  obtain ⟨q, hq⟩ : ∃ q, vtE ns = q := ⟨_, rfl⟩
  rw [hq]
  unfold vtE at hq
  obtain ⟨m, hm⟩ : ∃ m, Hid (ns.length = m) := ⟨_, Lib.hid rfl⟩
  rw [hm.out] at hmx hcm HN hq ⊢
  have HBA := Lib.hid ((Below.refl w.heap.size w).alloc (Nat.le_refl _) (.cells #[.slice a m cap] 25))
  have HT0 : Hid (Blk (w.alloc (.cells #[.slice a m cap] 25)) w.heap.size #[.slice a m cap]) := Blk.new rfl
  clear hN hcap hst240 hZN
  by_cases h0 : m = 0
  · subst h0
    rw [if_pos (.inl rfl)] at hq
    have HQ := Lib.hid hq
    clear hq
    go_enter Try.func30, Try.ntmps30
    go_wp2_with (first
      | ((with_reducible refine at_load (.tmp 5) ?_); refine wpList_load_1 23 (.tmp 5) rfl w.heap.size 0 (.slice a 0 cap) (HT0.out.cell 0) rfl _ Try.underlying23 rfl rfl ?_))
    go_ret
    exact ⟨by rw [← HQ.out]; rfl, HBA.out⟩
  have hz : ((m : Int) == 0) = false := by simp; omega
  by_cases hbig : 4096 < m
  · rw [if_pos (.inr hbig)] at hq
    have HQ := Lib.hid hq
    have hbig' : (4096 : Int) < m := by omega
    clear hq
    go_enter Try.func30, Try.ntmps30
    go_wp2_with (first
      | ((with_reducible refine at_load (.tmp 5) ?_); refine wpList_load_1 23 (.tmp 5) rfl w.heap.size 0 (.slice a m cap) (HT0.out.cell 0) rfl _ Try.underlying23 rfl rfl ?_)
      | ((with_reducible refine at_load (.tmp 10) ?_); refine wpList_load_1 23 (.tmp 10) rfl w.heap.size 0 (.slice a m cap) (HT0.out.cell 0) rfl _ Try.underlying23 rfl rfl ?_))
    go_ret
    exact ⟨by rw [← HQ.out]; rfl, HBA.out⟩
  rw [if_neg (by omega)] at hq
  have HQ0 := Lib.hid hq
  have hbig' : ((4096 : Int) < m) = False := eq_false (by omega)
  clear hq h0
  go_enter Try.func30, Try.ntmps30
  go_wp2_with (first
    | ((with_reducible refine at_load (.tmp 5) ?_); refine wpList_load_1 23 (.tmp 5) rfl w.heap.size 0 (.slice a m cap) (HT0.out.cell 0) rfl _ Try.underlying23 rfl rfl ?_)
    | ((with_reducible refine at_load (.tmp 10) ?_); refine wpList_load_1 23 (.tmp 10) rfl w.heap.size 0 (.slice a m cap) (HT0.out.cell 0) rfl _ Try.underlying23 rfl rfl ?_))
  go_loopw [3] (fun i wr => VaI w #[.slice a m cap] ns q i wr) (fun i _ => m - (intOf i).toNat)
  case atStart => exact ⟨0, Nat.zero_le _, rfl, by rw [hm.out]; exact HQ0.out, HT0.out, HBA.out⟩
  case round =>
    obtain ⟨k, hk, rfl, hgo, ht, hbl⟩ := hrel
    have HGO := Lib.hid hgo
    have HT1 := Lib.hid ht
    have HBL := Lib.hid hbl
    have hltP := ht.lt
    rw [hm.out] at hk
    clear hgo ht hbl
    by_cases hlt : k < m
    case neg =>
      obtain rfl : k = m := by omega
      have HQV : Hid (q = 0) := by show q = 0; rw [← HGO.out, hm.out, Nat.sub_self]; rfl
      go_wp2_with (first
        | ((with_reducible refine at_load (.tmp 16) ?_); refine wpList_load_1 23 (.tmp 16) rfl w.heap.size 0 (.slice a k cap) (HT1.out.cell 0) rfl _ Try.underlying23 rfl rfl ?_))
      go_ret
      exact ⟨by rw [HQV.out]; rfl, HBL.out⟩
    have hlt' : (k : Int) < m := by omega
    have hkn : k < ns.length := by rw [hm.out]; exact hlt
    have hstep := vtGo_step hkn
    have HND := Lib.hid (HN.out.elem hkn)
    obtain ⟨rb, ro, rfl, hlm, hrb, hna, hdk⟩ := HND.out
    have HALL := Lib.hid hna.all
    obtain ⟨d, hd⟩ : ∃ d, ns[k] = d := ⟨_, rfl⟩
    rw [hd] at HALL hdk hstep
    have HDK := Lib.hid hdk
    have HNT : Hid (∀ u b, Blk u b d.cells.toArray → NdAt u b 0 d) := fun u b hu => nd_at hu.rng HDK.out
    obtain ⟨L, hL⟩ : ∃ L, d.cells = L := ⟨_, rfl⟩
    have hLl : L.length = 240 := by rw [← hL]; exact NdD.len hdk
    have HL1 : Hid (∀ v ∈ L, v.oneCell' = true) := by show ∀ v ∈ L, _; rw [← hL]; exact NdD.one _
    rw [hL] at HALL HNT
    have hiL : (Try.prog.info? 41).map (·.size) = some L.length := by rw [hLl]; kernel_rfl
    have HSTEP := Lib.hid hstep
    clear hlm hna hdk hd hL hstep
    go_upto_region 7 with (first
      | ((with_reducible refine at_load (.tmp 16) ?_); refine wpList_load_1 23 (.tmp 16) rfl w.heap.size 0 (.slice (some ⟨rb, ro, none⟩) m cap) (HT1.out.cell 0) rfl _ Try.underlying23 rfl rfl ?_)
      | ((with_reducible refine at_load (.tmp 22) ?_); refine wpList_load_1 23 (.tmp 22) rfl w.heap.size 0 (.slice (some ⟨rb, ro, none⟩) m cap) (HT1.out.cell 0) rfl _ Try.underlying23 rfl rfl ?_)
      | ((with_reducible refine at_load (.tmp 25) ?_); refine wpList_load_rng 41 (.tmp 25) rfl rb (ro + k * 240) L (Below.rng HBL.out hrb HALL.out) rfl _ Try.underlying41 rfl hiL rfl ?_)
      | ((with_reducible refine at_store (.tmp 4) ?_); refine wpList_store_blk rfl 41 (.tmp 4) _ rfl wr.heap.size L.toArray rfl rfl ZN (Blk.new rfl) (by rw [hszN, List.size_toArray, hLl]) (by simpa using hiL) (fun v hv => HL1.out v (by simpa using hv)) ?_; intro w2 U2 B2; have hb2 := U2.below ((Below.refl wr.heap.size wr).alloc (Nat.le_refl _) (.cells ZN 41)) (Nat.le_refl _); have VS2 : Hid (VaS w #[.slice (some ⟨rb, ro, none⟩) m cap] L.toArray wr.heap.size w2) := (by exact ⟨HT1.out.call hb2, B2, HBL.out.trans (hb2.mono HBL.out.size)⟩); clear U2 B2 hb2))
    obtain ⟨st, hst⟩ : ∃ z, d.st = z := ⟨_, rfl⟩
    obtain ⟨up, hup⟩ : ∃ z, d.up = z := ⟨_, rfl⟩
    have HST := Lib.hid hst
    have HUP := Lib.hid hup
    have hp2 := HNT.out _ _ VS2.out.n
    have HCS := Lib.hid (show w2.cell? ⟨wr.heap.size, 239, none⟩ = some (.int .i64 st) by have := hp2.st; rw [Nat.zero_add, hst] at this; exact this)
    have HCU := Lib.hid (show w2.cell? ⟨wr.heap.size, 238, none⟩ = some (.int .i64 up) by have := hp2.up; rw [Nat.zero_add, hup] at this; exact this)
    have HSS := Lib.hid (fun u => status_any st u)
    have hlt2 := VS2.out.n.lt
    obtain ⟨B, hB⟩ : ∃ B, wr.heap.size = B := ⟨_, rfl⟩
    rw [hB] at VS2 HCS HCU hltP hlt2 ⊢
    clear hst hup hp2 hB
    simp only [Act.put]
    go_cut [54] from 15 to 96 (fun s54 wx => s54 = .bool (decide (badForm d k)) ∧ VaS w #[.slice (some ⟨rb, ro, none⟩) m cap] L.toArray B wx)
    case first =>
      by_cases hs : 0 ≤ st ∧ st ≤ 2
      case neg =>
        have HD : Hid (decide (0 ≤ st ∧ st ≤ 2) = false) := decide_eq_false hs
        have hx := hs
        have HBV : Hid (decide (badForm d k) = true) := decide_eq_true (by unfold badForm; rw [HST.out, HUP.out]; omega)
        clear hs hx
        go_wp2_with (first
          | ((with_reducible refine at_load (.tmp 27) ?_); refine wpList_load_1 3 (.tmp 27) rfl B 239 (.int .i64 st) HCS.out rfl _ Try.underlying3 rfl rfl ?_)
          | (go_at_call 40; refine (HSS.out _).mono ?_; rintro e w3 ⟨rfl, hb3⟩; rw [HD.out]; have VS3 := Lib.hid (VS2.out.call hb3); have HCU3 := Lib.hid ((hb3.cell (p := ⟨B, 238, none⟩) hlt2).trans HCU.out); clear hb3)
          | ((with_reducible refine at_load (.tmp 35) ?_); refine wpList_load_1 3 (.tmp 35) rfl B 238 (.int .i64 up) HCU3.out rfl _ Try.underlying3 rfl rfl ?_)
          | ((with_reducible refine at_load (.tmp 44) ?_); refine wpList_load_1 3 (.tmp 44) rfl B 238 (.int .i64 up) HCU3.out rfl _ Try.underlying3 rfl rfl ?_)
          | ((with_reducible refine at_load (.tmp 48) ?_); refine wpList_load_1 3 (.tmp 48) rfl B 238 (.int .i64 up) HCU3.out rfl _ Try.underlying3 rfl rfl ?_))
        go_meet
        case rel => exact ⟨by rw [HBV.out], VS3.out⟩
      have HD : Hid (decide (0 ≤ st ∧ st ≤ 2) = true) := decide_eq_true hs
      by_cases hk0 : k = 0
      · subst hk0
        by_cases hu : up = -1
        · subst hu
          have hub : ((-1 : Int) != -1) = false := by simp
          have HBV : Hid (decide (badForm d 0) = false) := decide_eq_false (by unfold badForm; rw [HST.out, HUP.out]; omega)
          skip
          go_wp2_with (first
            | ((with_reducible refine at_load (.tmp 27) ?_); refine wpList_load_1 3 (.tmp 27) rfl B 239 (.int .i64 st) HCS.out rfl _ Try.underlying3 rfl rfl ?_)
            | (go_at_call 40; refine (HSS.out _).mono ?_; rintro e w3 ⟨rfl, hb3⟩; rw [HD.out]; have VS3 := Lib.hid (VS2.out.call hb3); have HCU3 := Lib.hid ((hb3.cell (p := ⟨B, 238, none⟩) hlt2).trans HCU.out); clear hb3)
            | ((with_reducible refine at_load (.tmp 35) ?_); refine wpList_load_1 3 (.tmp 35) rfl B 238 (.int .i64 (-1)) HCU3.out rfl _ Try.underlying3 rfl rfl ?_)
            | ((with_reducible refine at_load (.tmp 44) ?_); refine wpList_load_1 3 (.tmp 44) rfl B 238 (.int .i64 (-1)) HCU3.out rfl _ Try.underlying3 rfl rfl ?_)
            | ((with_reducible refine at_load (.tmp 48) ?_); refine wpList_load_1 3 (.tmp 48) rfl B 238 (.int .i64 (-1)) HCU3.out rfl _ Try.underlying3 rfl rfl ?_))
          go_meet
          case rel => exact ⟨by rw [HBV.out], VS3.out⟩
        · have hub : (up != -1) = true := by simp [hu]
          have hx := hu
          have HBV : Hid (decide (badForm d 0) = true) := decide_eq_true (by unfold badForm; rw [HST.out, HUP.out]; omega)
          clear hx hu
          go_wp2_with (first
            | ((with_reducible refine at_load (.tmp 27) ?_); refine wpList_load_1 3 (.tmp 27) rfl B 239 (.int .i64 st) HCS.out rfl _ Try.underlying3 rfl rfl ?_)
            | (go_at_call 40; refine (HSS.out _).mono ?_; rintro e w3 ⟨rfl, hb3⟩; rw [HD.out]; have VS3 := Lib.hid (VS2.out.call hb3); have HCU3 := Lib.hid ((hb3.cell (p := ⟨B, 238, none⟩) hlt2).trans HCU.out); clear hb3)
            | ((with_reducible refine at_load (.tmp 35) ?_); refine wpList_load_1 3 (.tmp 35) rfl B 238 (.int .i64 up) HCU3.out rfl _ Try.underlying3 rfl rfl ?_)
            | ((with_reducible refine at_load (.tmp 44) ?_); refine wpList_load_1 3 (.tmp 44) rfl B 238 (.int .i64 up) HCU3.out rfl _ Try.underlying3 rfl rfl ?_)
            | ((with_reducible refine at_load (.tmp 48) ?_); refine wpList_load_1 3 (.tmp 48) rfl B 238 (.int .i64 up) HCU3.out rfl _ Try.underlying3 rfl rfl ?_))
          go_meet
          case rel => exact ⟨by rw [HBV.out], VS3.out⟩
      · have hkb : ((k : Int) == 0) = false := by simp; omega
        have hkp : (0 : Int) < (k : Int) := by omega
        by_cases hu : up < 0
        · have hx := hu
          have HBV : Hid (decide (badForm d k) = true) := decide_eq_true (by unfold badForm; rw [HST.out, HUP.out]; omega)
          clear hx hk0
          go_wp2_with (first
            | ((with_reducible refine at_load (.tmp 27) ?_); refine wpList_load_1 3 (.tmp 27) rfl B 239 (.int .i64 st) HCS.out rfl _ Try.underlying3 rfl rfl ?_)
            | (go_at_call 40; refine (HSS.out _).mono ?_; rintro e w3 ⟨rfl, hb3⟩; rw [HD.out]; have VS3 := Lib.hid (VS2.out.call hb3); have HCU3 := Lib.hid ((hb3.cell (p := ⟨B, 238, none⟩) hlt2).trans HCU.out); clear hb3)
            | ((with_reducible refine at_load (.tmp 35) ?_); refine wpList_load_1 3 (.tmp 35) rfl B 238 (.int .i64 up) HCU3.out rfl _ Try.underlying3 rfl rfl ?_)
            | ((with_reducible refine at_load (.tmp 44) ?_); refine wpList_load_1 3 (.tmp 44) rfl B 238 (.int .i64 up) HCU3.out rfl _ Try.underlying3 rfl rfl ?_)
            | ((with_reducible refine at_load (.tmp 48) ?_); refine wpList_load_1 3 (.tmp 48) rfl B 238 (.int .i64 up) HCU3.out rfl _ Try.underlying3 rfl rfl ?_))
          go_meet
          case rel => exact ⟨by rw [HBV.out], VS3.out⟩
        · have hub : (up < 0) = False := eq_false hu
          by_cases hu2 : (k : Int) ≤ up
          · have hx := hu2
            have HBV : Hid (decide (badForm d k) = true) := decide_eq_true (by unfold badForm; rw [HST.out, HUP.out]; omega)
            clear hx hk0
            go_wp2_with (first
              | ((with_reducible refine at_load (.tmp 27) ?_); refine wpList_load_1 3 (.tmp 27) rfl B 239 (.int .i64 st) HCS.out rfl _ Try.underlying3 rfl rfl ?_)
              | (go_at_call 40; refine (HSS.out _).mono ?_; rintro e w3 ⟨rfl, hb3⟩; rw [HD.out]; have VS3 := Lib.hid (VS2.out.call hb3); have HCU3 := Lib.hid ((hb3.cell (p := ⟨B, 238, none⟩) hlt2).trans HCU.out); clear hb3)
              | ((with_reducible refine at_load (.tmp 35) ?_); refine wpList_load_1 3 (.tmp 35) rfl B 238 (.int .i64 up) HCU3.out rfl _ Try.underlying3 rfl rfl ?_)
              | ((with_reducible refine at_load (.tmp 44) ?_); refine wpList_load_1 3 (.tmp 44) rfl B 238 (.int .i64 up) HCU3.out rfl _ Try.underlying3 rfl rfl ?_)
              | ((with_reducible refine at_load (.tmp 48) ?_); refine wpList_load_1 3 (.tmp 48) rfl B 238 (.int .i64 up) HCU3.out rfl _ Try.underlying3 rfl rfl ?_))
            go_meet
            case rel => exact ⟨by rw [HBV.out], VS3.out⟩
          · have hub2 : ((k : Int) ≤ up) = False := eq_false hu2
            have hx := hu2
            have HBV : Hid (decide (badForm d k) = false) := decide_eq_false (by unfold badForm; rw [HST.out, HUP.out]; omega)
            clear hx hu2 hu hk0
            go_wp2_with (first
              | ((with_reducible refine at_load (.tmp 27) ?_); refine wpList_load_1 3 (.tmp 27) rfl B 239 (.int .i64 st) HCS.out rfl _ Try.underlying3 rfl rfl ?_)
              | (go_at_call 40; refine (HSS.out _).mono ?_; rintro e w3 ⟨rfl, hb3⟩; rw [HD.out]; have VS3 := Lib.hid (VS2.out.call hb3); have HCU3 := Lib.hid ((hb3.cell (p := ⟨B, 238, none⟩) hlt2).trans HCU.out); clear hb3)
              | ((with_reducible refine at_load (.tmp 35) ?_); refine wpList_load_1 3 (.tmp 35) rfl B 238 (.int .i64 up) HCU3.out rfl _ Try.underlying3 rfl rfl ?_)
              | ((with_reducible refine at_load (.tmp 44) ?_); refine wpList_load_1 3 (.tmp 44) rfl B 238 (.int .i64 up) HCU3.out rfl _ Try.underlying3 rfl rfl ?_)
              | ((with_reducible refine at_load (.tmp 48) ?_); refine wpList_load_1 3 (.tmp 48) rfl B 238 (.int .i64 up) HCU3.out rfl _ Try.underlying3 rfl rfl ?_))
            go_meet
            case rel => exact ⟨by rw [HBV.out], VS3.out⟩
    case rest =>
      obtain ⟨rfl, hvs⟩ := hcut
      have VS3 := Lib.hid hvs
      clear hvs VS2 HCS HCU HSS hlt2
      by_cases hbf : badForm d k
      · have hbb : decide (badForm d k) = true := decide_eq_true hbf
        have HQV : Hid (q = 2) := by
          show q = 2
          have he : nodeE ns d k = 2 := by unfold nodeE; rw [if_pos hbf]
          rw [← HGO.out, HSTEP.out, he]; rfl
        rw [hbb]
        go_wp2_with fail
        go_ret
        exact ⟨by rw [HQV.out]; rfl, VS3.out.b⟩
      have hbb : decide (badForm d k) = false := decide_eq_false hbf
      have HBF := Lib.hid hbf
      rw [hbb]
      clear hbf hbb
      have hrok : IsBytes 32 d.b.root := HDK.out.1.2.2.2.1
      have hpok : IsBytes 32 d.b.parent := HDK.out.1.2.2.2.2.1
      have HFI := Lib.hid (fun u (hu : Below w.heap.size w u) => find_any (.slice (some ⟨rb, ro, none⟩) k cap) (ns.take k) d.b.root u ((HN.out.call hu).take (Nat.le_of_lt hlt) cap) hrok)
      have HSV := Lib.hid (fun u => runSlHi Try.underlying23 (by kernel_rfl) size_node (some ⟨rb, ro, none⟩) m cap k (by omega) u)
      obtain ⟨q9, hq9⟩ : ∃ z : Bool, decide (0 ≤ findN (ns.take k) d.b.root) = z := ⟨_, rfl⟩
      have HQ9 : Hid (q9 = true ↔ 0 ≤ findN (ns.take k) d.b.root) := by show _ ↔ _; rw [← hq9]; exact decide_eq_true_iff
      obtain ⟨fr, hfr⟩ : ∃ z, findN (ns.take k) d.b.root = z := ⟨_, rfl⟩
      rw [hfr] at HFI hq9
      have HFR := Lib.hid hfr
      obtain ⟨Rr, hRr⟩ : ∃ z, bytesL d.b.root = z := ⟨_, rfl⟩
      have HRR := Lib.hid hRr
      have hiRr : (Try.prog.info? 31).map (·.size) = some Rr.length := by rw [← hRr, bytesL_len hrok]; kernel_rfl
      rw [hRr] at HFI
      clear hfr hRr
      go_wp2_with fail
      refine wp_region_fam2 (by kernel_rfl) (by kernel_rfl) ?_
      intro T F hT hF hG
      have c0 : ∀ t, (F t).cell? ⟨w.heap.size, 0, none⟩ = some (.slice (some ⟨rb, ro, none⟩) m cap) := fun t => (VS3.out.call (hF t)).t.cell 0
      have CR := Lib.hid (show ∀ u, (∃ t, u = F t) → u.rangeAt B 67 Rr by rintro _ ⟨t, rfl⟩; have := (HNT.out _ _ (VS3.out.call (hF t)).n).bk.root; rw [HRR.out, Nat.zero_add] at this; exact this)
      have CF := Lib.hid (fun t => HFI.out (F t) (VS3.out.call (hF t)).b)
      repeat (first
        | ((with_reducible refine at_qload (.tmp 61) ?_); refine wpQuiet_load_midE 31 _ rfl B 67 (by simp [Act.eval]) Rr CR.out Try.underlying31 rfl hiRr (by kernel_rfl) ?_; simp only [Act.put, List.setIfInBounds_toArray, List.set_cons_succ, List.set_cons_zero])
        | ((with_reducible refine at_qslice (some 58) ?_); refine wpQuiet_slice 23 _ _ _ _ rfl (.slice (some ⟨rb, ro, none⟩) m cap) none (some (.int .i64 k)) none (by simp [Act.eval]) rfl (by simp [Act.eval]) rfl (.slice (some ⟨rb, ro, none⟩) k cap) HSV.out (by kernel_rfl) ?_; simp only [Act.put, List.setIfInBounds_toArray, List.set_cons_succ, List.set_cons_zero])
        | ((with_reducible refine at_qbuild (some 59) ?_); refine wpQuiet_build 25 _ rfl #[(0, .slice (some ⟨rb, ro, none⟩) k cap)] (by simp [Act.eval]) (.agg #[.slice (some ⟨rb, ro, none⟩) k cap]) (fun u => b_tree _ _ _ u) (by kernel_rfl) ?_; simp only [Act.put, List.setIfInBounds_toArray, List.set_cons_succ, List.set_cons_zero])
        | (go_big_quiet_step ((go_at_call 41; exact fam_call hF hG (Nat.le_refl _) (CF.out _)))))
      refine wpQuiet_nil ?_
      rintro _ ⟨t, rfl⟩
      have VS4 := Lib.hid (VS3.out.call (hF t))
      obtain ⟨w4, hw4⟩ : ∃ u, F t = u := ⟨_, rfl⟩
      rw [hw4] at VS4 ⊢
      clear c0 CR CF hG hw4 hF hT hq9 VS3
      clear t F T
      have HNB := Lib.hid (show ¬ badForm d k from HBF.out)
      cases q9
      case true =>
        have HQV : Hid (q = 9) := by
          show q = 9
          have he : nodeE ns d k = 9 := by unfold nodeE; rw [if_neg HNB.out, if_pos (HQ9.out.1 rfl)]
          rw [← HGO.out, HSTEP.out, he]; rfl
        go_wp2_with fail
        go_ret
        exact ⟨by rw [HQV.out]; rfl, VS4.out.b⟩
      have HN9 : Hid (¬ 0 ≤ findN (ns.take k) d.b.root) := fun h => by have := HQ9.out.2 h; cases this
      have HUPR : Hid (0 < k → 0 ≤ d.up ∧ d.up < k) := fun h => by
        have hb := HNB.out
        unfold badForm at hb
        omega
      have HU0 : Hid (k = 0 → d.up = -1) := fun h => by
        have hb := HNB.out
        unfold badForm at hb
        omega
      go_upto_region 11 with fail
      go_cut [80] from 15 to 96 (fun s80 wx => s80 = .bool (decide (0 < k ∧ d.b.parent ≠ rootAt ns d.up)) ∧ VaS w #[.slice (some ⟨rb, ro, none⟩) m cap] L.toArray B wx)
      case first =>
        by_cases hk0 : k = 0
        · subst hk0
          have HBV : Hid (decide (0 < 0 ∧ d.b.parent ≠ rootAt ns d.up) = false) := decide_eq_false (by omega)
          refine wp_region_fam2 (by kernel_rfl) (by kernel_rfl) ?_
          intro T F hT hF hG
          repeat (go_big_quiet_step (fail))
          refine wpQuiet_nil ?_
          rintro _ ⟨t, rfl⟩
          have VS5 := Lib.hid (VS4.out.call (hF t))
          go_wp2_with fail
          go_meet
          case rel => exact ⟨by rw [HBV.out], VS5.out⟩
        · have hkp : (0 : Int) < (k : Int) := by omega
          have hkp2 : 0 < k := by omega
          have hkd : decide ((0 : Int) < (k : Int)) = true := decide_eq_true hkp
          obtain ⟨hu1, hu2⟩ := HUPR.out (by omega)
          obtain ⟨u, hu⟩ : ∃ u : Nat, d.up = u := ⟨d.up.toNat, by omega⟩
          have hum : u < ns.length := by omega
          obtain ⟨rb2, ro2, he2, hlm2, hrb2, hna2, hdk2⟩ := HN.out.elem hum
          cases he2
          clear hlm2
          have hra : rootAt ns d.up = ns[u].b.root := by rw [hu]; simp [rootAt, List.getElem?_eq_getElem hum]
          obtain ⟨qp, hqp⟩ : ∃ z : Bool, decide (d.b.parent = ns[u].b.root) = z := ⟨_, rfl⟩
          have HEQ := fun z => eq_root hpok hdk2.1.2.2.2.1 z
          rw [hqp] at HEQ
          simp only [bytesL_V] at HEQ
          have HBV : Hid (decide (0 < k ∧ d.b.parent ≠ rootAt ns d.up) = !qp) := by
            show _ = _
            rw [hra, ← hqp]
            by_cases e : d.b.parent = ns[u].b.root
            · simp [e]
            · simp [e]; omega
          have hiP : (Try.prog.info? 31).map (·.size) = some (bytesL d.b.parent).length := by rw [bytesL_len hpok]; kernel_rfl
          have hiU : (Try.prog.info? 31).map (·.size) = some (bytesL ns[u].b.root).length := by rw [bytesL_len hdk2.1.2.2.2.1]; kernel_rfl
          have HRU := Lib.hid hna2.bk.root
          obtain ⟨Pp, hPp⟩ : ∃ z, bytesL d.b.parent = z := ⟨_, rfl⟩
          obtain ⟨Pu, hPu⟩ : ∃ z, bytesL ns[u].b.root = z := ⟨_, rfl⟩
          have HPP := Lib.hid hPp
          rw [hPp] at HEQ hiP
          rw [hPu] at HEQ hiU HRU
          have HUV := Lib.hid hu
          have hum' : (u : Int) < m := by rw [← hm.out]; omega
          clear hna2 hdk2 hra hqp hPp hPu hu hu1 hu2
          refine wp_region_fam2 (by kernel_rfl) (by kernel_rfl) ?_
          intro T F hT hF hG
          have c0 : ∀ t, (F t).cell? ⟨w.heap.size, 0, none⟩ = some (.slice (some ⟨rb, ro, none⟩) m cap) := fun t => (VS4.out.call (hF t)).t.cell 0
          have c1 : ∀ t, (F t).cell? ⟨B, 238, none⟩ = some (.int .i64 (u : Int)) := fun t => by have := (HNT.out _ _ (VS4.out.call (hF t)).n).up; rw [Nat.zero_add, HUV.out] at this; exact this
          have CP := Lib.hid (show ∀ z, (∃ t, z = F t) → z.rangeAt B 99 Pp by rintro _ ⟨t, rfl⟩; have := (HNT.out _ _ (VS4.out.call (hF t)).n).bk.parent; rw [HPP.out, Nat.zero_add] at this; exact this)
          have CU := Lib.hid (show ∀ z, (∃ t, z = F t) → z.rangeAt rb (ro + u * 240 + 67) Pu by rintro _ ⟨t, rfl⟩; exact Below.rng (VS4.out.call (hF t)).b hrb2 HRU.out)
          repeat (first
            | ((with_reducible refine at_qload (.tmp 69) ?_); refine wpQuiet_load_midE 31 _ rfl B 99 (by simp [Act.eval]) Pp CP.out Try.underlying31 rfl hiP (by kernel_rfl) ?_; simp only [Act.put, List.setIfInBounds_toArray, List.set_cons_succ, List.set_cons_zero])
            | ((with_reducible refine at_qload (.tmp 77) ?_); refine wpQuiet_load_midE 31 _ rfl rb (ro + u * 240 + 67) (by simp [Act.eval]) Pu CU.out Try.underlying31 rfl hiU (by kernel_rfl) ?_; simp only [Act.put, List.setIfInBounds_toArray, List.set_cons_succ, List.set_cons_zero])
            | (go_big_quiet_step (fail)))
          refine wpQuiet_nil ?_
          rintro _ ⟨t, rfl⟩
          have VS5 := Lib.hid (VS4.out.call (hF t))
          go_wp2_with fail
          go_meet
          case rel => exact ⟨by rw [HBV.out], VS5.out⟩
      case rest =>
        obtain ⟨rfl, hvs⟩ := hcut
        have VS5 := Lib.hid hvs
        clear hvs VS4
        obtain ⟨q10, hq10⟩ : ∃ z : Bool, decide (0 < k ∧ d.b.parent ≠ rootAt ns d.up) = z := ⟨_, rfl⟩
        have HQ10 : Hid (q10 = true ↔ (0 < k ∧ d.b.parent ≠ rootAt ns d.up)) := by show _ ↔ _; rw [← hq10]; exact decide_eq_true_iff
        rw [hq10]
        clear hq10
        cases q10
        case true =>
          have HQV : Hid (q = 10) := by
            show q = 10
            have he : nodeE ns d k = 10 := by unfold nodeE; rw [if_neg HNB.out, if_neg HN9.out, if_pos (HQ10.out.1 rfl)]
            rw [← HGO.out, HSTEP.out, he]; rfl
          go_wp2_with fail
          go_ret
          exact ⟨by rw [HQV.out]; rfl, VS5.out.b⟩
        have HN10 : Hid (¬ (0 < k ∧ d.b.parent ≠ rootAt ns d.up)) := fun h => by have := HQ10.out.2 h; cases this
        go_upto_region 13 with fail
        go_cut [96] from 15 to 96 (fun s96 wx => s96 = .bool (decide (0 < k ∧ d.b.slot ≤ slotAt ns d.up)) ∧ VaS w #[.slice (some ⟨rb, ro, none⟩) m cap] L.toArray B wx)
        case first =>
          by_cases hk0 : k = 0
          · subst hk0
            have HBV : Hid (decide (0 < 0 ∧ d.b.slot ≤ slotAt ns d.up) = false) := decide_eq_false (by omega)
            refine wp_region_fam2 (by kernel_rfl) (by kernel_rfl) ?_
            intro T F hT hF hG
            repeat (go_big_quiet_step (fail))
            refine wpQuiet_nil ?_
            rintro _ ⟨t, rfl⟩
            have VS6 := Lib.hid (VS5.out.call (hF t))
            go_wp2_with fail
            go_meet
            case rel => exact ⟨by rw [HBV.out], VS6.out⟩
          · have hkp : (0 : Int) < (k : Int) := by omega
            have hkp2 : 0 < k := by omega
            have hkd : decide ((0 : Int) < (k : Int)) = true := decide_eq_true hkp
            obtain ⟨hu1, hu2⟩ := HUPR.out (by omega)
            obtain ⟨u, hu⟩ : ∃ u : Nat, d.up = u := ⟨d.up.toNat, by omega⟩
            have hum : u < ns.length := by omega
            obtain ⟨rb2, ro2, he2, hlm2, hrb2, hna2, hdk2⟩ := HN.out.elem hum
            cases he2
            have hsa : slotAt ns d.up = ns[u].b.slot := by rw [hu]; simp [slotAt, List.getElem?_eq_getElem hum]
            have HSU := Lib.hid hna2.bk.slot
            obtain ⟨s1, hs1⟩ : ∃ z, ns[u].b.slot = z := ⟨_, rfl⟩
            obtain ⟨s0, hs0⟩ : ∃ z, d.b.slot = z := ⟨_, rfl⟩
            have HS0 := Lib.hid hs0
            rw [hs1] at HSU hsa
            obtain ⟨qs, hqs⟩ : ∃ z : Bool, decide (s0 ≤ s1) = z := ⟨_, rfl⟩
            have HBV : Hid (decide (0 < k ∧ d.b.slot ≤ slotAt ns d.up) = qs) := by
              show _ = _
              rw [hsa, hs0, ← hqs]
              by_cases e : s0 ≤ s1
              · simp [e]; omega
              · simp [e]
            have HUV := Lib.hid hu
            have hum' : (u : Int) < m := by rw [← hm.out]; omega
            clear hna2 hdk2 hsa hs1 hs0 hu hu1 hu2 hlm2
            refine wp_region_fam2 (by kernel_rfl) (by kernel_rfl) ?_
            intro T F hT hF hG
            have c0 : ∀ t, (F t).cell? ⟨w.heap.size, 0, none⟩ = some (.slice (some ⟨rb, ro, none⟩) m cap) := fun t => (VS5.out.call (hF t)).t.cell 0
            have c1 : ∀ t, (F t).cell? ⟨B, 238, none⟩ = some (.int .i64 (u : Int)) := fun t => by have := (HNT.out _ _ (VS5.out.call (hF t)).n).up; rw [Nat.zero_add, HUV.out] at this; exact this
            have c2 : ∀ t, (F t).cell? ⟨B, 66, none⟩ = some (.int .u64 s0) := fun t => by have := (HNT.out _ _ (VS5.out.call (hF t)).n).bk.slot; rw [Nat.zero_add, HS0.out] at this; exact this
            have c3 : ∀ t, (F t).cell? ⟨rb, ro + u * 240 + 66, none⟩ = some (.int .u64 s1) := fun t => ((VS5.out.call (hF t)).b.cell (p := ⟨rb, ro + u * 240 + 66, none⟩) hrb2).trans HSU.out
            repeat (go_big_quiet_step (fail))
            refine wpQuiet_nil ?_
            rintro _ ⟨t, rfl⟩
            have VS6 := Lib.hid (VS5.out.call (hF t))
            go_wp2_with fail
            go_meet
            case rel => exact ⟨by rw [HBV.out], VS6.out⟩
        case rest =>
          obtain ⟨rfl, hvs⟩ := hcut
          have VS6 := Lib.hid hvs
          clear hvs VS5
          obtain ⟨q14, hq14⟩ : ∃ z : Bool, decide (0 < k ∧ d.b.slot ≤ slotAt ns d.up) = z := ⟨_, rfl⟩
          have HQ14 : Hid (q14 = true ↔ (0 < k ∧ d.b.slot ≤ slotAt ns d.up)) := by show _ ↔ _; rw [← hq14]; exact decide_eq_true_iff
          rw [hq14]
          clear hq14
          cases q14
          case true =>
            have HQV : Hid (q = 14) := by
              show q = 14
              have he : nodeE ns d k = 14 := by unfold nodeE; rw [if_neg HNB.out, if_neg HN9.out, if_neg HN10.out, if_pos (HQ14.out.1 rfl)]
              rw [← HGO.out, HSTEP.out, he]; rfl
            go_wp2_with fail
            go_ret
            exact ⟨by rw [HQV.out]; rfl, VS6.out.b⟩
          have HN14 : Hid (¬ (0 < k ∧ d.b.slot ≤ slotAt ns d.up)) := fun h => by have := HQ14.out.2 h; cases this
          have HNX : Hid (vtGo ns (ns.length - (k + 1)) (k + 1) = q) := by
            show _ = q
            have he : nodeE ns d k = 0 := by unfold nodeE; rw [if_neg HNB.out, if_neg HN9.out, if_neg HN10.out, if_neg HN14.out]
            rw [← HGO.out, HSTEP.out, he]; rfl
          go_wp2_with fail
          go_roundw
          case rel => exact ⟨k + 1, by rw [hm.out]; omega, by go_num, HNX.out, VS6.out.t, VS6.out.b⟩
          case measure => simp [intOf]; omega
end

/-! TrK -/
section
set_option linter.unusedVariables false
set_option linter.unusedSimpArgs false
open Go.RowKit

theorem nodeE_ok {ns : List NdD} (h : TrOK ns) {k : Nat} (hk : k < ns.length) : nodeE ns ns[k] k = 0 := by
  have hs := h.st k hk
  have hb : ¬ badForm ns[k] k := by
    unfold badForm
    by_cases h0 : k = 0
    · subst h0
      have := h.root hk
      omega
    · obtain ⟨u, hu, h1, h2, _⟩ := h.up k hk (by omega)
      omega
  have hf : ¬ 0 ≤ findN (ns.take k) ns[k].b.root := by
    rcases findN_spec (ns.take k) ns[k].b.root with ⟨h1, _⟩ | ⟨j, hj, _, h2, _⟩
    · rw [h1]; omega
    · have hj' : j < k := by rw [List.length_take] at hj; omega
      rw [List.getElem_take] at h2
      exact absurd h2 (h.ne j k (by omega) hk hj')
  unfold nodeE
  rw [if_neg hb, if_neg hf]
  by_cases h0 : k = 0
  · rw [if_neg (by omega), if_neg (by omega)]
  · obtain ⟨u, hu, h1, h2, h3, h4, _⟩ := h.up k hk (by omega)
    have hr : rootAt ns ns[k].up = ns[u].b.root := by rw [h2]; simp [rootAt, List.getElem?_eq_getElem hu]
    have hsl : slotAt ns ns[k].up = ns[u].b.slot := by rw [h2]; simp [slotAt, List.getElem?_eq_getElem hu]
    rw [hr, hsl, if_neg (fun hh => hh.2 h3), if_neg (by omega)]

theorem vtGo_ok {ns : List NdD} (h : TrOK ns) : ∀ f k, vtGo ns f k = 0
  | 0, _ => rfl
  | f + 1, k => by
    show (match ns[k]? with | none => 0 | some d => if nodeE ns d k = 0 then vtGo ns f (k + 1) else nodeE ns d k) = 0
    by_cases hk : k < ns.length
    · rw [List.getElem?_eq_getElem hk]
      show (if nodeE ns ns[k] k = 0 then vtGo ns f (k + 1) else nodeE ns ns[k] k) = 0
      rw [if_pos (nodeE_ok h hk), vtGo_ok h f (k + 1)]
    · rw [List.getElem?_eq_none (by omega)]

theorem vtE_ok {ns : List NdD} (h : TrOK ns) (hl : ns.length ≤ 4096) : vtE ns = 0 := by
  unfold vtE
  rw [if_neg (by have := h.pos; omega)]
  exact vtGo_ok h _ _
end

/-! TrQ -/
section
set_option linter.unusedVariables false
set_option linter.unusedSimpArgs false
open Go.RowKit

set_option maxRecDepth 100000

/-- A node's status and its parent's don't go together (P16.1). -/
def badC (s up : Int) : Prop := (s = 1 ∧ up ≠ 1) ∨ (up = 2 ∧ s ≠ 2)
instance (s up : Int) : Decidable (badC s up) := by unfold badC; infer_instance

def clGo (ns : List NdD) : Nat → Nat → Int
  | 0, _ => 0
  | f + 1, k => if badC (stI ns k) (stI ns (upI ns k).toNat) then 15 else clGo ns f (k + 1)

def cloN (ns : List NdD) : Int := if vtE ns = 0 then clGo ns (ns.length - 1) 1 else vtE ns

theorem vtGo_nodes {ns : List NdD} : ∀ f i, vtGo ns f i = 0 → ∀ k, i ≤ k → k < i + f → (hk : k < ns.length) → nodeE ns ns[k] k = 0 := by
  intro f
  induction f with
  | zero => intro i _ k h1 h2; omega
  | succ f ih =>
    intro i h k h1 h2 hk
    have hi : i < ns.length := by omega
    have e : vtGo ns (f + 1) i = (if nodeE ns ns[i] i = 0 then vtGo ns f (i + 1) else nodeE ns ns[i] i) := by
      show (match ns[i]? with | none => 0 | some d => if nodeE ns d i = 0 then vtGo ns f (i + 1) else nodeE ns d i) = _
      rw [List.getElem?_eq_getElem hi]
    have h' := e.symm.trans h
    by_cases h0 : nodeE ns ns[i] i = 0
    · rw [if_pos h0] at h'
      by_cases e : i = k
      · subst e; exact h0
      · exact ih (i + 1) h' k (by omega) (by omega) hk
    · rw [if_neg h0] at h'; exact absurd h' h0

theorem vtE_up {ns : List NdD} (h : vtE ns = 0) {k : Nat} (hk : k < ns.length) (h0 : 0 < k) : 0 ≤ ns[k].up ∧ ns[k].up < k := by
  unfold vtE at h
  by_cases hc : ns.length = 0 ∨ 4096 < ns.length
  · rw [if_pos hc] at h; omega
  · rw [if_neg hc] at h
    have hn := vtGo_nodes _ _ h k (Nat.zero_le _) (by omega) hk
    unfold nodeE at hn
    by_cases hb : badForm ns[k] k
    · rw [if_pos hb] at hn; omega
    · unfold badForm at hb; omega

theorem vtE_len {ns : List NdD} (h : vtE ns = 0) : 0 < ns.length ∧ ns.length ≤ 4096 := by
  unfold vtE at h
  by_cases hc : ns.length = 0 ∨ 4096 < ns.length
  · rw [if_pos hc] at h; omega
  · omega

theorem pas_drew {w u : World} {T : Array Value} (h : PaS w T u) (n : Nat) : PaS w T (u.drewN n) := ⟨h.t.drewN, ⟨h.b.os, h.b.tape, h.b.output, h.b.size, h.b.block⟩⟩

set_option maxHeartbeats 8000000 in
theorem clo_any (v : Value) (ns : List NdD) (w : World) (hN : NodesV w v ns) (hcap : CapOK v) :
    Calls Try.prog 11 #[.agg #[v]] w fun e w' => e = .returned (.int .i64 (cloN ns)) ∧ Below w.heap.size w w' := by
  have HVT := Lib.hid (fun u (hu : Below w.heap.size w u) => vtree_any v ns u (hN.call hu) hcap)
  obtain ⟨a, cap, rfl, hmx⟩ := hN.shape
  unfold maxLen at hmx
  have HN := Lib.hid hN
  have hi1 : (Try.prog.info? 25).map (·.size) = some 1 := by kernel_rfl
  have HVL := Lib.hid (vtE_len (ns := ns))
  have HVU := Lib.hid (fun h => @vtE_up ns h)
  obtain ⟨q, hq⟩ : ∃ q, Hid (cloN ns = q) := ⟨_, Lib.hid rfl⟩
  rw [hq.out]
  have HQ : Hid (q = if vtE ns = 0 then clGo ns (ns.length - 1) 1 else vtE ns) := hq.out.symm
  obtain ⟨ve, hve⟩ : ∃ ve, vtE ns = ve := ⟨_, rfl⟩
  rw [hve] at HVT HVL HVU HQ
  obtain ⟨m, hm⟩ : ∃ m, Hid (ns.length = m) := ⟨_, Lib.hid rfl⟩
  rw [hm.out] at hmx HN HVT HVL HQ ⊢
  have S0 := Lib.hid (pas_new w #[.slice a m cap] 25)
  clear hN hcap hve
  by_cases h0 : ve = 0
  case neg =>
    have HR : Hid (q = ve) := by show _ = _; rw [HQ.out, if_neg h0]
    go_enter Try.func11, Try.ntmps11
    go_wp2_with (first
      | ((with_reducible refine at_load (.tmp 1) ?_); refine wpList_load_g 25 (.tmp 1) rfl w.heap.size rfl #[.slice a m cap] _ S0.out.t Try.underlying25 rfl hi1 rfl ?_)
      | (go_at_call 30; refine (HVT.out _ S0.out.b).mono ?_; rintro e w1 ⟨rfl, hb1⟩; have S1 := Lib.hid (S0.out.call hb1); clear hb1)
      | fail)
    go_ret
    exact ⟨by rw [HR.out]; rfl, S1.out.b⟩
  subst h0
  have HR : Hid (clGo ns (m - 1) 1 = q) := by show _ = _; rw [HQ.out, if_pos rfl]
  have hml := HVL.out rfl
  have hm0 := hml.1
  have hm1 := hml.2
  clear hml
  go_enter Try.func11, Try.ntmps11
  go_wp2_with (first
    | ((with_reducible refine at_load (.tmp 1) ?_); refine wpList_load_g 25 (.tmp 1) rfl w.heap.size rfl #[.slice a m cap] _ S0.out.t Try.underlying25 rfl hi1 rfl ?_)
    | (go_at_call 30; refine (HVT.out _ S0.out.b).mono ?_; rintro e w1 ⟨rfl, hb1⟩; have S1 := Lib.hid (S0.out.call hb1); clear hb1)
    | fail)
  go_loopw [4] (fun i wr => ∃ k : Nat, 1 ≤ k ∧ k ≤ m ∧ i = .int .i64 k ∧ clGo ns (m - k) k = q ∧ PaS w #[.slice a m cap] wr) (fun i _ => m - (intOf i).toNat)
  case atStart => exact ⟨1, Nat.le_refl _, hm0, rfl, HR.out, S1.out⟩
  case round =>
    obtain ⟨k, hk1, hk, rfl, hgo, hs⟩ := hrel
    have S2 := Lib.hid hs
    have hc0 := hs.t.cell 0
    have HGO := Lib.hid hgo
    clear hs hgo
    by_cases hlt : k < m
    case neg =>
      obtain rfl : k = m := by omega
      have HV : Hid (q = 0) := by show _ = _; rw [← HGO.out, Nat.sub_self]; rfl
      go_wp2_with fail
      go_ret
      exact ⟨by rw [HV.out]; rfl, S2.out.b⟩
    have hlt' : (k : Int) < m := by omega
    have hkn : k < ns.length := by rw [hm.out]; exact hlt
    obtain ⟨u1, u2⟩ := HVU.out (by trivial) hkn (by omega)
    obtain ⟨j, hj⟩ : ∃ j : Nat, ns[k].up = j := ⟨ns[k].up.toNat, by omega⟩
    have hjk : j < k := by omega
    have hjn : j < ns.length := by omega
    have hjm : j < m := by omega
    have hjm' : (j : Int) < m := by omega
    have HSTEP : Hid ((if badC ns[k].st ns[j].st then 15 else clGo ns (m - (k + 1)) (k + 1)) = q) := by
      show _ = _
      rw [← HGO.out, show m - k = (m - (k + 1)) + 1 by omega]
      show _ = (if badC (stI ns k) (stI ns (upI ns k).toNat) then 15 else clGo ns (m - (k + 1)) (k + 1))
      rw [stI_at hkn, upI_at hkn, hj, show ((j : Int)).toNat = j from rfl, stI_at hjn]
    obtain ⟨b, off, rfl, hlm, hbb, hna, _⟩ := HN.out.elem hkn
    obtain ⟨b', off', e', hl9, hb9, hnb, ho9⟩ := HN.out.elem hjn
    cases e'
    have hst := (S2.out.b.cell (p := ⟨b, off + k * 240 + 239, none⟩) hbb).trans hna.st
    have hup := (S2.out.b.cell (p := ⟨b, off + k * 240 + 238, none⟩) hbb).trans hna.up
    have hsu := (S2.out.b.cell (p := ⟨b, off + j * 240 + 239, none⟩) hbb).trans hnb.st
    rw [hj] at hup
    obtain ⟨s, hs⟩ : ∃ s, ns[k].st = s := ⟨_, rfl⟩
    obtain ⟨t, ht⟩ : ∃ t, ns[j].st = t := ⟨_, rfl⟩
    rw [hs] at hst HSTEP
    rw [ht] at hsu HSTEP
    clear hlm hna hnb hs ht hj u1 u2 HGO hl9 hb9 ho9
    by_cases s1 : s = 1
    · subst s1
      by_cases t1 : t = 1
      · subst t1
        have HV : Hid (clGo ns (m - (k + 1)) (k + 1) = q) := by show _ = _; rw [← HSTEP.out, if_neg (by unfold badC; omega)]
        clear HSTEP
        go_wp2_with fail
        go_quiet (fail)
        go_wp2_with fail
        go_roundw
        case rel => exact ⟨k + 1, by omega, by omega, by go_num, HV.out, pas_drew S2.out _⟩
        case measure => simp [intOf]; omega
      · have n1 : (t != 1) = true := by simpa using t1
        have HV : Hid (q = 15) := by show _ = _; rw [← HSTEP.out, if_pos (by unfold badC; omega)]
        go_wp2_with fail
        go_quiet (fail)
        go_wp2_with fail
        go_ret
        exact ⟨by rw [HV.out]; rfl, (pas_drew S2.out _).b⟩
    · have n0 : (s == 1) = false := by simpa using s1
      by_cases t2 : t = 2
      · subst t2
        by_cases s2 : s = 2
        · subst s2
          have HV : Hid (clGo ns (m - (k + 1)) (k + 1) = q) := by show _ = _; rw [← HSTEP.out, if_neg (by unfold badC; omega)]
          clear HSTEP
          go_wp2_with fail
          go_quiet (fail)
          go_wp2_with fail
          go_roundw
          case rel => exact ⟨k + 1, by omega, by omega, by go_num, HV.out, pas_drew S2.out _⟩
          case measure => simp [intOf]; omega
        · have n2 : (s != 2) = true := by simpa using s2
          have HV : Hid (q = 15) := by show _ = _; rw [← HSTEP.out, if_pos (by unfold badC; omega)]
          go_wp2_with fail
          go_quiet (fail)
          go_wp2_with fail
          go_ret
          exact ⟨by rw [HV.out]; rfl, (pas_drew S2.out _).b⟩
      · have n3 : (t == 2) = false := by simpa using t2
        have HV : Hid (clGo ns (m - (k + 1)) (k + 1) = q) := by show _ = _; rw [← HSTEP.out, if_neg (by unfold badC; omega)]
        clear HSTEP
        go_wp2_with fail
        go_quiet (fail)
        go_wp2_with fail
        go_roundw
        case rel => exact ⟨k + 1, by omega, by omega, by go_num, HV.out, pas_drew S2.out _⟩
        case measure => simp [intOf]; omega
end

/-! SuA -/
section
set_option linter.unusedVariables false
set_option linter.unusedSimpArgs false
open Go.RowKit

set_option maxRecDepth 100000

theorem badC_1 (s : Int) : (!decide (badC s 1)) = true := by
  have h : ¬ badC s 1 := by unfold badC; omega
  simp [h]

theorem badC_2 (s : Int) : (!decide (badC s 2)) = (s == 2) := by
  by_cases h : s = 2
  · subst h
    have h : ¬ badC 2 2 := by unfold badC; omega
    simp [h]
  · have h2 : badC s 2 := by unfold badC; omega
    simp [h2, h]

theorem badC_0 (s p : Int) (h1 : p ≠ 1) (h2 : p ≠ 2) : (!decide (badC s p)) = (s != 1) := by
  by_cases h : s = 1
  · have hb : badC s p := by unfold badC; omega
    rw [decide_eq_true hb, h]; rfl
  · have hb : ¬ badC s p := by unfold badC; omega
    rw [decide_eq_false hb]; simp [h]

set_option maxHeartbeats 2000000 in
theorem mayf_any (s p : Int) (w : World) :
    Calls Try.prog 29 #[.int .i64 s, .int .i64 p] w fun e w' => e = .returned (.bool (!decide (badC s p))) ∧ Below w.heap.size w w' := by
  by_cases h1 : p = 1
  · subst h1
    rw [badC_1]
    go_enter Try.func29, Try.ntmps29
    go_wp2_with fail
    go_ret
    exact ⟨rfl, Below.refl _ _⟩
  by_cases h2 : p = 2
  · subst h2
    rw [badC_2]
    obtain ⟨q, hq⟩ : ∃ q, (s == 2) = q := ⟨_, rfl⟩
    rw [hq]
    go_enter Try.func29, Try.ntmps29
    go_wp2_with fail
    go_ret
    exact ⟨rfl, Below.refl _ _⟩
  have hb1 : (p == 1) = false := by simpa using h1
  have hb2 : (p == 2) = false := by simpa using h2
  rw [badC_0 s p h1 h2]
  obtain ⟨q, hq⟩ : ∃ q, (s != 1) = q := ⟨_, rfl⟩
  rw [hq]
  clear h1 h2
  go_enter Try.func29, Try.ntmps29
  go_wp2_with fail
  go_ret
  exact ⟨rfl, Below.refl _ _⟩

set_option maxHeartbeats 8000000 in
theorem cwait_any (ns : List NdD) (v : Value) (w : World) (hN : NodesV w v ns) (hlen : ns.length ≤ 100000) :
    Calls Try.prog 17 #[.agg #[v]] w (SelE (waitT ns) w) := by
  obtain ⟨a, cap, rfl, hmx⟩ := hN.shape
  unfold maxLen at hmx
  have HII := Lib.hid info_int
  have HN := Lib.hid hN
  unfold waitT
  obtain ⟨p, hp⟩ : ∃ p : Nat → Bool, (fun (k : Nat) => decide (stI ns k = 0)) = p := ⟨_, rfl⟩
  have HPP : Hid (∀ k : Nat, decide (stI ns k = 0) = p k) := fun k => by rw [← hp]
  rw [hp]
  obtain ⟨m, hm⟩ : ∃ m, Hid (ns.length = m) := ⟨_, Lib.hid rfl⟩
  rw [hm.out] at hmx hlen HN ⊢
  have S0 := Lib.hid (pas_new w #[.slice a m cap] 25)
  have hal := (Below.refl (w.alloc (.cells #[.slice a m cap] 25)).heap.size (w.alloc (.cells #[.slice a m cap] 25))).alloc (Nat.le_refl _) (.cells #[] 3)
  have S3 := Lib.hid (S0.out.call hal)
  have HO3 : Hid (OwnK .i64 3 ((w.alloc (.cells #[.slice a m cap] 25)).alloc (.cells #[] 3)) (w.heap.size + 1) (.slice (some ⟨(w.alloc (.cells #[.slice a m cap] 25)).heap.size, 0, none⟩) 0 0) []) := own_int0 (by simp)
  have esz : (w.alloc (.cells #[.slice a m cap] 25)).heap.size = w.heap.size + 1 := by simp
  rw [esz] at HO3
  clear hN hp hal esz
  go_enter Try.func17, Try.ntmps17
  go_wp2_with (first
    | ((with_reducible refine at_buildSliceE (some 5) ?_); refine wpList_buildSliceE rfl 22 0 _ rfl #[] (by simp) _ (bs_int0 _) ?_)
    | ((with_reducible refine at_load (.tmp 6) ?_); refine wpList_load_1 23 (.tmp 6) rfl w.heap.size 0 (.slice a m cap) (S3.out.t.cell 0) rfl _ Try.underlying23 rfl rfl ?_))
  go_loopw [3, 9] (fun v i wr => SelI w #[.slice a m cap] p m v i wr) (fun _ i _ => m - (intOf i).toNat)
  case atStart => exact ⟨0, Nat.zero_le _, rfl, HO3.out, S3.out⟩
  case round =>
    obtain ⟨k, hk, rfl, hown, hs⟩ := hrel
    have HOW := Lib.hid hown
    have S1 := Lib.hid hs
    have HXL := Lib.hid (selK_len p k)
    have HC0 := Lib.hid (hs.t.cell 0)
    clear hown hs
    by_cases hlt : k < m
    case neg =>
      obtain rfl : k = m := by omega
      go_wp2_with fail
      go_ret
      exact ⟨_, rfl, HOW.out.lower (by omega), S1.out.b⟩
    have hlt' : (k : Int) < m := by omega
    have hkn : k < ns.length := by rw [hm.out]; exact hlt
    obtain ⟨b, off, rfl, hlm, hbb, hna, _⟩ := HN.out.elem hkn
    have HUP := Lib.hid ((S1.out.b.cell (p := ⟨b, off + k * 240 + 239, none⟩) hbb).trans hna.st)
    have hpk := HPP.out k
    rw [stI_at hkn] at hpk
    obtain ⟨u, hu⟩ : ∃ u, ns[k].st = u := ⟨_, rfl⟩
    rw [hu] at HUP hpk
    clear hlm hna hu
    cases hpk2 : p k
    case false =>
      have HNX := Lib.hid (selK_no hpk2)
      rw [hpk2] at hpk
      have hbe : (u == 0) = false := by simpa using hpk
      clear hpk hpk2
      go_wp2_with (first
        | ((with_reducible refine at_load (.tmp 12) ?_); refine wpList_load_1 23 (.tmp 12) rfl w.heap.size 0 (.slice (some ⟨b, off, none⟩) m cap) HC0.out rfl _ Try.underlying23 rfl rfl ?_)
        | ((with_reducible refine at_load (.tmp 16) ?_); refine wpList_load_1 3 (.tmp 16) rfl b (off + k * 240 + 239) (.int .i64 u) HUP.out rfl _ Try.underlying3 rfl rfl ?_))
      go_roundw
      case rel => exact ⟨k + 1, by omega, by go_num, by rw [HNX.out]; exact HOW.out, S1.out⟩
      case measure => simp [intOf]; omega
    case true =>
      have HNX := Lib.hid (selK_yes hpk2)
      rw [hpk2] at hpk
      have hbe : (u == 0) = true := by simpa using hpk
      clear hpk hpk2
      go_wp2_with (first
        | ((with_reducible refine at_load (.tmp 12) ?_); refine wpList_load_1 23 (.tmp 12) rfl w.heap.size 0 (.slice (some ⟨b, off, none⟩) m cap) HC0.out rfl _ Try.underlying23 rfl rfl ?_)
        | ((with_reducible refine at_load (.tmp 16) ?_); refine wpList_load_1 3 (.tmp 16) rfl b (off + k * 240 + 239) (.int .i64 u) HUP.out rfl _ Try.underlying3 rfl rfl ?_)
        | ((with_reducible refine at_app (.tmp 19) (.tmp 21) ?_); refine wpList_app1 HII.out (by omega) Try.underlying22 (.tmp 19) (.tmp 21) rfl rfl (w.heap.size + 1) _ _ rfl (HOW.out.grown (World.grownBy_alloc _ (.cells #[.int .i64 (k : Int)] 3) none) (fun n _ => by simp)) wr.heap.size 1 (k : Int) rfl ((Blk.new rfl).cell 0) (by have := HXL.out; omega) (by have := S1.out.t.lt; simp; omega) ?_; intro v3 w3 h3 g3 o3; rw [← HNX.out] at h3; have HO3 := Lib.hid h3; have S3 := Lib.hid ((S1.out.call ((Below.refl wr.heap.size wr).alloc (Nat.le_refl _) (.cells #[.int .i64 (k : Int)] 3))).grown g3 HOW.out.off1); clear h3 g3 o3))
      go_roundw
      case rel => exact ⟨k + 1, by omega, by go_num, HO3.out, S3.out⟩
      case measure => simp [intOf]; omega

/-- slices.Contains of a slice of ints. -/
theorem scon_ints (v : Value) (l : List Int) (n : Int) (w : World) (h : IntsV w v l) :
    Calls Try.prog 34 #[v, .int .i64 n] w fun e w' => e = .returned (.bool (decide (n ∈ l))) ∧ Below w.heap.size w w' := by
  obtain ⟨⟨a, len, cap, rfl, hl, hm, hr⟩, _⟩ := h
  unfold maxLen at hm
  rcases hr with h0 | ⟨b, off, rfl, hb, hc⟩
  · subst h0
    have e : l = [] := List.eq_nil_of_length_eq_zero hl
    subst e
    refine (Try.slices_Contains_int_empty a cap n w).mono ?_
    rintro e w' ⟨rfl, rfl⟩
    exact ⟨by simp, Below.refl _ _⟩
  · refine (Try.slices_Contains_int b off len cap l n w (by omega) (by omega) (fun j hj => hc j (by omega))).mono ?_
    rintro e w' ⟨rfl, rfl⟩
    have hL : l.take len = l := by rw [← hl, List.take_length]
    refine ⟨?_, Below.refl _ _⟩
    rw [hL]
    congr 2
    exact List.contains_eq_mem n l

set_option maxHeartbeats 8000000 in
theorem ccnt_any (ns : List NdD) (l : List Int) (v lv : Value) (w : World) (hN : NodesV w v ns) (hL : IntsV w lv l) (hlen : ns.length ≤ 100000) :
    Calls Try.prog 14 #[.agg #[v], lv] w fun e w' => e = .returned (.int .i64 (cntT ns l ns.length)) ∧ Below w.heap.size w w' := by
  obtain ⟨a, cap, rfl, hmx⟩ := hN.shape
  unfold maxLen at hmx
  have HN := Lib.hid hN
  have HHAS := Lib.hid (fun (n : Int) u (hu : Below w.heap.size w u) => scon_ints _ l n u (hL.below hu))
  obtain ⟨la, ll, lc, rfl⟩ := ints_shape' hL.1
  obtain ⟨m, hm⟩ : ∃ m, Hid (ns.length = m) := ⟨_, Lib.hid rfl⟩
  rw [hm.out] at hmx hlen HN ⊢
  have S0 := Lib.hid (pas_new w #[.slice a m cap] 25)
  clear hN hL
  go_enter Try.func14, Try.ntmps14
  go_wp2_with (first
    | ((with_reducible refine at_load (.tmp 7) ?_); refine wpList_load_1 23 (.tmp 7) rfl w.heap.size 0 (.slice a m cap) (S0.out.t.cell 0) rfl _ Try.underlying23 rfl rfl ?_))
  go_loopw [5, 10] (fun c i wr => ∃ k : Nat, k ≤ m ∧ i = .int .i64 k ∧ c = .int .i64 (cntT ns l k) ∧ PaS w #[.slice a m cap] wr) (fun _ i _ => m - (intOf i).toNat)
  case atStart => exact ⟨0, Nat.zero_le _, rfl, rfl, S0.out⟩
  case round =>
    obtain ⟨k, hk, rfl, rfl, hs⟩ := hrel
    have S1 := Lib.hid hs
    have HC0 := Lib.hid (hs.t.cell 0)
    clear hs
    by_cases hlt : k < m
    case neg =>
      obtain rfl : k = m := by omega
      go_wp2_with fail
      go_ret
      exact ⟨rfl, S1.out.b⟩
    have hlt' : (k : Int) < m := by omega
    have hkn : k < ns.length := by rw [hm.out]; exact hlt
    obtain ⟨b, off, rfl, hlm, hbb, hna, _⟩ := HN.out.elem hkn
    have HUP := Lib.hid ((S1.out.b.cell (p := ⟨b, off + k * 240 + 239, none⟩) hbb).trans hna.st)
    have HNY := Lib.hid (cntT_yes (ns := ns) (l := l) (k := k))
    have HNN := Lib.hid (cntT_no (ns := ns) (l := l) (k := k))
    have hcr := cntT_rng ns l k
    rw [stI_at hkn] at HNY HNN
    obtain ⟨u, hu⟩ : ∃ u, ns[k].st = u := ⟨_, rfl⟩
    rw [hu] at HUP HNY HNN
    have HHK := Lib.hid (fun x (hx : Below w.heap.size w x) => HHAS.out u x hx)
    obtain ⟨q, hq⟩ : ∃ q, decide (u ∈ l) = q := ⟨_, rfl⟩
    obtain ⟨n, hn⟩ : ∃ n, cntT ns l k = n := ⟨_, rfl⟩
    rw [hq] at HHK HNY HNN
    rw [hn] at HNY HNN hcr ⊢
    clear hlm hna hu hq hn
    cases q
    case false =>
      go_wp2_with (first
        | ((with_reducible refine at_load (.tmp 14) ?_); refine wpList_load_1 23 (.tmp 14) rfl w.heap.size 0 (.slice (some ⟨b, off, none⟩) m cap) HC0.out rfl _ Try.underlying23 rfl rfl ?_)
        | ((with_reducible refine at_load (.tmp 18) ?_); refine wpList_load_1 3 (.tmp 18) rfl b (off + k * 240 + 239) (.int .i64 u) HUP.out rfl _ Try.underlying3 rfl rfl ?_)
        | (go_at_call 34; refine (HHK.out _ S1.out.b).mono ?_; rintro e w2 ⟨rfl, hb2⟩; have S2 := Lib.hid (S1.out.call hb2); clear hb2))
      go_roundw
      case rel => exact ⟨k + 1, by omega, by go_num, by rw [HNN.out (by trivial)], S2.out⟩
      case measure => simp [intOf]; omega
    case true =>
      go_wp2_with (first
        | ((with_reducible refine at_load (.tmp 14) ?_); refine wpList_load_1 23 (.tmp 14) rfl w.heap.size 0 (.slice (some ⟨b, off, none⟩) m cap) HC0.out rfl _ Try.underlying23 rfl rfl ?_)
        | ((with_reducible refine at_load (.tmp 18) ?_); refine wpList_load_1 3 (.tmp 18) rfl b (off + k * 240 + 239) (.int .i64 u) HUP.out rfl _ Try.underlying3 rfl rfl ?_)
        | (go_at_call 34; refine (HHK.out _ S1.out.b).mono ?_; rintro e w2 ⟨rfl, hb2⟩; have S2 := Lib.hid (S1.out.call hb2); clear hb2))
      go_roundw
      case rel => exact ⟨k + 1, by omega, by go_num, by rw [HNY.out (by trivial)], S2.out⟩
      case measure => simp [intOf]; omega
end

end Go.Proofs.Ytdmjpmigejpkmaa
