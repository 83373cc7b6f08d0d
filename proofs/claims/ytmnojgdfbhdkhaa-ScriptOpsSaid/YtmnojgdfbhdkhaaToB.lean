/- Contract of wide.ToBytes and of the reference's: the 32 bytes of a number, the most significant one first. -/
import Derived.Test.YtmnojgdfbhdkhaaRoot0
import Derived.Test.YtmnojgdfbhdkhaaRef6
set_option linter.unusedVariables false
namespace Go.Proofs.Ytmnojgdfbhdkhaa
open Go.RowKit

/-- Byte i of a number, from the least significant one on. -/
def byteN (n : Int) (i : Nat) : Int := n / (2 : Int) ^ (8 * i) % 256

/-- The 32 bytes, the most significant one first. -/
def bytesN (n : Int) : List Int := (List.range 32).map fun j => byteN n (31 - j)

theorem bytesN_is (n : Int) : IsBytes 32 (bytesN n) := by
  refine ⟨by simp [bytesN], fun x hx => ?_⟩
  simp only [bytesN, List.mem_map] at hx
  obtain ⟨j, _, rfl⟩ := hx
  have h : 0 ≤ byteN n (31 - j) ∧ byteN n (31 - j) ≤ 255 := by unfold byteN; omega
  simpa [Lit.wf, IntKind.min, IntKind.max, IntKind.signed, IntKind.bits] using h

theorem low_byte (m : Int) (t : Nat) (ht : t < 8) : m % 18446744073709551616 / (2 : Int) ^ (8 * t) % 256 = m / (2 : Int) ^ (8 * t) % 256 := by
  have hB : (18446744073709551616 : Int) = (2 : Int) ^ (8 * t) * ((2 : Int) ^ (56 - 8 * t) * 256) := by
    rw [show (256 : Int) = 2 ^ 8 from rfl, ← Int.pow_add, ← Int.pow_add, show 8 * t + (56 - 8 * t + 8) = 64 by omega]; rfl
  have hp := pow_pos2 (8 * t)
  have h := Int.mul_ediv_add_emod m 18446744073709551616
  generalize (2 : Int) ^ (8 * t) = P at *
  generalize (2 : Int) ^ (56 - 8 * t) = Q at *
  have e : m / P = (m % 18446744073709551616) / P + Q * 256 * (m / 18446744073709551616) := by
    conv => lhs; rw [← h, Int.add_comm, hB, Int.mul_assoc P, Int.add_mul_ediv_left _ _ (by omega)]
    rw [hB]
  rw [e, show Q * 256 * (m / 18446744073709551616) = 256 * (Q * (m / 18446744073709551616)) by rw [Int.mul_comm Q, Int.mul_assoc], Int.add_mul_emod_self_left]

theorem byte_limb0 (n : Int) (t : Nat) (ht : t < 8) : l0 n / (2 : Int) ^ (8 * t) % 256 = byteN n (0 + t) := by
  unfold l0 byteN
  rw [low_byte _ t ht, show 8 * (0 + t) = 8 * t by omega]

theorem byte_limb1 (n : Int) (t : Nat) (ht : t < 8) : l1 n / (2 : Int) ^ (8 * t) % 256 = byteN n (8 + t) := by
  unfold l1 byteN
  rw [low_byte _ t ht, show 8 * (8 + t) = 64 + 8 * t by omega, Int.pow_add, ← Int.ediv_ediv_of_nonneg (Int.le_of_lt (pow_pos2 _)), show (2 : Int) ^ 64 = 18446744073709551616 from by decide]

theorem byte_limb2 (n : Int) (t : Nat) (ht : t < 8) : l2 n / (2 : Int) ^ (8 * t) % 256 = byteN n (16 + t) := by
  unfold l2 byteN
  rw [low_byte _ t ht, show 8 * (16 + t) = 128 + 8 * t by omega, Int.pow_add, ← Int.ediv_ediv_of_nonneg (Int.le_of_lt (pow_pos2 _)), show (2 : Int) ^ 128 = 340282366920938463463374607431768211456 from by decide]

theorem byte_limb3 (n : Int) (t : Nat) (ht : t < 8) : l3 n / (2 : Int) ^ (8 * t) % 256 = byteN n (24 + t) := by
  unfold l3 byteN
  rw [low_byte _ t ht, show 8 * (24 + t) = 192 + 8 * t by omega, Int.pow_add, ← Int.ediv_ediv_of_nonneg (Int.le_of_lt (pow_pos2 _)), show (2 : Int) ^ 192 = 6277101735386680763835789423207666416102355444464034512896 from by decide]

theorem Blk.setRow {w : World} {b : Nat} {cs ds : Array Value} (h : Blk w b cs) : Blk (w.setRow b ds) b ds := by
  obtain ⟨t, h⟩ := h
  exact ⟨t, setRow_heap w b cs ds t (0, 0) h⟩

theorem below_setRow {N : Nat} {w0 w : World} {b : Nat} {ds : Array Value} (h : Below N w0 w) (hN : N ≤ b) : Below N w0 (w.setRow b ds) :=
  h.trans ⟨rfl, rfl, rfl, by simp, fun k hk => setRow_other w b k ds (by omega)⟩

def ToI (w : World) (n : Int) (i : Value) (wr : World) : Prop :=
  ∃ (k : Nat) (cs : Array Value), k ≤ 32 ∧ i = .int .i64 k ∧ cs.size = 32 ∧ (∀ j, j < k → cs[31 - j]? = some (.int .u8 (byteN n j))) ∧ (∀ v ∈ cs, v.oneCell' = true) ∧ Below w.heap.size w wr ∧ w.heap.size + 3 ≤ wr.heap.size ∧
    Blk wr w.heap.size #[.int .u64 (l0 n), .int .u64 (l1 n), .int .u64 (l2 n), .int .u64 (l3 n)] ∧ Blk wr (w.heap.size + 1) (Array.replicate 32 (Value.int .u8 0)) ∧ Blk wr (w.heap.size + 1 + 1) cs

theorem ToI.start (n : Int) (w : World) (Z : Array Value) (hZ : Z = Array.replicate 32 (Value.int .u8 0)) (t u u' : TypeId) :
    ToI w n (.int .i64 0) (((w.alloc (.cells #[.int .u64 (l0 n), .int .u64 (l1 n), .int .u64 (l2 n), .int .u64 (l3 n)] t)).alloc (.cells Z u)).alloc (.cells Z u')) := by
  subst hZ
  refine ⟨0, _, by omega, rfl, by simp, by omega, by simp [Value.oneCell'], ?_, by simp, ?_, ?_, Blk.new (by simp)⟩
  · exact (((Below.refl _ _).alloc (Nat.le_refl _) _).alloc (by simp) _).alloc (by simp; omega) _
  · exact ((Blk.new rfl).alloc _).alloc _
  · exact (Blk.new (by simp)).alloc _

theorem ToI.next {w wr : World} {n b : Int} {cs : Array Value} {k : Nat} (hk : k < 32) (hb0 : b = byteN n k) (hcs : cs.size = 32) (hc : ∀ j, j < k → cs[31 - j]? = some (.int .u8 (byteN n j))) (h1 : ∀ v ∈ cs, v.oneCell' = true) (hb : Below w.heap.size w wr) (hsz : w.heap.size + 3 ≤ wr.heap.size)
    (bA : Blk wr w.heap.size #[.int .u64 (l0 n), .int .u64 (l1 n), .int .u64 (l2 n), .int .u64 (l3 n)]) (bR : Blk wr (w.heap.size + 1) (Array.replicate 32 (Value.int .u8 0))) (bD : Blk wr (w.heap.size + 1 + 1) cs) :
    ToI w n (.int .i64 ((k : Int) + 1)) (wr.setCell ⟨w.heap.size + 1 + 1, 31 - k, none⟩ (.int .u8 b)) := by
  subst hb0
  refine ⟨k + 1, cs.setIfInBounds (31 - k) (.int .u8 (byteN n k)), by omega, rfl, by simp [hcs], fun j hj => ?_, fun v hv => ?_, hb.setCell (by simp; omega) _, by simp [World.setCell]; omega, bA.setCell_other (by omega), bR.setCell_other (by omega), bD.setCell⟩
  · by_cases hjk : j = k
    · subst hjk
      rw [Array.getElem?_setIfInBounds_self_of_lt (by omega)]
    · rw [Array.getElem?_setIfInBounds_ne (by omega)]
      exact hc j (by omega)
  · rcases Array.mem_or_eq_of_mem_setIfInBounds hv with h | h
    · exact h1 v h
    · subst h; rfl

theorem to_all {n : Int} {cs : Array Value} (hcs : cs.size = 32) (hc : ∀ j, j < 32 → cs[31 - j]? = some (.int .u8 (byteN n j))) : cs = ((bytesN n).map (Value.int .u8)).toArray := by
  apply Array.ext_getElem?
  intro i
  by_cases hi : i < 32
  · have := hc (31 - i) (by omega)
    rw [show 31 - (31 - i) = i by omega] at this
    rw [this]
    simp [bytesN, hi]
  · rw [Array.getElem?_eq_none (by omega), Array.getElem?_eq_none (by simp [bytesN]; omega)]

set_option maxHeartbeats 2000000 in
theorem toB_any (n : Int) (hn : W256 n) (w : World) :
    Calls Try.prog 93 #[.agg #[.int .u64 (l0 (n)), .int .u64 (l1 (n)), .int .u64 (l2 (n)), .int .u64 (l3 (n))]] w fun e w' => e = .returned (.agg ((bytesN n).map (Value.int .u8)).toArray) ∧ Below w.heap.size w w' := by
  obtain ⟨Z, hZ⟩ : ∃ Z, Z = Array.replicate 32 (Value.int .u8 0) := ⟨_, rfl⟩
  have hsz : Z.size = 32 := by rw [hZ]; simp
  obtain ⟨hz32, hst⟩ := zero_array (P := Try.prog) (t := 23) (n := 32) Z (by rw [hZ]; kernel_rfl) hsz (by rw [hZ]; kernel_rfl)
  have HZ := Lib.hid hZ; clear hZ
  go_enter Try.func93, Try.ntmps93
  go_wp2_with fail
  clear hst hz32
  go_loopw [6] (fun i wr => ToI w n i wr) (fun i _ => 32 - (intOf i).toNat)
  case atStart => exact ToI.start n w Z HZ.out _ _ _
  case round =>
    obtain ⟨k, cs, hk, rfl, hcs, hcell, h1, hb, hsz2, bA, bR, bD⟩ := hrel
    have HC := Lib.hid hcell; clear hcell
    have H1 := Lib.hid h1; clear h1
    obtain ⟨a0, a1, a2, a3, a4⟩ := bA.four
    by_cases hlt : k < 32
    · obtain ⟨t, ht⟩ : ∃ t, k % 8 = t := ⟨_, rfl⟩
      have hj4 : k / 8 = 0 ∨ k / 8 = 1 ∨ k / 8 = 2 ∨ k / 8 = 3 := by omega
      have hm : (k : Int).tmod 8 = t := by rw [Int.tmod_eq_emod_of_nonneg (by omega)]; omega
      have hm' : (k : Int) % 8 = t := by omega
      have htl : t < 8 := by omega
      have hk0 : (0 : Int) ≤ (k : Int) := by omega
      have hk2 : (k : Int) < 32 := by omega
      have c1 : ∃ v, wr.cell? ⟨w.heap.size + 1 + 1, 31 - k, none⟩ = some v := by rw [bD.cell]; exact ⟨cs[31 - k]'(by omega), Array.getElem?_eq_getElem (by omega)⟩
      obtain ⟨v, c1⟩ := c1
      have c2 := bD.free
      rcases hj4 with hj | hj | hj | hj
      · have hd : (k : Int).tdiv 8 = 0 := by rw [Int.tdiv_eq_ediv_of_nonneg (by omega)]; omega
        have hd' : (k : Int) / 8 = 0 := by omega
        have HK : Hid (l0 n / (2 : Int) ^ (8 * t) % 256 = byteN n k) := by rw [show k = 0 + t by omega]; exact byte_limb0 n t htl
        clear ht hj
        go_wp2_with fail
        refine ⟨ToI.next hlt (by first | exact HK.out | (rw [Nat.mul_comm]; exact HK.out)) hcs HC.out H1.out hb hsz2 bA bR bD, by simp [intOf]; omega⟩
      · have hd : (k : Int).tdiv 8 = 1 := by rw [Int.tdiv_eq_ediv_of_nonneg (by omega)]; omega
        have hd' : (k : Int) / 8 = 1 := by omega
        have HK : Hid (l1 n / (2 : Int) ^ (8 * t) % 256 = byteN n k) := by rw [show k = 8 + t by omega]; exact byte_limb1 n t htl
        clear ht hj
        go_wp2_with fail
        refine ⟨ToI.next hlt (by first | exact HK.out | (rw [Nat.mul_comm]; exact HK.out)) hcs HC.out H1.out hb hsz2 bA bR bD, by simp [intOf]; omega⟩
      · have hd : (k : Int).tdiv 8 = 2 := by rw [Int.tdiv_eq_ediv_of_nonneg (by omega)]; omega
        have hd' : (k : Int) / 8 = 2 := by omega
        have HK : Hid (l2 n / (2 : Int) ^ (8 * t) % 256 = byteN n k) := by rw [show k = 16 + t by omega]; exact byte_limb2 n t htl
        clear ht hj
        go_wp2_with fail
        refine ⟨ToI.next hlt (by first | exact HK.out | (rw [Nat.mul_comm]; exact HK.out)) hcs HC.out H1.out hb hsz2 bA bR bD, by simp [intOf]; omega⟩
      · have hd : (k : Int).tdiv 8 = 3 := by rw [Int.tdiv_eq_ediv_of_nonneg (by omega)]; omega
        have hd' : (k : Int) / 8 = 3 := by omega
        have HK : Hid (l3 n / (2 : Int) ^ (8 * t) % 256 = byteN n k) := by rw [show k = 24 + t by omega]; exact byte_limb3 n t htl
        clear ht hj
        go_wp2_with fail
        refine ⟨ToI.next hlt (by first | exact HK.out | (rw [Nat.mul_comm]; exact HK.out)) hcs HC.out H1.out hb hsz2 bA bR bD, by simp [intOf]; omega⟩
    · obtain rfl : k = 32 := by omega
      have hcs' := to_all hcs HC.out
      obtain ⟨tD, hD⟩ := bD
      have bR' := bR
      obtain ⟨tR, hR⟩ := bR'
      have hall : cs.all (·.oneCell') = true := Array.all_eq_true_iff_forall_mem.2 H1.out
      go_wp2_with (first
        | (refine wpList_load_row rfl 23 _ rfl (w.heap.size + 1 + 1) rfl tD cs (0, 0) _ hD Try.underlying23 rfl (by rw [hcs]; kernel_rfl) ?_)
        | (refine wpList_store_row rfl 23 _ _ rfl (w.heap.size + 1) cs rfl rfl tR _ hR (by rw [hcs]; kernel_rfl) (by rw [hcs]; simp) hall ?_))
      refine bodyPost_ret (results_cell_row rfl _ _ (w.heap.size + 1) tR cs (0, 0) _ rfl (setRow_heap _ _ _ _ _ _ hR) Try.underlying23 rfl (by rw [hcs]; kernel_rfl)) rfl ⟨by rw [hcs'], ?_⟩
      exact below_setRow hb (by omega)

set_option maxHeartbeats 2000000 in
theorem rtoB_any (n : Int) (hn : W256 n) (w : World) :
    Calls Try.prog 74 #[.agg #[.int .u64 (l0 (n)), .int .u64 (l1 (n)), .int .u64 (l2 (n)), .int .u64 (l3 (n))]] w fun e w' => e = .returned (.agg ((bytesN n).map (Value.int .u8)).toArray) ∧ Below w.heap.size w w' := by
  obtain ⟨Z, hZ⟩ : ∃ Z, Z = Array.replicate 32 (Value.int .u8 0) := ⟨_, rfl⟩
  have hsz : Z.size = 32 := by rw [hZ]; simp
  obtain ⟨hz32, hst⟩ := zero_array (P := Try.prog) (t := 23) (n := 32) Z (by rw [hZ]; kernel_rfl) hsz (by rw [hZ]; kernel_rfl)
  have HZ := Lib.hid hZ; clear hZ
  go_enter Try.func74, Try.ntmps74
  go_wp2_with fail
  clear hst hz32
  go_loopw [4] (fun i wr => ToI w n i wr) (fun i _ => 32 - (intOf i).toNat)
  case atStart => exact ToI.start n w Z HZ.out _ _ _
  case round =>
    obtain ⟨k, cs, hk, rfl, hcs, hcell, h1, hb, hsz2, bA, bR, bD⟩ := hrel
    have HC := Lib.hid hcell; clear hcell
    have H1 := Lib.hid h1; clear h1
    obtain ⟨a0, a1, a2, a3, a4⟩ := bA.four
    by_cases hlt : k < 32
    · obtain ⟨t, ht⟩ : ∃ t, k % 8 = t := ⟨_, rfl⟩
      have hj4 : k / 8 = 0 ∨ k / 8 = 1 ∨ k / 8 = 2 ∨ k / 8 = 3 := by omega
      have hm : (k : Int).tmod 8 = t := by rw [Int.tmod_eq_emod_of_nonneg (by omega)]; omega
      have hm' : (k : Int) % 8 = t := by omega
      have htl : t < 8 := by omega
      have hk0 : (0 : Int) ≤ (k : Int) := by omega
      have hk2 : (k : Int) < 32 := by omega
      have c1 : ∃ v, wr.cell? ⟨w.heap.size + 1 + 1, 31 - k, none⟩ = some v := by rw [bD.cell]; exact ⟨cs[31 - k]'(by omega), Array.getElem?_eq_getElem (by omega)⟩
      obtain ⟨v, c1⟩ := c1
      have c2 := bD.free
      rcases hj4 with hj | hj | hj | hj
      · have hd : (k : Int).tdiv 8 = 0 := by rw [Int.tdiv_eq_ediv_of_nonneg (by omega)]; omega
        have hd' : (k : Int) / 8 = 0 := by omega
        have HK : Hid (l0 n / (2 : Int) ^ (8 * t) % 256 = byteN n k) := by rw [show k = 0 + t by omega]; exact byte_limb0 n t htl
        clear ht hj
        go_wp2_with fail
        refine ⟨ToI.next hlt (by first | exact HK.out | (rw [Nat.mul_comm]; exact HK.out)) hcs HC.out H1.out hb hsz2 bA bR bD, by simp [intOf]; omega⟩
      · have hd : (k : Int).tdiv 8 = 1 := by rw [Int.tdiv_eq_ediv_of_nonneg (by omega)]; omega
        have hd' : (k : Int) / 8 = 1 := by omega
        have HK : Hid (l1 n / (2 : Int) ^ (8 * t) % 256 = byteN n k) := by rw [show k = 8 + t by omega]; exact byte_limb1 n t htl
        clear ht hj
        go_wp2_with fail
        refine ⟨ToI.next hlt (by first | exact HK.out | (rw [Nat.mul_comm]; exact HK.out)) hcs HC.out H1.out hb hsz2 bA bR bD, by simp [intOf]; omega⟩
      · have hd : (k : Int).tdiv 8 = 2 := by rw [Int.tdiv_eq_ediv_of_nonneg (by omega)]; omega
        have hd' : (k : Int) / 8 = 2 := by omega
        have HK : Hid (l2 n / (2 : Int) ^ (8 * t) % 256 = byteN n k) := by rw [show k = 16 + t by omega]; exact byte_limb2 n t htl
        clear ht hj
        go_wp2_with fail
        refine ⟨ToI.next hlt (by first | exact HK.out | (rw [Nat.mul_comm]; exact HK.out)) hcs HC.out H1.out hb hsz2 bA bR bD, by simp [intOf]; omega⟩
      · have hd : (k : Int).tdiv 8 = 3 := by rw [Int.tdiv_eq_ediv_of_nonneg (by omega)]; omega
        have hd' : (k : Int) / 8 = 3 := by omega
        have HK : Hid (l3 n / (2 : Int) ^ (8 * t) % 256 = byteN n k) := by rw [show k = 24 + t by omega]; exact byte_limb3 n t htl
        clear ht hj
        go_wp2_with fail
        refine ⟨ToI.next hlt (by first | exact HK.out | (rw [Nat.mul_comm]; exact HK.out)) hcs HC.out H1.out hb hsz2 bA bR bD, by simp [intOf]; omega⟩
    · obtain rfl : k = 32 := by omega
      have hcs' := to_all hcs HC.out
      obtain ⟨tD, hD⟩ := bD
      have bR' := bR
      obtain ⟨tR, hR⟩ := bR'
      have hall : cs.all (·.oneCell') = true := Array.all_eq_true_iff_forall_mem.2 H1.out
      go_wp2_with (first
        | (refine wpList_load_row rfl 23 _ rfl (w.heap.size + 1 + 1) rfl tD cs (0, 0) _ hD Try.underlying23 rfl (by rw [hcs]; kernel_rfl) ?_)
        | (refine wpList_store_row rfl 23 _ _ rfl (w.heap.size + 1) cs rfl rfl tR _ hR (by rw [hcs]; kernel_rfl) (by rw [hcs]; simp) hall ?_))
      refine bodyPost_ret (results_cell_row rfl _ _ (w.heap.size + 1) tR cs (0, 0) _ rfl (setRow_heap _ _ _ _ _ _ hR) Try.underlying23 rfl (by rw [hcs]; kernel_rfl)) rfl ⟨by rw [hcs'], ?_⟩
      exact below_setRow hb (by omega)

end Go.Proofs.Ytmnojgdfbhdkhaa
