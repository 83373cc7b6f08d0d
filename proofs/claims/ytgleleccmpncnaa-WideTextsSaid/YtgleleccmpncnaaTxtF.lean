/- Contract of the reference's FormatWide: the decimal digits. -/
import Derived.Test.YtgleleccmpncnaaFmt
import Derived.Test.YtgleleccmpncnaaRef7
import Derived.Deep.LoopGhost
set_option linter.unusedVariables false
namespace Go.Proofs.Ytgleleccmpncnaa
open Go.RowKit

/-- What stands at the loop's head: at most g rounds are to come. -/
def RFmtI (w : World) (n : Int) (g : Nat) (s : Value) (wr : World) : Prop :=
  ∃ (m : Int) (ds : List Int), s = .string (strOfNums ds) ∧ W256 m ∧ m.toNat < g ∧ (ds = [] ∨ m ≠ 0) ∧ m.toNat * 10 ^ ds.length ≤ n.toNat ∧ FmtP n m ds ∧
    Below w.heap.size w wr ∧ Blk wr w.heap.size #[.int .u64 (l0 m), .int .u64 (l1 m), .int .u64 (l2 m), .int .u64 (l3 m)]

theorem rfmt_len {n m : Int} {ds : List Int} (hn : W256 n) (h0 : 0 ≤ m) (hne : ds = [] ∨ m ≠ 0) (h : m.toNat * 10 ^ ds.length ≤ n.toNat) : ds.length ≤ 78 := by
  rcases hne with rfl | hne
  · simp
  · apply Classical.byContradiction
    intro hc
    have h1 : 10 ^ 79 ≤ 10 ^ ds.length := Nat.pow_le_pow_right (by omega) (by omega)
    have h2 : 1 * 10 ^ ds.length ≤ m.toNat * 10 ^ ds.length := Nat.mul_le_mul_right _ (by omega)
    have h3 := hn.2
    have e : (10 : Nat) ^ 79 = 10000000000000000000000000000000000000000000000000000000000000000000000000000000 := by decide
    omega

theorem rfmt_mul {n m : Int} {ds : List Int} {x : Int} (h0 : 0 ≤ m) (h : m.toNat * 10 ^ ds.length ≤ n.toNat) : (m / 10).toNat * 10 ^ (x :: ds).length ≤ n.toNat := by
  have e : (m / 10).toNat = m.toNat / 10 := by omega
  rw [e, List.length_cons, Nat.pow_succ, Nat.mul_comm (10 ^ ds.length), ← Nat.mul_assoc]
  exact Nat.le_trans (Nat.mul_le_mul_right _ (Nat.div_mul_le_self _ _)) h

theorem nums_cons (x : Int) (ds : List Int) : strOfNums [x] ++ strOfNums ds = strOfNums (x :: ds) := by
  apply ByteArray.ext
  simp [strOfNums, ByteArray.data_append]

set_option maxRecDepth 100000 in
set_option maxHeartbeats 2000000 in
theorem rfmt_any (n : Int) (hn : W256 n) (w : World) :
    Calls Try.prog 14 #[.agg #[.int .u64 (l0 (n)), .int .u64 (l1 (n)), .int .u64 (l2 (n)), .int .u64 (l3 (n))]] w fun e w' => e = .returned (.string (strOfNums (decL n.toNat))) ∧ Below w.heap.size w w' := by
  go_enter Try.func14, Try.ntmps14
  go_wp2_with fail
  go_loopg [3] (n.toNat + 1) (fun g s wr => RFmtI w n g s wr)
  case atStart =>
    refine ⟨n, [], rfl, hn, by omega, .inl rfl, by simp, .inl ⟨rfl, rfl⟩, ?_, ?_⟩
    · exact (Below.refl _ _).alloc (Nat.le_refl _) _
    · exact Blk.new rfl
  case round =>
    obtain ⟨m, ds, rfl, hm, hg, hne, hmul, hP, hb, bA⟩ := hrel
    have hL := rfmt_len hn hm.1 hne hmul
    have HM := Lib.hid (rfmt_mul (x := 48 + m % 10) hm.1 hmul)
    have HP := Lib.hid (FmtP.step hP hm.1 hne)
    have HG := Lib.hid hg
    clear hne hmul hP hg
    obtain ⟨a0, a1, a2, a3, a4⟩ := bA.four
    have hq1 : divQ m 10 = m / 10 := rfl
    have hq2 : divR m 10 = m % 10 := rfl
    have hq3 : divE 10 = 0 := rfl
    have D := rdiv_any m 10 hm (by omega) (by omega)
    rw [hq1, hq2, hq3] at D
    have D := Lib.hid D
    clear hq1 hq2 hq3
    have hmod0 : 0 ≤ m % 10 := Int.emod_nonneg _ (by omega)
    have hmod1 : m % 10 < 10 := Int.emod_lt_of_pos _ (by omega)
    have hQ : W256 (m / 10) := by have := hm.1; have := hm.2; unfold W256; omega
    have heq := eq_wide_zero hQ
    obtain ⟨q, HQ⟩ : ∃ q, Hid (q = m / 10) := ⟨_, rfl⟩
    obtain ⟨r, HR⟩ : ∃ r, Hid (r = m % 10) := ⟨_, rfl⟩
    rw [← HQ.out] at D heq HM HP
    rw [← HR.out] at D hmod0 hmod1 HM HP
    obtain ⟨x, HX⟩ : ∃ x, Hid (x = 48 + r) := ⟨_, rfl⟩
    rw [← HX.out] at HM HP
    have hx : 48 + r = x := HX.out.symm
    have hx0 : 0 ≤ x := by omega
    have hx1 : x ≤ 57 := by omega
    have hcat : ∀ u : World, (Op.stringOp .add (strOfNums [x]) (strOfNums ds)).run Try.prog u = .ok (.string (strOfNums (x :: ds))) u := fun u => by
      rw [run_string_add_sum u _ _ (by rw [strOfNums_size, strOfNums_size]; simp; omega), nums_cons]
    have hconv : ∀ (u : World) (b : Nat) (t : TypeId), b = u.heap.size → (convert 44 9 (.slice (some ⟨b, 0, none⟩) 1 1)).run Try.prog (u.alloc (.cells #[.int .u8 x] t)) = .ok (.string (strOfNums [x])) (u.alloc (.cells #[.int .u8 x] t)) := fun u b t hb => by
      subst hb
      exact run_convert_bytes_arg _ 44 5 (by kernel_rfl) (by kernel_rfl) u.heap.size 0 1 1 [x] rfl (fun i hi => by
        obtain rfl : i = 0 := by omega
        rw [(Blk.new (w := u) (t := t) (cs := #[.int .u8 x]) rfl).cell]; rfl) 9 (by kernel_rfl)
    by_cases h10 : q = 0
    · have hdec : decide (q = 0) = true := decide_eq_true h10
      have H10 := Lib.hid h10; clear h10
      go_wp2_with (go_at_call 38; refine (D.out _).mono ?_; rintro e w1 ⟨rfl, hb1⟩; obtain ⟨a0, a1, a2, a3, a4⟩ := (bA.call hb1).four; have hl1 := (bA.call hb1).lt)
      go_ret
      have hds : decL n.toNat = x :: ds := by
        rcases HP.out with ⟨h, _⟩ | ⟨_, h⟩
        · cases h
        · rw [if_pos H10.out] at h; exact h
      refine ⟨by rw [hds]; rfl, ?_⟩
      have hb2 := bel0 hb hb1
      exact ((below_store4 hb2 (Nat.le_refl _)).alloc (by rw [size_store4]; exact hb2.size) _).alloc (by simp [World.size_alloc]; have := hb2.size; omega) _
    · have hdec : decide (q = 0) = false := decide_eq_false h10
      have H10 := Lib.hid h10; clear h10
      go_wp2_with (go_at_call 38; refine (D.out _).mono ?_; rintro e w1 ⟨rfl, hb1⟩; obtain ⟨a0, a1, a2, a3, a4⟩ := (bA.call hb1).four; have hl1 := (bA.call hb1).lt)
      go_roundg m.toNat
      case measure => exact HG.out
      case rel =>
        have hb2 := bel0 hb hb1
        have hq := HQ.out
        have hqne := H10.out
        refine ⟨q, x :: ds, rfl, by rw [hq]; exact hQ, by have := hm.1; omega, .inr hqne, HM.out, HP.out, ?_, ?_⟩
        · exact ((below_store4 hb2 (Nat.le_refl _)).alloc (by rw [size_store4]; exact hb2.size) _).alloc (by simp [World.size_alloc]; have := hb2.size; omega) _
        · exact (((bA.call hb1).store4).alloc _).alloc _

end Go.Proofs.Ytgleleccmpncnaa
