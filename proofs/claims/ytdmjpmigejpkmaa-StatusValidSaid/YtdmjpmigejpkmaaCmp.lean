/- Contracts of bytes.Compare (at 32 bytes), roots.Compare and roots.IsZero. -/
import Derived.Test.YtdmjpmigejpkmaaRoot0
import Derived.Test.YtdmjpmigejpkmaaRow
import Derived.Lib.BytesEntry
set_option linter.unusedVariables false
namespace Go.Proofs.Ytdmjpmigejpkmaa
open Go.RowKit

theorem byte_lt {x y : Int} (hx : 0 ≤ x ∧ x ≤ 255) (hy : 0 ≤ y ∧ y ≤ 255) : UInt8.ofNat x.toNat < UInt8.ofNat y.toNat ↔ x < y := by
  rw [UInt8.lt_iff_toNat_lt]
  simp
  omega

theorem compare_bytes : ∀ (xs ys : List Int), xs.length = ys.length → (∀ x ∈ xs, 0 ≤ x ∧ x ≤ 255) → (∀ x ∈ ys, 0 ≤ x ∧ x ≤ 255) → Lib.compareBytes (Lib.bytesOf xs) (Lib.bytesOf ys) = cmpB xs ys
  | [], [], _, _, _ => rfl
  | [], _ :: _, h, _, _ => by simp at h
  | _ :: _, [], h, _, _ => by simp at h
  | x :: xs, y :: ys, h, hx, hy => by
    have ih := compare_bytes xs ys (by simpa using h) (fun z hz => hx z (by simp [hz])) (fun z hz => hy z (by simp [hz]))
    have a := hx x (by simp)
    have b := hy y (by simp)
    have e1 := byte_lt a b
    have e2 := byte_lt b a
    simp only [Lib.bytesOf, List.map_cons, Lib.compareBytes, cmpB] at *
    simp only [e1, e2, ih]

theorem Blk.bytesX {w : World} {b : Nat} {xs : List Int} (h : Blk w b (bytesV xs)) : ∀ j x, xs[j]? = some x → w.cell? ((⟨b, 0, none⟩ : Addr).add j) = some (.int .u8 x) := fun j x hj => by
  rw [Addr.add_mid, Nat.zero_add, h.cell]
  simp [bytesV, hj]

theorem run_compare {P : Program} (w : World) (b1 b2 c1 c2 : Nat) (xs ys : List Int) (hx : IsBytes 32 xs) (hy : IsBytes 32 ys) (h1 : Blk w b1 (bytesV xs)) (h2 : Blk w b2 (bytesV ys)) :
    (Extern.BytealgCompare.compare #[.slice (some ⟨b1, 0, none⟩) 32 c1, .slice (some ⟨b2, 0, none⟩) 32 c2]).run P w = .ok (.int .i64 (cmpB xs ys)) w := by
  have l1 := Lib.run_loadBytesX (P := P) w xs ⟨b1, 0, none⟩ .empty h1.bytesX
  have l2 := Lib.run_loadBytesX (P := P) w ys ⟨b2, 0, none⟩ .empty h2.bytesX
  rw [hx.1] at l1
  rw [hy.1] at l2
  have hc := compare_bytes xs ys (by rw [hx.1, hy.1]) (fun x h => wf_u8 (hx.2 x h)) (fun x h => wf_u8 (hy.2 x h))
  have e1 (zs : List Int) : (⟨ByteArray.empty.data ++ (Lib.bytesOf zs).toArray⟩ : ByteArray).data.toList = Lib.bytesOf zs := by
    show ((#[] : Array UInt8) ++ (Lib.bytesOf zs).toArray).toList = Lib.bytesOf zs
    simp
  change Sem.run P (do
    let a ← Extern.Bytes.bytesOf (.slice (some ⟨b1, 0, none⟩) 32 c1)
    let b ← Extern.Bytes.bytesOf (.slice (some ⟨b2, 0, none⟩) 32 c2)
    pure (goInt (Extern.BytealgCompare.cmp a b))) w = _
  simp only [Extern.Bytes.bytesOf, Sem.run_bind, l1, l2, Result.andThen_ok, Sem.run_pure, Lib.cmp_eq]
  rw [← hc, e1, e1]
  rfl

/-- Equality of two roots, as the model has it. -/
theorem eq_root {xs ys : List Int} (hx : IsBytes 32 xs) (hy : IsBytes 32 ys) (w : World) : Sem.run Try.prog (Op.equalIn 10000 31 (.agg (bytesV xs)) (.agg (bytesV ys))) w = .ok (decide (xs = ys)) w :=
  eq_ints (P := Try.prog) (t := 31) (e := 5) (n := 32) (k := .u8) (by kernel_rfl) (by kernel_rfl) (by kernel_rfl) (by kernel_rfl) (by kernel_rfl) xs ys hx.1 hy.1 hx.2 hy.2 w

def zero32' : List Int := List.replicate 32 0

theorem zero32'_is : IsBytes 32 zero32' := ⟨by decide, by decide⟩

theorem cmpB_anti : ∀ (xs ys : List Int), xs.length = ys.length → cmpB ys xs = - cmpB xs ys
  | [], [], _ => rfl
  | [], _ :: _, h => by simp at h
  | _ :: _, [], h => by simp at h
  | x :: xs, y :: ys, h => by
    have ih := cmpB_anti xs ys (by simpa using h)
    simp only [cmpB]
    rcases Int.lt_trichotomy x y with h | h | h
    · rw [if_neg (by omega), if_pos h, if_pos h]; rfl
    · rw [if_neg (by omega), if_neg (by omega), if_neg (by omega), if_neg (by omega), ih]
    · rw [if_pos h, if_neg (by omega), if_pos h]

theorem cmpB_zero : ∀ (xs ys : List Int), xs.length = ys.length → (cmpB xs ys = 0 ↔ xs = ys)
  | [], [], _ => by simp [cmpB]
  | [], _ :: _, h => by simp at h
  | _ :: _, [], h => by simp at h
  | x :: xs, y :: ys, h => by
    have ih := cmpB_zero xs ys (by simpa using h)
    simp only [cmpB, List.cons.injEq]
    rcases Int.lt_trichotomy x y with h | h | h
    · rw [if_pos h]; omega
    · rw [if_neg (by omega), if_neg (by omega), ih]; simp [h]
    · rw [if_neg (by omega), if_pos h]; omega

theorem cmpB_rng : ∀ (xs ys : List Int), -1 ≤ cmpB xs ys ∧ cmpB xs ys ≤ 1
  | [], _ => by simp [cmpB]
  | _ :: _, [] => by simp [cmpB]
  | x :: xs, y :: ys => by
    have ih := cmpB_rng xs ys
    simp only [cmpB]
    split
    · omega
    · split
      · omega
      · exact ih

theorem cmpB_trans : ∀ (xs ys zs : List Int), xs.length = ys.length → ys.length = zs.length → cmpB xs ys ≤ 0 → cmpB ys zs ≤ 0 → cmpB xs zs ≤ 0
  | [], _, _, _, _, _, _ => by simp [cmpB]
  | _ :: _, [], _, h, _, _, _ => by simp at h
  | _ :: _, _ :: _, [], _, h, _, _ => by simp at h
  | x :: xs, y :: ys, z :: zs, h1, h2, h3, h4 => by
    have ih := cmpB_trans xs ys zs (by simpa using h1) (by simpa using h2)
    simp only [cmpB] at *
    rcases Int.lt_trichotomy x y with a | a | a
    · rcases Int.lt_trichotomy y z with b | b | b
      · rw [if_pos (by omega)]; omega
      · rw [if_pos (by omega)]; omega
      · rw [if_neg (by omega), if_pos b] at h4; omega
    · rcases Int.lt_trichotomy y z with b | b | b
      · rw [if_pos (by omega)]; omega
      · rw [if_neg (by omega), if_neg (by omega)] at h3 h4 ⊢; exact ih h3 h4
      · rw [if_neg (by omega), if_pos b] at h4; omega
    · rw [if_neg (by omega), if_pos a] at h3; omega
end Go.Proofs.Ytdmjpmigejpkmaa
