/- The Append functions of codec. -/
import Derived.Test.YtmnojgdfbhdkhaaCdB
import Derived.Test.YtmnojgdfbhdkhaaToB
import Derived.Outline
set_option linter.unusedVariables false
namespace Go.Proofs.Ytmnojgdfbhdkhaa
open Go.RowKit

/-- What the Append functions promise. -/
def App (w : World) (ys : List Int) (e : Ending) (w' : World) : Prop := ∃ v', e = .returned v' ∧ Byt w' v' ys ∧ Below w.heap.size w w'

theorem parts2 {w : World} {y1 y2 : Value} {d1 d2 : List Int} {t : TypeId} {n : Nat} (hn : n = w.heap.size) (h1 : Byt w y1 d1) (h2 : Byt w y2 d2) : Parts (w.alloc (.cells #[y1, y2] t)) n 2 #[y1, y2] [d1, d2] := by
  subst hn
  have hb : Below w.heap.size w (w.alloc (.cells #[y1, y2] t)) := (Below.refl _ w).alloc (Nat.le_refl _) _
  refine ⟨Blk.new rfl, rfl, rfl, fun k hk => ?_⟩
  match k, hk with
  | 0, _ => exact h1.below hb
  | 1, _ => exact h2.below hb

theorem parts3 {w : World} {y1 y2 y3 : Value} {d1 d2 d3 : List Int} {t : TypeId} {n : Nat} (hn : n = w.heap.size) (h1 : Byt w y1 d1) (h2 : Byt w y2 d2) (h3 : Byt w y3 d3) : Parts (w.alloc (.cells #[y1, y2, y3] t)) n 3 #[y1, y2, y3] [d1, d2, d3] := by
  subst hn
  have hb : Below w.heap.size w (w.alloc (.cells #[y1, y2, y3] t)) := (Below.refl _ w).alloc (Nat.le_refl _) _
  refine ⟨Blk.new rfl, rfl, rfl, fun k hk => ?_⟩
  match k, hk with
  | 0, _ => exact h1.below hb
  | 1, _ => exact h2.below hb
  | 2, _ => exact h3.below hb

theorem Byt.shape {w : World} {v : Value} {xs : List Int} (h : Byt w v xs) : ∃ a l c, v = .slice a l c := by
  obtain ⟨a, len, cap, e, _⟩ := h.ints
  exact ⟨a, len, cap, e⟩

theorem Own.shape {w : World} {B : Nat} {v : Value} {xs : List Int} (h : Own w B v xs) : ∃ a l c, v = .slice a l c := by
  rcases h.2 with ⟨e, _⟩ | ⟨g, cap, cur, e, _⟩
  · exact ⟨_, _, _, e⟩
  · exact ⟨_, _, _, e⟩

theorem Byt.grow {w w' : World} {v : Value} {xs : List Int} {N : Nat} (h : Byt w v xs) (hb : Below N w w') (hlt : ∀ a l c, v = .slice (some a) l c → 0 < l → a.block < N) : Byt w' v xs := by
  refine ⟨?_, h.rng, h.fits⟩
  obtain ⟨a, len, cap, rfl, hl, hm, hr⟩ := h.ints
  refine ⟨a, len, cap, rfl, hl, hm, ?_⟩
  rcases hr with h0 | ⟨b, off, rfl, hlt', hc⟩
  · exact .inl h0
  · by_cases h0 : len = 0
    · exact .inl h0
    · have hbN := hlt _ _ _ rfl (by omega)
      have hlt2 : b < w'.heap.size := Nat.lt_of_lt_of_le hlt' hb.size
      refine .inr ⟨b, off, rfl, hlt2, fun i hi => ?_⟩
      rw [hb.cell (p := ⟨b, off + i, none⟩) hbN]
      exact hc i hi

theorem Byt.alloc {w : World} {v : Value} {xs : List Int} (h : Byt w v xs) (o : Obj) : Byt (w.alloc o) v xs := h.below ((Below.refl _ w).alloc (Nat.le_refl _) _)

theorem uencI_one {n : Int} (h0 : 0 ≤ n) (h : n < 128) : uenc n.toNat = [n] := by rw [uenc_one (by omega), Int.toNat_of_nonneg h0]
theorem uencI_more {n : Int} (h0 : 0 ≤ n) (h : 128 ≤ n) : uenc n.toNat = (n % 128 + 128) :: uenc (n / 128).toNat := by
  rw [uenc_more (by omega)]
  congr 1
  · omega
  · congr 1; omega
theorem or128I {n : Int} (h0 : 0 ≤ n) : bits .or .u8 (n % 256) 128 = n % 128 + 128 := by
  have := or128 (n % 256).toNat (by omega)
  rw [Int.toNat_of_nonneg (by omega)] at this
  rw [this]
  omega
theorem and127I {n : Int} (h0 : 0 ≤ n) (h : n ≤ 18446744073709551615) : bits .and .u64 n 127 = n % 128 := by
  have := and127 n.toNat (by omega)
  rw [Int.toNat_of_nonneg h0] at this
  rw [this]
  omega
theorem wrap8I {n : Int} : IntKind.u8.wrap n = n % 256 := IntKind.wrap_u8 n

/-- What stands at the loop's head of AppendUint. -/
def UI (w : World) (n : Int) (g m : Value) (wr : World) : Prop :=
  ∃ (gs : List Int) (x : Int), 0 ≤ x ∧ x ≤ 18446744073709551615 ∧ m = .int .u64 x ∧ gs ++ uenc x.toNat = uenc n.toNat ∧ Own wr w.heap.size g gs ∧ Below w.heap.size w wr

theorem uenc_bytes {n x : Int} {gs : List Int} (h : gs ++ uenc x.toNat = uenc n.toNat) (hn0 : 0 ≤ n) (hn : n ≤ 18446744073709551615) : gs.length ≤ 10 ∧ ∀ y ∈ gs, 0 ≤ y ∧ y ≤ 255 := by
  have h1 := uenc_len10 (n := n.toNat) (by omega)
  rw [← h, List.length_append] at h1
  exact ⟨by omega, fun y hy => uenc_byte n.toNat y (by rw [← h]; simp [hy])⟩

theorem UI.next {w wr w2 : World} {n x : Int} {g v2 : Value} {gs : List Int} {t : TypeId} (hx0 : 128 ≤ x) (hx : x ≤ 18446744073709551615) (hg : gs ++ uenc x.toNat = uenc n.toNat) (ho : Own wr w.heap.size g gs) (hb : Below w.heap.size w wr)
    (ho2 : Own w2 w.heap.size v2 (gs ++ [x % 128 + 128])) (hg2 : (wr.alloc (.cells #[.int .u8 (x % 128 + 128)] t)).grownBy w2 g.ownBlock) : UI w n v2 (.int .u64 (x / 128)) w2 := by
  refine ⟨_, x / 128, by omega, by omega, rfl, ?_, ho2, Below.own (hb.alloc hb.size _) hg2 (ho.alloc _) (Nat.le_refl _) (by have := hb.size; simp; omega)⟩
  rw [uencI_more (by omega) hx0] at hg
  rw [List.append_assoc]
  exact hg

set_option maxRecDepth 100000 in
set_option maxHeartbeats 4000000 in
theorem auint_any (v : Value) (bs : List Int) (n : Int) (w : World) (h : Byt w v bs) (h0 : 0 ≤ n) (hn : n ≤ 18446744073709551615) (hb : bs.length ≤ 100000000000) :
    Calls Try.prog 26 #[v, .int .u64 n] w (App w (bs ++ uenc n.toNat)) := by
  obtain ⟨va, vl, vc, rfl⟩ := h.shape
  have H := Lib.hid h; clear h
  have HUB := Lib.hid (fun (gs : List Int) (x : Int) (h : gs ++ uenc x.toNat = uenc n.toNat) => uenc_bytes h h0 hn)
  go_enter Try.func26, Try.ntmps26
  go_wp2_with (at_make; refine wpList_mk0 rfl _ _ rfl w.heap.size _ _ 10 rfl rfl (by omega) (Nat.le_refl _) ?_; intro v1 w1 ho1 hg1)
  go_loopw [5, 1] (fun g m wr => UI w n g m wr) (fun _ m _ => (intOf m).toNat)
  case atStart => exact ⟨[], n, h0, hn, rfl, rfl, ho1, (Below.refl _ _).grown hg1 (Nat.le_refl _) (fun k hk => by cases hk)⟩
  case round =>
    obtain ⟨gs, x, hx0, hx, rfl, hg, ho, hbl⟩ := hrel
    have HG := Lib.hid hg
    have HGB := Lib.hid (HUB.out gs x hg).2
    have hgl := (HUB.out gs x hg).1
    clear hg
    have HO := Lib.hid ho; clear ho
    have e8 := @wrap8I x
    by_cases hlt : 128 ≤ x
    · have e1 := or128I hx0
      go_wp2_with ((with_reducible refine at_app _ _ ?_); refine wpList_app _ _ rfl rfl w.heap.size _ _ rfl (HO.out.alloc _) _ _ rfl (byt_one (by omega) _) (by simp; omega) (by have := hbl.size; simp; omega) ?_; intro v2 w2 ho2 hg2)
      have HN := Lib.hid (UI.next hlt hx HG.out HO.out hbl ho2 hg2)
      clear ho2 hg2
      go_roundw
      case rel => exact HN.out
      case measure => simp [intOf]; omega
    · have hx1 : x < 128 := by omega
      have e9 : x % 256 = x := by omega
      rw [e9] at e8
      clear e9
      have HE : Hid (bs ++ (gs ++ [x]) = bs ++ uenc n.toNat) := by show _ = _; rw [← HG.out, uencI_one hx0 hx1]
      have hsz := hbl.size
      have HR2 : Hid (∀ y ∈ gs ++ [x], 0 ≤ y ∧ y ≤ 255) := by
        intro y hy
        rcases List.mem_append.1 hy with hy | hy
        · exact HGB.out y hy
        · simp at hy; omega
      have HFL : Hid ([bs, gs ++ [x]].flatten.length ≤ 1000000000000) := by show _ ≤ _; simp; omega
      have HML : Hid ((gs ++ [x]).length ≤ maxLen) := by show _ ≤ _; unfold maxLen; simp; omega
      go_wp2_with (first
        | ((with_reducible refine at_app _ _ ?_); refine wpList_app _ _ rfl rfl w.heap.size _ _ rfl (HO.out.alloc _) _ _ rfl (byt_one (by omega) _) (by simp; omega) (by have := hbl.size; simp; omega) ?_; intro v2 w2 ho2 hg2; obtain ⟨a2, l2, c2, rfl⟩ := ho2.shape; have HO2 := Lib.hid ho2; clear ho2; have HB2 := Lib.hid (Below.own (hbl.alloc hbl.size _) hg2 (HO.out.alloc _) (Nat.le_refl _) (by simp; omega)); clear hg2)
        | (go_at_call 46; refine (concat_any _ 2 #[_, _] [bs, gs ++ [x]] _ (parts2 rfl (H.out.below HB2.out) (HO2.out.byt HML.out HR2.out)) (by omega) HFL.out).mono ?_; rintro e w3 ⟨v3, rfl, hb3, hbl3⟩; have HB3 := Lib.hid hb3; clear hb3; have HBL3 := Lib.hid hbl3; clear hbl3))
      go_ret
      refine ⟨v3, rfl, ?_, ?_⟩
      · rw [← HE.out]; simpa using HB3.out
      · exact (HB2.out.alloc HB2.out.size _).trans (HBL3.out.mono (by have := HB2.out.size; simp; omega))

end Go.Proofs.Ytmnojgdfbhdkhaa
