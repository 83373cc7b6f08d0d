/- slices.Clone of numbers as a row of the call's own; weights' honest. -/
import Derived.Test.YtdlbobpglgjhiaaOwM
import Derived.Test.YtdlbobpglgjhiaaEvA
import Derived.Test.YtdlbobpglgjhiaaShelf
import Derived.Test.YtdlbobpglgjhiaaPas
import Derived.Test.YtdlbobpglgjhiaaCl
set_option linter.unusedVariables false

set_option linter.unusedSimpArgs false
namespace Go.Proofs.Ytdlbobpglgjhiaa
open Go.RowKit

set_option maxRecDepth 100000

theorem oneNw (l : List Int) : ∀ u ∈ l.map (Value.int .u64), u.oneCell' = true := by
  intro u hu
  obtain ⟨x, _, rfl⟩ := List.mem_map.1 hu
  rfl

set_option maxHeartbeats 1000000 in
theorem cloneK_zero (a : Addr) (c : Nat) (w : World) :
    Calls Try.prog 50 #[.slice (some a) 0 c] w fun e w' => ∃ v', e = .returned v' ∧ OwnK .u64 53 w' w.heap.size v' [] ∧ Below w.heap.size w w' := by
  obtain ⟨i0, hi, hz0, hz1, hz2⟩ := info_parts info_u64c
  have q22 : ∀ (w : World) (a : Option Addr) (n c n' c' : Nat), (binOp .eql 27 (.slice a n c) (.slice none n' c')).run Try.prog w = .ok (.bool a.isNone) w := fun w a n c n' c' => Lib.run_eql_slice_nil w _ _ a n c n' c' Try.underlying27
  go_enter Try.func50, Try.ntmps50
  go_wp2_with (at_builtin; refine wpList_append_own _ rfl _ _ 27 rfl w.heap.size 53 i0 (.int .u64 0) 1 8 Try.underlying27 hi hz0 hz1 hz2 rfl (by decide) _ _ _ rfl (World.ownsRow_made w #[] 0 (Nat.le_refl _) (Nat.zero_le _) rfl) a 0 c [] rfl rfl (by intro j u hj; simp at hj) (by intro u hu; cases hu) (by unfold maxLen; omega) (by omega) (by simp) ?_)
  intro v' w1 hown hgrow hnil
  go_wp2
  go_ret
  exact ⟨_, rfl, (by unfold OwnK; simpa using hown), ((Below.refl _ w).alloc (Nat.le_refl _) _).grown hgrow (by simp) (by intro k hk; simp [Value.ownBlock] at hk; omega)⟩

/-- slices.Clone of numbers: a row of its own. -/
theorem cloneK (v : Value) (l : List Int) (w : World) (h : NumsV w v l) (hl : l.length ≤ 1000000000) :
    Calls Try.prog 50 #[v] w fun e w' => ∃ v', e = .returned v' ∧ OwnK .u64 53 w' w.heap.size v' l ∧ Below w.heap.size w w' := by
  obtain ⟨⟨a, n, k, rfl, hn, hm, hr⟩, hg⟩ := h
  cases a with
  | none =>
    rcases hr with rfl | ⟨b, off, e, _⟩
    · obtain rfl := List.eq_nil_of_length_eq_zero hn
      refine (Try.slices_Clone_nil 0 k w).mono ?_
      rintro e w' ⟨rfl, rfl⟩
      exact ⟨_, rfl, OwnK.nil _ _ _ _, Below.refl _ _⟩
    · cases e
  | some a =>
    by_cases h0 : n = 0
    · subst h0
      obtain rfl := List.eq_nil_of_length_eq_zero hn
      exact cloneK_zero a k w
    · rcases hr with h1 | ⟨b, off, e, hb, hc⟩
      · exact absurd h1 h0
      · cases e
        obtain ⟨i0, hi, hz0, hz1, hz2⟩ := info_parts info_u64c
        refine (Try.slices_Clone i0 (.int .u64 0) 1 8 hi hz0 hz1 hz2 rfl (by decide) Try.sizeOf53 b off n k (l.map (Value.int .u64)) w (by simp [hn]) hm (by omega) (fun j u hj => ?_) (oneNw l)).mono ?_
        · have hjl : j < l.length := by simpa using (List.getElem?_eq_some_iff.1 hj).1
          rw [hc j (by omega)]
          rw [List.getElem?_map, List.getElem?_eq_getElem hjl] at hj
          simp only [Option.map_some, Option.some.injEq] at hj
          rw [← hj]; simp [List.getD, List.getElem?_eq_getElem hjl]
        · rintro e w' ⟨v', rfl, hown, _, hbl⟩
          exact ⟨v', rfl, (by unfold OwnK; rw [hn]; exact hown), hbl⟩
/-! ### honest -/

/-- The balances; those of the first j that es names are 0. -/
def honJ (es bs : List Int) : Nat → List Int
  | 0 => bs
  | j + 1 => if 0 ≤ es.getD j 0 ∧ es.getD j 0 < bs.length then (honJ es bs j).set (es.getD j 0).toNat 0 else honJ es bs j

def honL (es bs : List Int) : List Int := honJ es bs es.length

theorem honJ_yes {es bs : List Int} {j : Nat} (h : 0 ≤ es.getD j 0 ∧ es.getD j 0 < bs.length) : honJ es bs (j + 1) = (honJ es bs j).set (es.getD j 0).toNat 0 := by
  show (if _ then _ else _) = _
  rw [if_pos h]

theorem honJ_no {es bs : List Int} {j : Nat} (h : ¬ (0 ≤ es.getD j 0 ∧ es.getD j 0 < bs.length)) : honJ es bs (j + 1) = honJ es bs j := by
  show (if _ then _ else _) = _
  rw [if_neg h]

theorem honJ_len (es bs : List Int) : ∀ j, (honJ es bs j).length = bs.length
  | 0 => rfl
  | j + 1 => by
    by_cases h : 0 ≤ es.getD j 0 ∧ es.getD j 0 < bs.length
    · rw [honJ_yes h, List.length_set, honJ_len es bs j]
    · rw [honJ_no h, honJ_len es bs j]

theorem honL_len (es bs : List Int) : (honL es bs).length = bs.length := honJ_len es bs _

theorem getD_set_at {l : List Int} {i k : Nat} {x : Int} (hi : i < l.length) : (l.set i x).getD k 0 = if k = i then x else l.getD k 0 := by
  simp only [List.getD_eq_getElem?_getD, List.getElem?_set]
  by_cases h : k = i
  · subst h; simp [hi]
  · rw [if_neg (Ne.symm h), if_neg h]

theorem honJ_get (es bs : List Int) (k : Nat) (hk : k < bs.length) : ∀ j, j ≤ es.length → (honJ es bs j).getD k 0 = if (k : Int) ∈ es.take j then 0 else bs.getD k 0
  | 0, _ => by simp [honJ]
  | j + 1, hj => by
    have ih := honJ_get es bs k hk j (by omega)
    have hm : ((k : Int) ∈ es.take (j + 1)) ↔ ((k : Int) ∈ es.take j ∨ (k : Int) = es.getD j 0) := by
      rw [List.take_add_one, List.mem_append]
      simp [List.getD, List.getElem?_eq_getElem (show j < es.length from hj)]
    by_cases h : 0 ≤ es.getD j 0 ∧ es.getD j 0 < bs.length
    · rw [honJ_yes h, getD_set_at (by rw [honJ_len]; omega), ih]
      by_cases e : (k : Int) = es.getD j 0
      · rw [if_pos (by omega), if_pos (hm.2 (.inr e))]
      · rw [if_neg (by omega)]
        by_cases h2 : (k : Int) ∈ es.take j
        · rw [if_pos h2, if_pos (hm.2 (.inl h2))]
        · rw [if_neg h2, if_neg (fun h3 => (hm.1 h3).elim h2 e)]
    · rw [honJ_no h, ih]
      have e : ¬ (k : Int) = es.getD j 0 := fun e => h ⟨by omega, by omega⟩
      by_cases h2 : (k : Int) ∈ es.take j
      · rw [if_pos h2, if_pos (hm.2 (.inl h2))]
      · rw [if_neg h2, if_neg (fun h3 => (hm.1 h3).elim h2 e)]

theorem honL_get (es bs : List Int) {k : Nat} (hk : k < bs.length) : (honL es bs).getD k 0 = if (k : Int) ∈ es then 0 else bs.getD k 0 := by
  unfold honL
  rw [honJ_get es bs k hk _ (Nat.le_refl _), List.take_length]

theorem honL_rng {es bs : List Int} (h : ∀ x ∈ bs, 0 ≤ x ∧ x ≤ 18446744073709551615) : ∀ x ∈ honL es bs, 0 ≤ x ∧ x ≤ 18446744073709551615 := by
  intro x hx
  obtain ⟨k, hk, rfl⟩ := List.mem_iff_getElem.1 hx
  have hkb : k < bs.length := by rw [honL_len] at hk; exact hk
  have e : (honL es bs)[k] = (honL es bs).getD k 0 := by simp [List.getD, List.getElem?_eq_getElem hk]
  rw [e, honL_get es bs hkb]
  split
  · omega
  · rw [List.getD, List.getElem?_eq_getElem hkb]; exact h _ (List.getElem_mem hkb)

/-- A row of numbers that may be written, if there is one. -/
structure HoR (B : Nat) (v : Value) (l : List Int) (u : World) : Prop where
  lt : B ≤ u.heap.size
  mx : l.length ≤ 1000000000
  row : (l = [] ∧ ∃ a c, v = .slice a 0 c) ∨ ∃ g c, v = .slice (some ⟨g, 0, none⟩) l.length c ∧ B ≤ g ∧ RowB u g (numL .u64 l)

theorem HoR.of {u : World} {B : Nat} {v : Value} {l : List Int} (h : OwnK .u64 53 u B v l) (hB : B ≤ u.heap.size) (hl : l.length ≤ 1000000000) : HoR B v l u := by
  refine ⟨hB, hl, ?_⟩
  rcases h.2 with ⟨rfl, h0⟩ | ⟨g, cap, cur, rfl, _⟩
  · have h1 : l = [] := by
      have := h0
      cases l with
      | nil => rfl
      | cons x r => simp at this
    subst h1
    exact .inl ⟨rfl, _, _, rfl⟩
  · obtain ⟨h1, h2, h3⟩ := OwnK.rowB h
    exact .inr ⟨g, cap, rfl, h2, h1⟩

theorem HoR.shape {u : World} {B : Nat} {v : Value} {l : List Int} (h : HoR B v l u) : ∃ a c, v = .slice a l.length c := by
  rcases h.row with ⟨rfl, a, c, rfl⟩ | ⟨g, c, rfl, _⟩
  · exact ⟨a, c, rfl⟩
  · exact ⟨_, c, rfl⟩

theorem HoR.nums {u : World} {B : Nat} {v : Value} {l : List Int} (h : HoR B v l u) (hr : ∀ x ∈ l, 0 ≤ x ∧ x ≤ 18446744073709551615) : NumsV u v l := by
  have hm := h.mx
  rcases h.row with ⟨rfl, a, c, rfl⟩ | ⟨g, c, rfl, _, h2⟩
  · exact ⟨⟨_, _, _, rfl, rfl, Nat.zero_le _, .inl rfl⟩, hr⟩
  · exact ⟨h2.ints rfl (by unfold maxLen; omega), hr⟩

theorem HoR.call {u u' : World} {B : Nat} {v : Value} {l : List Int} (h : HoR B v l u) (hb : Below u.heap.size u u') : HoR B v l u' := by
  refine ⟨Nat.le_trans h.lt hb.size, h.mx, ?_⟩
  rcases h.row with h1 | ⟨g, c, e, h2, h3⟩
  · exact .inl h1
  · exact .inr ⟨g, c, e, h2, h3.call hb⟩

set_option maxHeartbeats 8000000 in
/-- honest: the balances with 0 for the equivocating validators, in a row of the call's own. -/
theorem honest_any (lv ev bv : Value) (es bs : List Int) (w : World) (hE : IntsV w ev es) (hB : NumsV w bv bs) (hl : bs.length ≤ 1000000) :
    Calls Try.prog 45 #[.agg #[lv, ev], bv] w fun e w' => ∃ v', e = .returned v' ∧ HoR (w.heap.size + 1) v' (honL es bs) w' ∧ Below w.heap.size w w' := by
  obtain ⟨ea, el, ec, rfl⟩ := ints_shape' hE.1
  have HE := Lib.hid hE
  have HLE := HE.out.len
  have hel := HLE.2
  unfold maxLen at hel
  have HEL : Hid (es.length = el) := HLE.1
  clear HLE
  have HCL := Lib.hid (fun u (hu : Below w.heap.size w u) => cloneK bv bs u ⟨hB.1.below hu, hB.2⟩ (by omega))
  have HJL := Lib.hid (honJ_len es bs)
  have S0 := Lib.hid (pas_new w #[lv, .slice ea el ec] 44)
  have hiu : (Try.prog.info? 53).map (·.size) = some 1 := by kernel_rfl
  obtain ⟨n, hn⟩ : ∃ n, Hid (bs.length = n) := ⟨_, Lib.hid rfl⟩
  have hnl : n ≤ 1000000 := by rw [← hn.out]; exact hl
  clear hE hB hl
  go_enter Try.func45, Try.ntmps45
  go_wp2_with (first
    | (go_at_call 50; refine (HCL.out _ S0.out.b).mono ?_; rintro e w1 ⟨v1, rfl, ho1, hb1⟩; have S1 := Lib.hid (S0.out.call hb1); have hR1 : HoR (w.heap.size + 1) v1 bs w1 := HoR.of (by have h := ho1; rw [show (w.alloc (.cells #[lv, .slice ea el ec] 44)).heap.size = w.heap.size + 1 by simp] at h; exact h) (by have := S1.out.t.lt; omega) (by rw [hn.out]; omega); obtain ⟨a1, c1, rfl⟩ := hR1.shape; have HR1 := Lib.hid hR1; clear hR1 ho1 hb1; rw [hn.out]; have HC1 := Lib.hid (S1.out.t.cell 1))
    | ((with_reducible refine at_load (.tmp 10) ?_); refine wpList_load_1 22 (.tmp 10) rfl w.heap.size 1 (.slice ea el ec) HC1.out rfl _ Try.underlying22 rfl rfl ?_))
  rw [hn.out] at HR1
  go_loopw [13, 7] (fun i x wr => ∃ j : Nat, j ≤ el ∧ i = .int .i64 j ∧ HoR (w.heap.size + 1) (.slice a1 n c1) (honJ es bs j) wr ∧ PaS w #[lv, .slice ea el ec] wr) (fun i _ _ => el - (intOf i).toNat)
  case atStart => exact ⟨0, Nat.zero_le _, rfl, HR1.out, S1.out⟩
  case round =>
    obtain ⟨j, hj, rfl, hr, hs⟩ := hrel
    have S2 := Lib.hid hs
    have HR2 := Lib.hid hr
    clear hr hs
    by_cases hlt : j < el
    case neg =>
      obtain rfl : j = el := by omega
      go_wp2_with fail
      go_ret
      exact ⟨_, rfl, by unfold honL; rw [HEL.out]; exact HR2.out, S2.out.b⟩
    have hlt' : (j : Int) < el := by omega
    obtain ⟨eb, eo, rfl, heb, hce⟩ := HE.out.at (show j < es.length by rw [HEL.out]; exact hlt)
    have HYES := Lib.hid (honJ_yes (es := es) (bs := bs) (j := j))
    have HNO := Lib.hid (honJ_no (es := es) (bs := bs) (j := j))
    obtain ⟨x, hx⟩ : ∃ x, es.getD j 0 = x := ⟨_, rfl⟩
    rw [hx] at hce HYES HNO
    rw [hn.out] at HYES HNO
    have HCE := Lib.hid ((S2.out.b.cell (p := ⟨eb, eo + j, none⟩) heb).trans hce)
    clear hce hx
    by_cases hin : 0 ≤ x ∧ x < n
    case neg =>
      have HNX := Lib.hid (HNO.out hin)
      by_cases hx0 : 0 ≤ x
      · have hxn : ¬ x < n := fun h => hin ⟨hx0, h⟩
        go_wp2_with (first
          | ((with_reducible refine at_load (.tmp 15) ?_); refine wpList_load_1 3 (.tmp 15) rfl eb (eo + j) (.int .i64 x) HCE.out rfl _ Try.underlying3 rfl rfl ?_))
        go_roundw
        case rel => exact ⟨j + 1, by omega, by go_num, by rw [HNX.out]; exact HR2.out, S2.out⟩
        case measure => simp [intOf]; omega
      · go_wp2_with (first
          | ((with_reducible refine at_load (.tmp 15) ?_); refine wpList_load_1 3 (.tmp 15) rfl eb (eo + j) (.int .i64 x) HCE.out rfl _ Try.underlying3 rfl rfl ?_))
        go_roundw
        case rel => exact ⟨j + 1, by omega, by go_num, by rw [HNX.out]; exact HR2.out, S2.out⟩
        case measure => simp [intOf]; omega
    obtain ⟨q, rfl⟩ : ∃ q : Nat, x = q := ⟨x.toNat, by omega⟩
    have hq0 : (0 : Int) ≤ (q : Int) := by omega
    have hqn : q < n := by omega
    have hqn' : (q : Int) < n := by omega
    have HSX := Lib.hid (HYES.out hin)
    simp only [Int.toNat_natCast] at HSX
    rcases HR2.out.row with ⟨h1, _⟩ | ⟨g, c, hsl, hgB, hrow⟩
    · have := HJL.out j; rw [h1, hn.out] at this; simp at this; omega
    have hlen : (honJ es bs j).length = n := by rw [HJL.out j, hn.out]
    rw [hlen] at hsl
    cases hsl
    have HROW := Lib.hid hrow
    have HLEN := Lib.hid hlen
    clear hrow hlen hin
    go_wp2_with (first
      | ((with_reducible refine at_load (.tmp 15) ?_); refine wpList_load_1 3 (.tmp 15) rfl eb (eo + j) (.int .i64 (q : Int)) HCE.out rfl _ Try.underlying3 rfl rfl ?_)
      | ((with_reducible refine at_store (.tmp 27) ?_); refine wpList_store_num rfl 53 (.tmp 27) _ rfl g q .u64 (honJ es bs j) 0 HROW.out (by rw [HLEN.out]; exact hqn) (by first | rfl | simp [Act.eval]) rfl hiu ?_; intro w3 U3 B3; rw [← HSX.out] at B3; have S3 : Hid (PaS w #[lv, .slice (some ⟨eb, eo, none⟩) el ec] w3) := ⟨U3.blk S2.out.t (by omega), U3.below S2.out.b (by omega)⟩; have HR3 : Hid (HoR (w.heap.size + 1) (.slice (some ⟨g, 0, none⟩) n c1) (honJ es bs (j + 1)) w3) := ⟨by have := S3.out.t.lt; omega, by rw [HJL.out, hn.out]; omega, .inr ⟨g, c1, by rw [HJL.out, hn.out], hgB, B3⟩⟩; clear U3 B3))
    go_roundw
    case rel => exact ⟨j + 1, by omega, by go_num, HR3.out, S3.out⟩
    case measure => simp [intOf]; omega
end Go.Proofs.Ytdlbobpglgjhiaa
