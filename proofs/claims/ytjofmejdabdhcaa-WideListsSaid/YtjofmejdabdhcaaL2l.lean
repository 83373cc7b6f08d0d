/- Stage 2: the walk of WideLists. -/
import Derived.Test.YtjofmejdabdhcaaAwake2
import Derived.Test.YtjofmejdabdhcaaGreat
import Derived.Test.YtjofmejdabdhcaaSumR
import Derived.Test.YtjofmejdabdhcaaOpenW
set_option linter.unusedVariables false
namespace Go.Proofs.Ytjofmejdabdhcaa
open Go.RowKit

theorem infoW : (Try.prog.info? 24).map (fun i => (i.zero, i.size, i.bytes)) = some (some (.agg #[.int .u64 0, .int .u64 0, .int .u64 0, .int .u64 0]), 4, 32) := by kernel_rfl

set_option maxHeartbeats 400000 in
theorem lists_long (a : Option Addr) (len cap : Nat) (w : World) (hl : 100 < len) (hm : len ≤ 9223372036854775807) :
    Calls Try.prog 6 #[.slice a len cap] w fun e w' => e = .returned (.bool true) ∧ Below w.heap.size w w' := by
  go_enter Try.func6, Try.ntmps6
  go_wp2_with (go_at_call 17; refine (awake2 _).mono ?_; rintro e w1 ⟨rfl, hb1⟩)
  go_ret
  exact ⟨rfl, hb1⟩

/-- The cells of some numbers, end to end. -/
def flat (ns : List Int) : List Value := ns.flatMap fun n => [.int .u64 (l0 n), .int .u64 (l1 n), .int .u64 (l2 n), .int .u64 (l3 n)]

theorem flat_snoc (ns : List Int) (x : Int) : flat (ns ++ [x]) = flat ns ++ [.int .u64 (l0 x), .int .u64 (l1 x), .int .u64 (l2 x), .int .u64 (l3 x)] := by
  unfold flat; rw [List.flatMap_append]; rfl

theorem flat_at : ∀ (ns : List Int) (i : Nat), i < ns.length → (flat ns)[i * 4]? = some (.int .u64 (l0 (ns.getD i 0))) ∧ (flat ns)[i * 4 + 1]? = some (.int .u64 (l1 (ns.getD i 0))) ∧ (flat ns)[i * 4 + 2]? = some (.int .u64 (l2 (ns.getD i 0))) ∧ (flat ns)[i * 4 + 3]? = some (.int .u64 (l3 (ns.getD i 0)))
  | [], i, h => absurd h (by simp)
  | x :: ns, 0, h => ⟨rfl, rfl, rfl, rfl⟩
  | x :: ns, i + 1, h => by
    have := flat_at ns i (by simpa using h)
    have e (j : Nat) : (flat (x :: ns))[(i + 1) * 4 + j]? = (flat ns)[i * 4 + j]? := by
      have e1 : flat (x :: ns) = [.int .u64 (l0 x), .int .u64 (l1 x), .int .u64 (l2 x), .int .u64 (l3 x)] ++ flat ns := rfl
      rw [e1, List.getElem?_append_right (by simp; omega)]
      congr 1
      simp; omega
    exact ⟨(e 0).trans this.1, (e 1).trans this.2.1, (e 2).trans this.2.2.1, (e 3).trans this.2.2.2⟩

/-- What the call owns is a slice of numbers. -/
theorem Wides.own {w : World} {base e : Nat} {v : Value} {n : Nat} {ns : List Int} (h : w.ownsRow base e 4 v n (flat ns)) (hn : ns.length = n) (hm : n ≤ maxLen) : Wides w v ns := by
  have h' := h
  rcases h.2 with ⟨rfl, rfl⟩ | ⟨g, cap, cur, rfl, hb, hg, hnc, hcm, hcs, ht⟩
  · exact ⟨none, 0, 0, rfl, hn, Nat.zero_le _, .inl rfl⟩
  · refine ⟨_, _, _, rfl, hn, hm, ?_⟩
    by_cases h0 : n = 0
    · exact .inl h0
    · refine .inr ⟨g, 0, rfl, ?_, fun i hi => ?_⟩
      · exact (Array.getElem?_eq_some_iff.1 hg).1
      · have c (j : Nat) (hj : j < 4) : w.cell? ⟨g, 0 + i * 4 + j, none⟩ = (flat ns)[i * 4 + j]? := by
          rw [← ht, List.getElem?_take_of_lt (by omega), Nat.zero_add]
          simp [World.cell?, hg]
        obtain ⟨p0, p1, p2, p3⟩ := flat_at ns i (by omega)
        exact ⟨(c 0 (by omega)).trans p0, (c 1 (by omega)).trans p1, (c 2 (by omega)).trans p2, (c 3 (by omega)).trans p3⟩

/-- What stands behind the loop, and at its head: the numbers from m on, last first, and the greatest of them in the block bT. -/
def BackI (ns : List Int) (v i : Value) (w wr : World) : Prop :=
  (i = .int .i64 (-1) ∧ wr.ownsRow (w.heap.size + 1) 24 4 v ns.length (flat ns.reverse) ∧ Below w.heap.size w wr ∧ w.heap.size < wr.heap.size ∧ Blk wr w.heap.size #[.int .u64 (l0 (bestN ns.reverse)), .int .u64 (l1 (bestN ns.reverse)), .int .u64 (l2 (bestN ns.reverse)), .int .u64 (l3 (bestN ns.reverse))]) ∨
  ∃ m : Nat, m < ns.length ∧ i = .int .i64 m ∧ wr.ownsRow (w.heap.size + 1) 24 4 v (ns.length - (m + 1)) (flat (ns.drop (m + 1)).reverse) ∧ Below w.heap.size w wr ∧ w.heap.size < wr.heap.size ∧ Blk wr w.heap.size #[.int .u64 (l0 (bestN (ns.drop (m + 1)).reverse)), .int .u64 (l1 (bestN (ns.drop (m + 1)).reverse)), .int .u64 (l2 (bestN (ns.drop (m + 1)).reverse)), .int .u64 (l3 (bestN (ns.drop (m + 1)).reverse))]

theorem owns_call {u u' : World} {base e sz n : Nat} {v : Value} {xs : List Value} (h : u.ownsRow base e sz v n xs) (hb : Below u.heap.size u u') : u'.ownsRow base e sz v n xs := by
  obtain ⟨h1, h2⟩ := h
  refine ⟨h1, ?_⟩
  rcases h2 with h2 | ⟨g, cap, cur, hv, hg, hh, r⟩
  · exact .inl h2
  · exact .inr ⟨g, cap, cur, hv, hg, by rw [hb.block g (Array.getElem?_eq_some_iff.1 hh).1]; exact hh, r⟩

theorem owns_store4 {u : World} {base e sz n b : Nat} {v : Value} {xs : List Value} {v0 v1 v2 v3 : Value} (h : u.ownsRow base e sz v n xs) (hb : b < base) :
    ((((u.setCell ⟨b, 0, none⟩ v0).setCell ⟨b, 1, none⟩ v1).setCell ⟨b, 2, none⟩ v2).setCell ⟨b, 3, none⟩ v3).ownsRow base e sz v n xs :=
  ownsRow_setCell_below (a := ⟨b, 3, none⟩) (ownsRow_setCell_below (a := ⟨b, 2, none⟩) (ownsRow_setCell_below (a := ⟨b, 1, none⟩) (ownsRow_setCell_below (a := ⟨b, 0, none⟩) h hb _) hb _) hb _) hb _

theorem drop_rev {ns : List Int} {m : Nat} (h : m < ns.length) : (ns.drop m).reverse = (ns.drop (m + 1)).reverse ++ [ns.getD m 0] := by
  rw [List.drop_eq_getElem_cons h, List.reverse_cons]
  congr 2
  simp [List.getD, List.getElem?_eq_getElem h]

theorem BackI.step {ns : List Int} {v' : Value} {m : Nat} {w wr : World} {x s : Int} (hm : m < ns.length) (hx : x = ns.getD m 0) (hs : s = bestN (ns.drop (m + 1)).reverse)
    (hown : wr.ownsRow (w.heap.size + 1) 24 4 v' (ns.length - (m + 1) + 1) (flat (ns.drop (m + 1)).reverse ++ [.int .u64 (l0 x), .int .u64 (l1 x), .int .u64 (l2 x), .int .u64 (l3 x)])) (hb : Below w.heap.size w wr) (hsz : w.heap.size < wr.heap.size)
    (bT : Blk wr w.heap.size #[.int .u64 (l0 (if s < x then x else s)), .int .u64 (l1 (if s < x then x else s)), .int .u64 (l2 (if s < x then x else s)), .int .u64 (l3 (if s < x then x else s))]) : BackI ns v' (.int .i64 ((m : Int) - 1)) w wr := by
  subst hx hs
  rw [← flat_snoc, ← drop_rev hm] at hown
  rw [← bestN_snoc, ← drop_rev hm] at bT
  by_cases h0 : m = 0
  · subst h0
    refine .inl ⟨rfl, ?_, hb, hsz, by simpa using bT⟩
    have e3 : ns.length - (0 + 1) + 1 = ns.length := by omega
    rw [e3] at hown
    simpa using hown
  · refine .inr ⟨m - 1, by omega, by congr 1; omega, ?_, hb, hsz, ?_⟩
    · have e4 : m - 1 + 1 = m := by omega
      have e3 : ns.length - (m + 1) + 1 = ns.length - m := by omega
      rw [e4]; rw [e3] at hown; exact hown
    · have e4 : m - 1 + 1 = m := by omega
      rw [e4]; exact bT

theorem BackI.start (ns : List Int) (len : Nat) (hx : ns.length = len) (w : World) : BackI ns (.slice none 0 0) (.int .i64 ((len : Int) - 1)) w (w.alloc (.cells #[.int .u64 0, .int .u64 0, .int .u64 0, .int .u64 0] 24)) := by
  have z : #[.int .u64 (l0 0), .int .u64 (l1 0), .int .u64 (l2 0), .int .u64 (l3 0)] = (#[.int .u64 0, .int .u64 0, .int .u64 0, .int .u64 0] : Array Value) := by rw [limbs_zero.1, limbs_zero.2.1, limbs_zero.2.2.1, limbs_zero.2.2.2]
  by_cases h0 : len = 0
  · subst h0
    obtain rfl := List.eq_nil_of_length_eq_zero hx
    refine .inl ⟨rfl, by simpa [flat] using World.ownsRow_nil _ _ _ _, (Below.refl _ _).alloc (Nat.le_refl _) _, by simp, ?_⟩
    have e : bestN ([] : List Int).reverse = 0 := by simp [bestN, bestFrom]
    rw [e, z]; exact Blk.new rfl
  · have e : len - 1 + 1 = len := by omega
    have e2 : (ns.drop (len - 1 + 1)).reverse = [] := by rw [e, List.drop_of_length_le (by omega)]; rfl
    refine .inr ⟨len - 1, by omega, by congr 1; omega, ?_, (Below.refl _ _).alloc (Nat.le_refl _) _, by simp, ?_⟩
    · rw [e2, e, hx, Nat.sub_self]; exact World.ownsRow_nil _ _ _ _
    · rw [e2, show bestN [] = 0 by simp [bestN, bestFrom], z]; exact Blk.new rfl

theorem sum_rev' (ns : List Int) : ns.reverse.sum = ns.sum := by
  induction ns with
  | nil => rfl
  | cons x r ih => rw [List.reverse_cons, List.sum_append, ih]; simp; omega

set_option maxHeartbeats 2000000 in
theorem lists_short (a : Option Addr) (len cap : Nat) (ns : List Int) (w : World) (h : Wides w (.slice a len cap) ns) (hr : Nums ns) (hl : len ≤ 100) :
    Calls Try.prog 6 #[.slice a len cap] w fun e w' => e = .returned (.bool true) ∧ Below w.heap.size w w' := by
  obtain ⟨i0, hi, hz0, hz1, hz2⟩ := info_parts infoW
  have hxl : Hid (ns.length = len) := by obtain ⟨a', l', c', e, h1, _⟩ := h; cases e; exact h1
  go_enter Try.func6, Try.ntmps6
  go_wp2_with fail
  go_loopw [3, 5] (fun v i wr => BackI ns v i w wr) (fun _ i _ => (intOf i + 1).toNat)
  case atStart => exact BackI.start ns len hxl.out w
  case round =>
    rcases hrel with ⟨rfl, hown, hb, hsz, bT⟩ | ⟨m, hm, rfl, hown, hb, hsz, bT⟩
    · have hI := h.below hb
      have hBk := Wides.own hown (by simp) (by rw [hxl.out]; unfold maxLen; omega)
      have hrr : Nums ns.reverse := fun y hy => hr y (by simpa using hy)
      have D1 := fun u (hu : Wides u (.slice a len cap) ns) => sum_any _ ns u hu hr
      have D2 := fun u (hu : Wides u (.slice a len cap) ns) => rsumW_any _ ns u hu hr
      have D3 := fun u (hu : Wides u u3 ns.reverse) => sum_any _ ns.reverse u hu hrr
      have D4 := fun u (hu : Wides u (.slice a len cap) ns) => greatest_any _ ns u hu hr
      have D5 := fun u (hu : Wides u u3 ns.reverse) => greatest_any _ ns.reverse u hu hrr
      have f1 : sumN ns.reverse = sumN ns := by unfold sumN; rw [sum_rev']
      have f2 : sumF ns.reverse = sumF ns := by unfold sumF; rw [sum_rev']
      have f3 : bestN ns.reverse = bestN ns := bestN_rev ns (fun y hy => (hr y hy).1)
      have hW1 := sumN_rng hr
      have hW2 := bestN_rng hr
      rw [f1, f2] at D3
      rw [f3] at D5 bT
      obtain ⟨y, hy⟩ : ∃ y, sumN ns = y := ⟨_, rfl⟩
      obtain ⟨ey, hey⟩ : ∃ y, sumF ns = y := ⟨_, rfl⟩
      obtain ⟨g, hg⟩ : ∃ y, bestN ns = y := ⟨_, rfl⟩
      rw [hy] at D1 D2 D3 hW1
      rw [hey] at D1 D2 D3
      rw [hg] at D4 D5 bT hW2
      clear f1 f2 f3 hy hey hg
      have q1 := eq_wide hW1 hW1
      have q2 := eq_wide hW2 hW2
      have H1 := Lib.hid D1; clear D1
      have H2 := Lib.hid D2; clear D2
      have H3 := Lib.hid D3; clear D3
      have H4 := Lib.hid D4; clear D4
      have H5 := Lib.hid D5; clear D5
      go_wp2_with fail
      refine (H1.out _ hI).mono ?_; rintro e w1 ⟨rfl, hb1⟩
      replace hI := hI.below hb1
      replace hBk := hBk.below hb1
      replace bT := bT.call hb1
      replace hb := bel0 hb hb1
      go_wp2_with fail
      refine (H2.out _ (hI.below (keep_alloc (Below.refl _ _) _))).mono ?_; rintro e w2 ⟨rfl, hb2⟩
      replace hI := (hI.below (keep_alloc (Below.refl _ _) _)).below hb2
      replace hBk := (hBk.below (keep_alloc (Below.refl _ _) _)).below hb2
      replace bT := (bT.alloc _).call hb2
      have bX := Blk.call hb2 (Blk.new rfl)
      replace hb := bel1 hb hb2
      go_wp2_with fail
      refine (H3.out _ (hBk.below (keep_alloc (Below.refl _ _) _))).mono ?_; rintro e w3 ⟨rfl, hb3⟩
      replace hI := (hI.below (keep_alloc (Below.refl _ _) _)).below hb3
      replace hBk := (hBk.below (keep_alloc (Below.refl _ _) _)).below hb3
      replace bT := (bT.alloc _).call hb3
      replace bX := (bX.alloc _).call hb3
      have bY := Blk.call hb3 (Blk.new rfl)
      replace hb := bel1 hb hb3
      clear hb1 hb2 hb3
      go_wp2_with fail
      refine wp_region_fam2 (by kernel_rfl) (by kernel_rfl) ?_
      intro T F hT hF hG
      obtain ⟨t0, t1, t2, t3⟩ := fam_four hF (bT.alloc _)
      obtain ⟨x0, x1, x2, x3⟩ := fam_four hF (bX.alloc _)
      obtain ⟨y0, y1, y2, y3⟩ := fam_four hF (bY.alloc _)
      obtain ⟨z0, z1, z2, z3⟩ := fam_four hF (Blk.new rfl)
      have HI := Lib.hid (fun t => (hI.below (keep_alloc (Below.refl _ _) _)).below (hF t))
      have HK := Lib.hid (fun t => (hBk.below (keep_alloc (Below.refl _ _) _)).below (hF t))
      have HB := Lib.hid (fun t => bel0 (hb.alloc hb.size _) (hF t))
      clear bT bX bY hI hBk hb hown
      repeat (go_big_quiet_step ((first
        | (go_at_call_of 24 a; exact fam_call hF hG (Nat.le_refl _) (H4.out _ (HI.out _)))
        | (go_at_call_of 24 u3; exact fam_call hF hG (Nat.le_refl _) (H5.out _ (HK.out _)))
        | (go_at_call 17; exact fam_call hF hG (Nat.le_refl _) (awake2 _)))))
      refine wpQuiet_nil ?_
      rintro _ ⟨t, rfl⟩
      go_wp2_with fail
      go_ret
      exact ⟨rfl, HB.out t⟩
    · obtain ⟨a', l', c', e, _, _, hc⟩ := h
      cases e
      have hmlen : m < len := by have := hxl.out; omega
      rcases hc with h0 | ⟨b, off, e, hblt, hc⟩
      · omega
      subst e
      obtain ⟨x, HX⟩ : ∃ x, Hid (x = ns.getD m 0) := ⟨_, rfl⟩
      have hxW := hr.at (k := m) hm
      rw [← HX.out] at hxW
      have HCL : Hid (∀ u, Below w.heap.size w u → u.cell? ⟨b, off + m * 4, none⟩ = some (.int .u64 (l0 x)) ∧ u.cell? ⟨b, off + m * 4 + 1, none⟩ = some (.int .u64 (l1 x)) ∧ u.cell? ⟨b, off + m * 4 + 2, none⟩ = some (.int .u64 (l2 x)) ∧ u.cell? ⟨b, off + m * 4 + 3, none⟩ = some (.int .u64 (l3 x))) := fun u hu => by
        obtain ⟨g0, g1, g2, g3⟩ := hc m hmlen
        rw [← HX.out] at g0 g1 g2 g3
        refine ⟨?_, ?_, ?_, ?_⟩ <;> (rw [hu.cell (by exact hblt)]; assumption)
      clear hc
      obtain ⟨g0, g1, g2, g3⟩ := HCL.out _ hb
      obtain ⟨ys, HY⟩ : ∃ ys, Hid (ys = flat (ns.drop (m + 1)).reverse) := ⟨_, rfl⟩
      rw [← HY.out] at hown
      obtain ⟨s, HS⟩ : ∃ s, Hid (s = bestN (ns.drop (m + 1)).reverse) := ⟨_, rfl⟩
      rw [← HS.out] at bT
      have hsW : W256 s := by rw [HS.out]; exact bestN_rng (fun y hy => hr y (List.mem_of_mem_drop (by simpa using hy)))
      go_wp2_with (at_builtin; refine wpList_append_own _ rfl _ _ 36 rfl (w.heap.size + 1) 24 i0 (.agg #[.int .u64 0, .int .u64 0, .int .u64 0, .int .u64 0]) 4 32 Try.underlying36 hi hz0 hz1 hz2 rfl (by decide) _ _ _ rfl (hown.alloc _) ⟨wr.heap.size, 0, none⟩ 1 1 [.int .u64 (l0 x), .int .u64 (l1 x), .int .u64 (l2 x), .int .u64 (l3 x)] rfl rfl ?c1 ?c2 ?c3 ?c4 ?c5 ?_)
      case c1 =>
        intro j u hj
        rw [Go.WideShapes.add_plain, Nat.zero_add, (Blk.new (w := wr) (t := 24) (n := wr.heap.size) rfl).cell]
        simpa using hj
      case c2 => intro u hu; simp at hu; rcases hu with rfl | rfl | rfl | rfl <;> rfl
      case c3 => have := hxl.out; unfold maxLen; omega
      case c4 => have := hxl.out; omega
      case c5 => simp; omega
      · intro v' w1 hown' hgrow _
        have hlt := hown.lt
        have HG : Below (w.heap.size + 1) wr w1 := ((Below.refl (w.heap.size + 1) wr).alloc (by omega) _).grown hgrow (by simp; omega) (fun k hk => (hlt k hk).1)
        have hb1 : Below w.heap.size w w1 := hb.trans (HG.mono (by omega))
        have bT1 := Blk.below HG (Nat.lt_succ_self _) bT
        have hsz1 := bT1.lt
        clear hgrow hown hlt HG bT hb g0 g1 g2 g3
        obtain ⟨g0, g1, g2, g3⟩ := HCL.out _ hb1
        obtain ⟨t0, t1, t2, t3, t4⟩ := bT1.four
        have D := rcmp_any x s hxW hsW
        have hbl1 : b < w1.heap.size := by omega
        have HM := Lib.hid hm
        go_wp2_with fail
        refine wp_region_fam2 (by kernel_rfl) (by kernel_rfl) ?_
        intro T F hT hF hG
        obtain ⟨p0, p1, p2, p3⟩ := fam_four hF bT1
        have k0 : ∀ t, (F t).cell? ⟨b, off + m * 4, none⟩ = some (.int .u64 (l0 x)) := fun t => (HCL.out _ (bel0 hb1 (hF t))).1
        have k1 : ∀ t, (F t).cell? ⟨b, off + m * 4 + 1, none⟩ = some (.int .u64 (l1 x)) := fun t => (HCL.out _ (bel0 hb1 (hF t))).2.1
        have k2 : ∀ t, (F t).cell? ⟨b, off + m * 4 + 2, none⟩ = some (.int .u64 (l2 x)) := fun t => (HCL.out _ (bel0 hb1 (hF t))).2.2.1
        have k3 : ∀ t, (F t).cell? ⟨b, off + m * 4 + 3, none⟩ = some (.int .u64 (l3 x)) := fun t => (HCL.out _ (bel0 hb1 (hF t))).2.2.2
        obtain ⟨cm, hcm⟩ : ∃ c, cmpN x s = c := ⟨_, rfl⟩
        rw [hcm] at D
        have D := Lib.hid D
        have HCM := Lib.hid hcm; clear hcm
        repeat (go_big_quiet_step ((go_at_call 15; exact fam_call hF hG (Nat.le_refl _) (D.out _))))
        refine wpQuiet_nil ?_
        rintro _ ⟨t, rfl⟩
        have hFt := (hF t).size
        obtain ⟨t0, t1, t2, t3, t4⟩ := (bT1.call (hF t)).four
        rcases cmpN_cases x s with ⟨hc, e⟩ | ⟨hc, e⟩ | ⟨hc, e⟩
        · have hcm0 : cm = -1 := HCM.out.symm.trans e
          subst hcm0
          have HIF := Lib.hid (show (if s < x then x else s) = s from if_neg (by omega))
          clear e hc
          go_wp2_with fail
          go_roundw
          case rel => exact BackI.step HM.out HX.out HS.out (by rw [← HY.out, hxl.out]; exact owns_call hown' (hF t)) (bel0 hb1 (hF t)) (by omega) (by rw [HIF.out]; exact bT1.call (hF t))
          case measure => simp [intOf]
        · have hcm0 : cm = 1 := HCM.out.symm.trans e
          subst hcm0
          have HIF := Lib.hid (show (if s < x then x else s) = x from if_pos (by omega))
          clear e hc
          go_wp2_with fail
          go_roundw
          case rel => exact BackI.step HM.out HX.out HS.out (by rw [← HY.out, hxl.out]; exact owns_store4 (owns_call hown' (hF t)) (Nat.lt_succ_self _)) (below_store4 (bel0 hb1 (hF t)) (Nat.le_refl _)) (by rw [size_store4]; omega) (by rw [HIF.out]; exact (bT1.call (hF t)).store4)
          case measure => simp [intOf]
        · have hcm0 : cm = 0 := HCM.out.symm.trans e
          subst hcm0
          have HIF := Lib.hid (show (if s < x then x else s) = s from if_neg (by omega))
          clear e hc
          go_wp2_with fail
          go_roundw
          case rel => exact BackI.step HM.out HX.out HS.out (by rw [← HY.out, hxl.out]; exact owns_call hown' (hF t)) (bel0 hb1 (hF t)) (by omega) (by rw [HIF.out]; exact bT1.call (hF t))
          case measure => simp [intOf]

theorem walk_WideLists (v0 : Value) (a0 : List Int) (w : World) (w0 : Wides w v0 a0 ∧ Nums a0) :
    Calls Try.prog 6 #[v0] w fun e w' => e = .returned (.bool true) ∧ Below w.heap.size w w' := by
  obtain ⟨h, hr⟩ := w0
  have h' := h
  obtain ⟨a, len, cap, rfl, hl, hm, _⟩ := h
  by_cases hc : len ≤ 100
  · exact lists_short a len cap a0 w h' hr hc
  · exact lists_long a len cap w (by omega) (by unfold maxLen at hm; omega)

end Go.Proofs.Ytjofmejdabdhcaa
