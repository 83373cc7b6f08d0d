/- The reference's IsAncestor, Descendants, Children, Leaves. -/
import Derived.Test.YtdbkphkgjaecoaaTrF
set_option linter.unusedVariables false

set_option linter.unusedSimpArgs false
namespace Go.Proofs.Ytdbkphkgjaecoaa
open Go.RowKit

set_option maxRecDepth 100000

theorem path_any (ns : List NdD) (hok : TrOK ns) (hlen : ns.length ≤ 100000) (i : Int) (v : Value) (w : World) (hN : NodesV w v ns) :
    Calls Try.prog 12 #[.agg #[v], .int .i64 i] w (PathE ns i w) := by
  by_cases h : 0 ≤ i ∧ i < ns.length
  · obtain ⟨k, rfl⟩ : ∃ k : Nat, i = k := ⟨i.toNat, by omega⟩
    exact path_in ns hok hlen k (by omega) v w hN
  · exact path_out v ns i w hN h

theorem path_ints {ns : List NdD} (hok : TrOK ns) (hlen : ns.length ≤ 100000) {i : Int} {w : World} {B : Nat} {v : Value} (h : OwnK .i64 3 w B v (pathN ns i)) : IntsV w v (pathN ns i) :=
  ⟨h.ints (by have := pathN_len ns i; unfold maxLen; omega), fun x hx => by have := pathN_rng hok i x hx; omega⟩

theorem isan_any (ns : List NdD) (hok : TrOK ns) (hlen : ns.length ≤ 100000) (a b : Int) (v : Value) (w : World) (hN : NodesV w v ns) :
    Calls Try.prog 14 #[.agg #[v], .int .i64 a, .int .i64 b] w fun e w' => e = .returned (.bool (decide (a ∈ pathN ns b))) ∧ Below w.heap.size w w' := by
  have HPA := Lib.hid (fun u (hu : Below w.heap.size w u) => path_any ns hok hlen b v u (hN.call hu))
  have HPI := Lib.hid (fun (u : World) B x (h : OwnK .i64 3 u B x (pathN ns b)) => path_ints hok hlen h)
  have S0 := Lib.hid (pas_new w #[v] 25)
  have hi1 : (Try.prog.info? 25).map (·.size) = some 1 := by kernel_rfl
  obtain ⟨q, hq⟩ : ∃ q, Hid (decide (a ∈ pathN ns b) = q) := ⟨_, Lib.hid rfl⟩
  rw [hq.out]
  clear hN hok hlen
  go_enter Try.func14, Try.ntmps14
  go_wp2_with (first
    | ((with_reducible refine at_load (.tmp 3) ?_); refine wpList_load_g 25 (.tmp 3) rfl w.heap.size rfl #[v] _ S0.out.t Try.underlying25 rfl hi1 rfl ?_)
    | (go_at_call 12; refine (HPA.out _ S0.out.b).mono ?_; rintro e w1 ⟨v1, rfl, ho1, hb1⟩; have HI1 := Lib.hid (HPI.out _ _ _ ho1); have S1 := Lib.hid (S0.out.call hb1); clear ho1 hb1)
    | (go_at_call 31; refine (has_any _ _ a w1 HI1.out).mono ?_; rintro e w2 ⟨rfl, hb2⟩; rw [hq.out]; have S2 := Lib.hid (S1.out.call hb2); clear hb2))
  go_ret
  exact ⟨rfl, S2.out.b⟩

/-- The numbers below k with this property, in order. -/
def selK (p : Nat → Bool) : Nat → List Int
  | 0 => []
  | k + 1 => if p k then selK p k ++ [(k : Int)] else selK p k

theorem selK_yes {p : Nat → Bool} {k : Nat} (h : p k = true) : selK p (k + 1) = selK p k ++ [(k : Int)] := by show (if p k = true then selK p k ++ [(k : Int)] else selK p k) = _; rw [if_pos h]

theorem selK_no {p : Nat → Bool} {k : Nat} (h : p k = false) : selK p (k + 1) = selK p k := by show (if p k = true then selK p k ++ [(k : Int)] else selK p k) = _; rw [if_neg (by rw [h]; simp)]

theorem selK_len (p : Nat → Bool) : ∀ k, (selK p k).length ≤ k
  | 0 => by simp [selK]
  | k + 1 => by
    have := selK_len p k
    cases h : p k
    · rw [selK_no h]; omega
    · rw [selK_yes h]; simp; omega

theorem selK_mem {p : Nat → Bool} {x : Int} : ∀ {k : Nat}, x ∈ selK p k ↔ ∃ j : Nat, j < k ∧ x = j ∧ p j = true
  | 0 => by simp [selK]
  | k + 1 => by
    cases h : p k
    · rw [selK_no h, selK_mem]
      constructor
      · rintro ⟨j, h1, h2, h3⟩; exact ⟨j, by omega, h2, h3⟩
      · rintro ⟨j, h1, h2, h3⟩
        by_cases e : j = k
        · subst e; rw [h] at h3; cases h3
        · exact ⟨j, by omega, h2, h3⟩
    · rw [selK_yes h, List.mem_append, selK_mem, List.mem_singleton]
      constructor
      · rintro (⟨j, h1, h2, h3⟩ | h4)
        · exact ⟨j, by omega, h2, h3⟩
        · exact ⟨k, by omega, h4, h⟩
      · rintro ⟨j, h1, h2, h3⟩
        by_cases e : j = k
        · subst e; exact .inr h2
        · exact .inl ⟨j, by omega, h2, h3⟩

theorem selK_rng (p : Nat → Bool) (k : Nat) : ∀ x ∈ selK p k, 0 ≤ x ∧ x < k := fun x hx => by
  obtain ⟨j, h1, rfl, _⟩ := selK_mem.1 hx; omega

/-- A loop that lists what has the property. -/
def SelI (w : World) (T : Array Value) (p : Nat → Bool) (m : Nat) (v i : Value) (wr : World) : Prop :=
  ∃ k : Nat, k ≤ m ∧ i = .int .i64 k ∧ OwnK .i64 3 wr (w.heap.size + 1) v (selK p k) ∧ PaS w T wr

theorem OwnK.off1 {w wr : World} {v : Value} {xs : List Int} (h : OwnK .i64 3 wr (w.heap.size + 1) v xs) : ∀ j, v.ownBlock = some j → w.heap.size < j := fun j hj => by have := (h.lt j hj).1; omega

/-- What such a function promises. -/
def SelE (l : List Int) (w : World) (e : Ending) (w' : World) : Prop := ∃ v', e = .returned v' ∧ OwnK .i64 3 w' w.heap.size v' l ∧ Below w.heap.size w w'

def descN (ns : List NdD) (i : Int) : List Int := selK (fun k => decide (i ∈ pathN ns (k : Int))) ns.length

set_option maxHeartbeats 8000000 in
theorem desc_any (ns : List NdD) (hok : TrOK ns) (hlen : ns.length ≤ 100000) (i : Int) (v : Value) (w : World) (hN : NodesV w v ns) :
    Calls Try.prog 16 #[.agg #[v], .int .i64 i] w (SelE (descN ns i) w) := by
  obtain ⟨a, cap, rfl, hmx⟩ := hN.shape
  unfold maxLen at hmx
  have HIA := Lib.hid (fun (k : Int) u (hu : Below w.heap.size w u) => isan_any ns hok hlen i k _ u (hN.call hu))
  have HII := Lib.hid info_int
  have hi1 : (Try.prog.info? 25).map (·.size) = some 1 := by kernel_rfl
  unfold descN
  obtain ⟨p, hp⟩ : ∃ p : Nat → Bool, (fun (k : Nat) => decide (i ∈ pathN ns (k : Int))) = p := ⟨_, rfl⟩
  have HPP : Hid (∀ k : Nat, decide (i ∈ pathN ns (k : Int)) = p k) := fun k => by rw [← hp]
  rw [hp]
  obtain ⟨m, hm⟩ : ∃ m, ns.length = m := ⟨_, rfl⟩
  rw [hm] at hmx HIA hlen ⊢
  have S0 := Lib.hid (pas_new w #[.slice a m cap] 25)
  clear hN hok hp hm
  go_enter Try.func16, Try.ntmps16
  go_wp2_with fail
  go_loopw [5, 6] (fun v i wr => SelI w #[.slice a m cap] p m v i wr) (fun _ i _ => m - (intOf i).toNat)
  case atStart => exact ⟨0, Nat.zero_le _, rfl, OwnK.nil _ _ _ _, S0.out⟩
  case round =>
    obtain ⟨k, hk, rfl, hown, hs⟩ := hrel
    have HOW := Lib.hid hown
    have S1 := Lib.hid hs
    have HXL := Lib.hid (selK_len p k)
    have HC0 := Lib.hid (hs.t.cell 0)
    obtain ⟨x, hx⟩ : ∃ x, selK p k = x := ⟨_, rfl⟩
    clear hown hs
    by_cases hlt : k < m
    case neg =>
      obtain rfl : k = m := by omega
      go_wp2_with (first
        | ((with_reducible refine at_load (.tmp 8) ?_); refine wpList_load_1 23 (.tmp 8) rfl w.heap.size 0 (.slice a k cap) HC0.out rfl _ Try.underlying23 rfl rfl ?_))
      go_ret
      exact ⟨_, rfl, HOW.out.lower (by omega), S1.out.b⟩
    have hlt' : (k : Int) < m := by omega
    have HIK := Lib.hid (HIA.out (k : Int) wr S1.out.b)
    rw [HPP.out k] at HIK
    cases hpk : p k
    case false =>
      have HNX := Lib.hid (selK_no hpk)
      rw [hpk] at HIK
      clear hpk hx
      go_wp2_with (first
        | ((with_reducible refine at_load (.tmp 8) ?_); refine wpList_load_1 23 (.tmp 8) rfl w.heap.size 0 (.slice a m cap) HC0.out rfl _ Try.underlying23 rfl rfl ?_)
        | ((with_reducible refine at_load (.tmp 2) ?_); refine wpList_load_g 25 (.tmp 2) rfl w.heap.size rfl #[.slice a m cap] _ S1.out.t Try.underlying25 rfl hi1 rfl ?_)
        | (go_at_call 14; refine HIK.out.mono ?_; rintro e w2 ⟨rfl, hb2⟩; have S2 := Lib.hid (S1.out.call hb2); have HO2 := Lib.hid (HOW.out.call hb2); clear hb2))
      go_roundw
      case rel => exact ⟨k + 1, by omega, by go_num, by rw [HNX.out]; exact HO2.out, S2.out⟩
      case measure => simp [intOf]; omega
    case true =>
      have HNX := Lib.hid (selK_yes hpk)
      rw [hpk] at HIK
      clear hpk hx
      go_wp2_with (first
        | ((with_reducible refine at_load (.tmp 8) ?_); refine wpList_load_1 23 (.tmp 8) rfl w.heap.size 0 (.slice a m cap) HC0.out rfl _ Try.underlying23 rfl rfl ?_)
        | ((with_reducible refine at_load (.tmp 2) ?_); refine wpList_load_g 25 (.tmp 2) rfl w.heap.size rfl #[.slice a m cap] _ S1.out.t Try.underlying25 rfl hi1 rfl ?_)
        | (go_at_call 14; refine HIK.out.mono ?_; rintro e w2 ⟨rfl, hb2⟩; have S2 := Lib.hid (S1.out.call hb2); have HO2 := Lib.hid (HOW.out.call hb2); clear hb2)
        | ((with_reducible refine at_app (.tmp 18) (.tmp 20) ?_); refine wpList_app1 HII.out (by omega) Try.underlying22 (.tmp 18) (.tmp 20) rfl rfl (w.heap.size + 1) _ _ rfl (HO2.out.grown (World.grownBy_alloc _ (.cells #[.int .i64 (k : Int)] 3) none) (fun n _ => by simp)) w2.heap.size 1 (k : Int) rfl ((Blk.new rfl).cell 0) (by have := HXL.out; omega) (by have := S2.out.t.lt; simp; omega) ?_; intro v3 w3 h3 g3 o3; rw [← HNX.out] at h3; have HO3 := Lib.hid h3; have S3 := Lib.hid ((S2.out.call ((Below.refl w2.heap.size w2).alloc (Nat.le_refl _) (.cells #[.int .i64 (k : Int)] 3))).grown g3 HO2.out.off1); clear h3 g3 o3))
      go_roundw
      case rel => exact ⟨k + 1, by omega, by go_num, HO3.out, S3.out⟩
      case measure => simp [intOf]; omega
end Go.Proofs.Ytdbkphkgjaecoaa
