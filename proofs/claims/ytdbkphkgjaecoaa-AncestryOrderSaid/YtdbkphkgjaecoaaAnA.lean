/- ancestry's isNode, IsAncestor. (Written by gen/ana-gen.py.) -/
import Derived.Test.YtdbkphkgjaecoaaAnM
import Derived.Test.YtdbkphkgjaecoaaBtA
set_option linter.unusedVariables false

set_option linter.unusedSimpArgs false
namespace Go.Proofs.Ytdbkphkgjaecoaa
open Go.RowKit

set_option maxRecDepth 100000

set_option maxHeartbeats 4000000 in
theorem ani_any (v : Value) (ns : List NdD) (i : Int) (w : World) (hN : NodesV w v ns) :
    Calls Try.prog 30 #[.agg #[v], .int .i64 i] w fun e w' => e = .returned (.bool (decide (0 ≤ i ∧ i < ns.length))) ∧ Below w.heap.size w w' := by
  obtain ⟨a, cap, rfl, hmx⟩ := hN.shape
  unfold maxLen at hmx
  obtain ⟨m, hm⟩ : ∃ m, Hid (ns.length = m) := ⟨_, Lib.hid rfl⟩
  rw [hm.out] at hmx ⊢
  obtain ⟨q, hq⟩ : ∃ q : Bool, decide (0 ≤ i ∧ i < (m : Int)) = q := ⟨_, rfl⟩
  rw [hq]
  have HBA := Lib.hid ((Below.refl w.heap.size w).alloc (Nat.le_refl _) (.cells #[.slice a m cap] 25))
  have HC0 : Hid ((w.alloc (.cells #[.slice a m cap] 25)).cell? ⟨w.heap.size, 0, none⟩ = some (.slice a m cap)) := (Blk.new rfl).cell 0
  clear hN
  by_cases h0 : 0 ≤ i
  · have hge : ¬ i < 0 := by omega
    by_cases h1 : i < (m : Int)
    · have hqv : q = true := by rw [← hq]; exact decide_eq_true ⟨h0, h1⟩
      subst hqv
      go_enter Try.func30, Try.ntmps30
      go_wp2_with (first
        | ((with_reducible refine at_load (.tmp 9) ?_); refine wpList_load_1 23 (.tmp 9) rfl w.heap.size 0 (.slice a m cap) HC0.out rfl _ Try.underlying23 rfl rfl ?_))
      go_ret
      exact ⟨rfl, HBA.out⟩
    · have hqv : q = false := by rw [← hq]; exact decide_eq_false (fun h => h1 h.2)
      subst hqv
      go_enter Try.func30, Try.ntmps30
      go_wp2_with (first
        | ((with_reducible refine at_load (.tmp 9) ?_); refine wpList_load_1 23 (.tmp 9) rfl w.heap.size 0 (.slice a m cap) HC0.out rfl _ Try.underlying23 rfl rfl ?_))
      go_ret
      exact ⟨rfl, HBA.out⟩
  · have hqv : q = false := by rw [← hq]; exact decide_eq_false (fun h => h0 h.1)
    subst hqv
    have h0' : (0 ≤ i) = False := eq_false h0
    clear h0
    go_enter Try.func30, Try.ntmps30
    go_wp2_with fail
    go_ret
    exact ⟨rfl, HBA.out⟩
/-! ### IsAncestor -/

/-- The answer is that of the node where the walk stands. -/
def IsaI (w : World) (T : Array Value) (ns : List NdD) (a : Int) (r : Bool) (b : Value) (wr : World) : Prop :=
  ∃ k : Nat, k < ns.length ∧ b = .int .i64 k ∧ decide (a ∈ pathN ns (k : Int)) = r ∧ PaS w T wr

set_option maxHeartbeats 8000000 in
theorem anis_any (ns : List NdD) (hok : TrOK ns) (x y : Int) (v : Value) (w : World) (hN : NodesV w v ns) :
    Calls Try.prog 13 #[.agg #[v], .int .i64 x, .int .i64 y] w fun e w' => e = .returned (.bool (decide (x ∈ pathN ns y))) ∧ Below w.heap.size w w' := by
  obtain ⟨a, cap, rfl, hmx⟩ := hN.shape
  unfold maxLen at hmx
  have HIS := Lib.hid (fun (k : Int) u (hu : Below w.heap.size w u) => ani_any _ ns k u (hN.call hu))
  have HN := Lib.hid hN
  have HOK := Lib.hid hok
  have hi1 : (Try.prog.info? 25).map (·.size) = some 1 := by kernel_rfl
  obtain ⟨m, hm⟩ : ∃ m, Hid (ns.length = m) := ⟨_, Lib.hid rfl⟩
  rw [hm.out] at hmx HIS HN ⊢
  have S0 := Lib.hid (pas_new w #[.slice a m cap] 25)
  by_cases hx : 0 ≤ x ∧ x < m
  case neg =>
    have HX : Hid (decide (0 ≤ x ∧ x < (m : Int)) = false) := decide_eq_false hx
    have HR : Hid (decide (x ∈ pathN ns y) = false) := decide_eq_false fun h => hx (by have := path_le hok h; have := path_node h; rw [hm.out] at this; omega)
    rw [HR.out]
    clear hN hok hx
    go_enter Try.func13, Try.ntmps13
    go_wp2_with (first
        | ((with_reducible refine at_load (.tmp 3) ?_); refine wpList_load_g 25 (.tmp 3) rfl w.heap.size rfl #[.slice a m cap] _ S0.out.t Try.underlying25 rfl hi1 rfl ?_)
        | (go_at_call 30; refine (HIS.out x _ S0.out.b).mono ?_; rintro e w1 ⟨rfl, hb⟩; rw [HX.out]; have S1 := Lib.hid (S0.out.call hb); clear hb))
    go_ret
    exact ⟨rfl, S1.out.b⟩
  have HX : Hid (decide (0 ≤ x ∧ x < (m : Int)) = true) := decide_eq_true hx
  by_cases hy : 0 ≤ y ∧ y < m
  case neg =>
    have HY : Hid (decide (0 ≤ y ∧ y < (m : Int)) = false) := decide_eq_false hy
    have HR : Hid (decide (x ∈ pathN ns y) = false) := decide_eq_false fun h => hy (by have := path_node h; rw [hm.out] at this; omega)
    rw [HR.out]
    clear hN hok hx hy
    go_enter Try.func13, Try.ntmps13
    go_wp2_with (first
        | ((with_reducible refine at_load (.tmp 3) ?_); refine wpList_load_g 25 (.tmp 3) rfl w.heap.size rfl #[.slice a m cap] _ S1.out.t Try.underlying25 rfl hi1 rfl ?_)
        | ((with_reducible refine at_load (.tmp 3) ?_); refine wpList_load_g 25 (.tmp 3) rfl w.heap.size rfl #[.slice a m cap] _ S0.out.t Try.underlying25 rfl hi1 rfl ?_)
        | (go_at_call 30; have _d := S1.out.b; refine (HIS.out y _ S1.out.b).mono ?_; rintro e w2 ⟨rfl, hb⟩; rw [HY.out]; have S2 := Lib.hid (S1.out.call hb); clear hb)
        | (go_at_call 30; refine (HIS.out x _ S0.out.b).mono ?_; rintro e w1 ⟨rfl, hb⟩; rw [HX.out]; have S1 := Lib.hid (S0.out.call hb); clear hb))
    go_ret
    exact ⟨rfl, S2.out.b⟩
  have HY : Hid (decide (0 ≤ y ∧ y < (m : Int)) = true) := decide_eq_true hy
  obtain ⟨r, hr⟩ : ∃ r, Hid (decide (x ∈ pathN ns y) = r) := ⟨_, Lib.hid rfl⟩
  rw [hr.out]
  have HXR := Lib.hid hx
  have HYR := Lib.hid hy
  clear hN hok hx hy
  go_enter Try.func13, Try.ntmps13
  go_wp2_with (first
      | ((with_reducible refine at_load (.tmp 3) ?_); refine wpList_load_g 25 (.tmp 3) rfl w.heap.size rfl #[.slice a m cap] _ S1.out.t Try.underlying25 rfl hi1 rfl ?_)
      | ((with_reducible refine at_load (.tmp 3) ?_); refine wpList_load_g 25 (.tmp 3) rfl w.heap.size rfl #[.slice a m cap] _ S0.out.t Try.underlying25 rfl hi1 rfl ?_)
      | (go_at_call 30; have _d := S1.out.b; refine (HIS.out y _ S1.out.b).mono ?_; rintro e w2 ⟨rfl, hb⟩; rw [HY.out]; have S2 := Lib.hid (S1.out.call hb); clear hb)
      | (go_at_call 30; refine (HIS.out x _ S0.out.b).mono ?_; rintro e w1 ⟨rfl, hb⟩; rw [HX.out]; have S1 := Lib.hid (S0.out.call hb); clear hb))
  go_loopw [2] (fun bv wr => IsaI w #[.slice a m cap] ns x r bv wr) (fun bv _ => (intOf bv).toNat)
  case atStart => exact ⟨y.toNat, by have := HYR.out; rw [hm.out]; omega, by congr 1; have := HYR.out; omega, by rw [Int.toNat_of_nonneg HYR.out.1]; exact hr.out, S2.out⟩
  case round =>
    obtain ⟨k, hkl, rfl, hrr, hs⟩ := hrel
    have S3 := Lib.hid hs
    have HRR := Lib.hid hrr
    clear hs hrr
    have hx0 : 0 ≤ x := HXR.out.1
    have hkm0 : (k : Int) < m := by rw [← hm.out]; omega
    by_cases hgt : x < (k : Int)
    · have hk0 : 0 < k := by omega
      have hkn : k < ns.length := by omega
      obtain ⟨b, off, rfl, hlm, hbb, hna, _⟩ := HN.out.elem hkn
      have HUP := Lib.hid hna.up
      have HSL := Lib.hid hna.bk.slot
      obtain ⟨hu0, hu1, hupp⟩ := up_path HOK.out hkn
      have HST := Lib.hid (isan_step HOK.out hkn hgt)
      have hun := HOK.out.upAt hkn hk0
      obtain ⟨u, hu⟩ : ∃ u, ns[k].up = u := ⟨_, rfl⟩
      obtain ⟨sl, hsl⟩ : ∃ sl, ns[k].b.slot = sl := ⟨_, rfl⟩
      rw [hu] at HUP HST hu0 hu1 hun
      obtain ⟨z, rfl⟩ : ∃ z : Nat, u = z := ⟨upAt ns k, hun.2.2⟩
      have hzl : z < ns.length := by omega
      have HU2 := Lib.hid ((S3.out.b.cell (p := ⟨b, off + k * 240 + 238, none⟩) hbb).trans HUP.out)
      clear hlm hna hu hsl hupp hun HSL
      go_wp2_with (first
          | ((with_reducible refine at_load (.tmp 20) ?_); refine wpList_load_1 23 (.tmp 20) rfl w.heap.size 0 (.slice (some ⟨b, off, none⟩) m cap) (S3.out.t.cell 0) rfl _ Try.underlying23 rfl rfl ?_)
          | ((with_reducible refine at_load (.tmp 24) ?_); refine wpList_load_1 3 (.tmp 24) rfl b (off + k * 240 + 238) (.int .i64 (z : Int)) HU2.out rfl _ Try.underlying3 rfl rfl ?_))
      go_roundw
      case rel => exact ⟨z, hzl, by go_num, by rw [← HST.out]; exact HRR.out, S3.out⟩
      case measure => simp [intOf]; omega
    · have HE := Lib.hid (isan_end HOK.out ⟨Int.natCast_nonneg k, (by omega : (k : Int) < ns.length)⟩ hgt)
      have hgt' : (x < (k : Int)) = False := eq_false hgt
      obtain ⟨q, hq⟩ : ∃ q : Bool, ((k : Int) == x) = q := ⟨_, rfl⟩
      have HQ : Hid (r = q) := by show r = q; rw [← hq, ← HE.out, ← HRR.out]
      clear hgt
      go_wp2_with fail
      go_ret
      exact ⟨by rw [HQ.out]; rfl, S3.out.b⟩
end Go.Proofs.Ytdbkphkgjaecoaa
