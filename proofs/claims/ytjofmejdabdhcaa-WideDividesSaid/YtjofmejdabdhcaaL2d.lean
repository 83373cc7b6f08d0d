/- Stage 2: the walk of WideDivides. -/
import Derived.Test.YtjofmejdabdhcaaAwake2
import Derived.Test.YtjofmejdabdhcaaWide2
import Derived.Test.YtjofmejdabdhcaaWide3
import Derived.Test.YtjofmejdabdhcaaEq
import Derived.Test.YtjofmejdabdhcaaOpen
import Derived.Deep.RegionHeld3
set_option linter.unusedVariables false
namespace Go.Proofs.Ytjofmejdabdhcaa
open Go.RowKit

theorem wide_of {xs : List Int} (h : xs.length = 4 ∧ ∀ x ∈ xs, (Lit.int .u64 x).wf = true) : ∃ n, W256 n ∧ Value.agg (xs.map (Value.int .u64)).toArray = .agg #[.int .u64 (l0 (n)), .int .u64 (l1 (n)), .int .u64 (l2 (n)), .int .u64 (l3 (n))] := by
  obtain ⟨hl, hw⟩ := h
  match xs, hl with
  | [a, b, c, d], _ =>
    have ha := wf_u64 (hw a (by simp))
    have hb := wf_u64 (hw b (by simp))
    have hc := wf_u64 (hw c (by simp))
    have hd := wf_u64 (hw d (by simp))
    obtain ⟨h, h0, h1, h2, h3⟩ := limbs_of ha hb hc hd rfl
    exact ⟨_, h, by rw [h0, h1, h2, h3]; rfl⟩

/-- What a region that draws its order keeps: the walk's first world below its heap, a block, and the cells of an array of four. -/
def SW (w0 : World) (bn : Nat) (cs : Array Value) (b : Nat) (x0 x1 x2 x3 : Value) (u : World) : Prop :=
  (Below w0.heap.size w0 u ∧ Blk u bn cs) ∧ u.cell? ⟨b, 0, none⟩ = some x0 ∧ u.cell? ⟨b, 1, none⟩ = some x1 ∧ u.cell? ⟨b, 2, none⟩ = some x2 ∧ u.cell? ⟨b, 3, none⟩ = some x3
section
variable {w0 : World} {bn : Nat} {cs : Array Value} {b : Nat} {x0 x1 x2 x3 : Value} {u v : World}
theorem SW.alloc (h : SW w0 bn cs b x0 x1 x2 x3 u) (o : Obj) : SW w0 bn cs b x0 x1 x2 x3 (u.alloc o) := by
  obtain ⟨⟨h0, hB⟩, h1, h2, h3, h4⟩ := h
  have e (j : Nat) (v : Value) (hv : u.cell? ⟨b, j, none⟩ = some v) : (u.alloc o).cell? ⟨b, j, none⟩ = some v := by
    rw [World.cell?_alloc_some _ _ _ (by rw [hv]; rfl)]; exact hv
  exact ⟨⟨h0.alloc h0.size _, hB.alloc _⟩, e _ _ h1, e _ _ h2, e _ _ h3, e _ _ h4⟩
theorem SW.call (h : SW w0 bn cs b x0 x1 x2 x3 u) (hb : Below u.heap.size u v) : SW w0 bn cs b x0 x1 x2 x3 v := by
  obtain ⟨⟨h0, hB⟩, h1, h2, h3, h4⟩ := h
  have e (j : Nat) (y : Value) (hv : u.cell? ⟨b, j, none⟩ = some y) : v.cell? ⟨b, j, none⟩ = some y := by
    rw [hb.cell (cell_lt hv)]; exact hv
  exact ⟨⟨bel0 h0 hb, hB.call hb⟩, e _ _ h1, e _ _ h2, e _ _ h3, e _ _ h4⟩
theorem SW.drew (h : SW w0 bn cs b x0 x1 x2 x3 u) : SW w0 bn cs b x0 x1 x2 x3 u.drew := ⟨⟨h.1.1.drew, h.1.2⟩, h.2⟩
theorem SW.realloc {c c' : Array Value} {t t' : TypeId} (h : SW w0 bn cs b x0 x1 x2 x3 (u.alloc (.cells c t))) (h1 : bn < u.heap.size) (h2 : b < u.heap.size) (h3 : w0.heap.size ≤ u.heap.size) : SW w0 bn cs b x0 x1 x2 x3 (u.alloc (.cells c' t')) := by
  obtain ⟨⟨h0, tB, hB⟩, g1, g2, g3, g4⟩ := h
  have hk (k : Nat) (hk : k < u.heap.size) : (u.alloc (.cells c' t')).heap[k]? = (u.alloc (.cells c t)).heap[k]? := by rw [Below.heap_alloc _ _ _ hk, Below.heap_alloc _ _ _ hk]
  have e (j : Nat) : (u.alloc (.cells c' t')).cell? ⟨b, j, none⟩ = (u.alloc (.cells c t)).cell? ⟨b, j, none⟩ := World.cell?_of_block (hk b h2)
  exact ⟨⟨⟨h0.os, h0.tape, h0.output, by have := h0.size; simpa using this, fun k hk' => by rw [hk k (by omega)]; exact h0.block k hk'⟩, tB, by rw [hk bn h1]; exact hB⟩, (e 0).trans g1, (e 1).trans g2, (e 2).trans g3, (e 3).trans g4⟩
theorem SW.store (h : SW w0 bn cs b x0 x1 x2 x3 u) {c : Nat} (h1 : bn < c) (h2 : b < c) (h3 : w0.heap.size ≤ c) (v0 v1 v2 v3 : Value) :
    SW w0 bn cs b x0 x1 x2 x3 ((((u.setCell ⟨c, 0, none⟩ v0).setCell ⟨c, 1, none⟩ v1).setCell ⟨c, 2, none⟩ v2).setCell ⟨c, 3, none⟩ v3) := by
  obtain ⟨⟨h0, hB⟩, g1, g2, g3, g4⟩ := h
  have e (j : Nat) (y : Value) (hv : u.cell? ⟨b, j, none⟩ = some y) : ((((u.setCell ⟨c, 0, none⟩ v0).setCell ⟨c, 1, none⟩ v1).setCell ⟨c, 2, none⟩ v2).setCell ⟨c, 3, none⟩ v3).cell? ⟨b, j, none⟩ = some y := by
    have hne : ∀ i : Nat, (⟨c, i, none⟩ : Addr) ≠ ⟨b, j, none⟩ := fun i he => by injection he with h1; omega
    rw [World.cell?_setCell_other _ _ _ _ (hne 3), World.cell?_setCell_other _ _ _ _ (hne 2), World.cell?_setCell_other _ _ _ _ (hne 1), World.cell?_setCell_other _ _ _ _ (hne 0)]; exact hv
  exact ⟨⟨below_store4 h0 h3, hB.store4_other (by omega)⟩, e _ _ g1, e _ _ g2, e _ _ g3, e _ _ g4⟩
end

theorem blk_drew {w : World} {b : Nat} {cs : Array Value} (h : Blk w b cs) : Blk w.drew b cs := h

set_option maxHeartbeats 2000000 in
theorem divides_any (n k : Int) (hn : W256 n) (hk0 : 0 ≤ k) (hk2 : k ≤ 18446744073709551615) (w : World) :
    Calls Try.prog 5 #[.agg #[.int .u64 (l0 (n)), .int .u64 (l1 (n)), .int .u64 (l2 (n)), .int .u64 (l3 (n))], .int .u64 k] w fun e w' => e = .returned (.bool true) ∧ Below w.heap.size w w' := by
  by_cases hk : k = 0
  · subst hk
    go_enter Try.func5, Try.ntmps5
    go_wp2_with (go_at_call 17; refine (awake2 _).mono ?_; rintro e w1 ⟨rfl, hb1⟩)
    go_ret
    exact ⟨rfl, bel1 (Below.refl _ _) hb1⟩
  · have hkp : 0 < k := by omega
    obtain ⟨q, hq⟩ : ∃ q, q = n / k := ⟨_, rfl⟩
    obtain ⟨r, hr⟩ : ∃ r, r = n % k := ⟨_, rfl⟩
    have hqr := Int.mul_ediv_add_emod n k
    rw [← hq, ← hr, Int.mul_comm] at hqr
    have hr0 : 0 ≤ r := by rw [hr]; exact Int.emod_nonneg _ (by omega)
    have hrk : r < k := by rw [hr]; exact Int.emod_lt_of_pos _ hkp
    have hq0 : 0 ≤ q := by rw [hq]; exact Int.ediv_nonneg hn.1 (by omega)
    have hqn : q ≤ n := by rw [hq]; exact Int.ediv_le_self _ hn.1
    have hqW : W256 q := ⟨hq0, by have := hn.2; omega⟩
    have hp0 : 0 ≤ q * k := Int.mul_nonneg hq0 hk0
    have hpW : W256 (q * k) := ⟨hp0, by have := hn.2; omega⟩
    have hrW : W256 r := ⟨hr0, by omega⟩
    have D1 := div_any n k hn hk0 hk2
    have D2 := mul_any q k hqW hk0 hk2
    have D3 := from_any r hr0 (by omega)
    have D4 := wadd_any (q * k) r hpW hrW
    have z1 : divQ n k = q := by rw [hq]; exact if_neg hk
    have z2 : divR n k = r := by rw [hr]; exact if_neg hk
    have z3 : divE k = 0 := if_neg hk
    have z4 : madN q k 0 = q * k := by unfold madN; rw [if_pos (by have := hpW.2; omega)]; omega
    have z5 : madF q k 0 = 0 := by unfold madF; rw [if_pos (by have := hpW.2; omega)]
    have z6 : addN (q * k) r = n := by unfold addN; rw [if_pos (by have := hn.2; omega)]; exact hqr
    have z7 : addF (q * k) r = 0 := by unfold addF; rw [if_pos (by have := hn.2; omega)]
    rw [z1, z2, z3] at D1
    rw [z4, z5] at D2
    rw [z6, z7] at D4
    obtain ⟨p, hp⟩ : ∃ p, q * k = p := ⟨_, rfl⟩
    rw [hp] at D2 D4
    clear z1 z2 z3 z4 z5 z6 z7 hq hr hqr hqn hp0 hpW hp
    have heq := eq_wide hn hn
    have H1 := Lib.hid D1; clear D1
    have H2 := Lib.hid D2; clear D2
    have H3 := Lib.hid D3; clear D3
    have H4 := Lib.hid D4; clear D4
    have hb := Below.refl w.heap.size w
    have bN : Blk (w.alloc (.cells #[.int .u64 (l0 n), .int .u64 (l1 n), .int .u64 (l2 n), .int .u64 (l3 n)] 24)) w.heap.size #[.int .u64 (l0 n), .int .u64 (l1 n), .int .u64 (l2 n), .int .u64 (l3 n)] := Blk.new rfl
    go_enter Try.func5, Try.ntmps5
    go_wp2_with (first
      | (go_at_call 20; refine (H1.out _).mono ?_; rintro e w1 ⟨rfl, hb1⟩; replace bN := bN.call hb1; replace hb := bel1 hb hb1; clear hb1)
      | (go_at_call 18; refine (H2.out _).mono ?_; rintro e w2 ⟨rfl, hb2⟩; replace bN := (bN.alloc _).call hb2; replace hb := bel1 hb hb2; clear hb2))
    have hsz : w.heap.size < w2.heap.size := bN.lt
    have hS : SW w w.heap.size #[.int .u64 (l0 n), .int .u64 (l1 n), .int .u64 (l2 n), .int .u64 (l3 n)] w2.heap.size (.int .u64 (l0 p)) (.int .u64 (l1 p)) (.int .u64 (l2 p)) (.int .u64 (l3 p))
        (w2.alloc (.cells #[.int .u64 (l0 p), .int .u64 (l1 p), .int .u64 (l2 p), .int .u64 (l3 p)] 24)) := by
      have c := (Blk.new (w := w2) (t := 24) (cs := #[.int .u64 (l0 p), .int .u64 (l1 p), .int .u64 (l2 p), .int .u64 (l3 p)]) rfl).four
      exact ⟨⟨hb.alloc hb.size _, bN.alloc _⟩, c.1, c.2.1, c.2.2.1, c.2.2.2.1⟩
    have HS := Lib.hid hS; clear hS
    have HB := Lib.hid hb; clear hb
    have HN := Lib.hid bN; clear bN
    go_region_held3 (fun u => (Below w.heap.size w u ∧ Blk u w.heap.size #[.int .u64 (l0 n), .int .u64 (l1 n), .int .u64 (l2 n), .int .u64 (l3 n)]) ∧ u.cell? ⟨w2.heap.size, 0, none⟩ = some (.int .u64 (l0 p)) ∧ u.cell? ⟨w2.heap.size, 1, none⟩ = some (.int .u64 (l1 p)) ∧ u.cell? ⟨w2.heap.size, 2, none⟩ = some (.int .u64 (l2 p)) ∧ u.cell? ⟨w2.heap.size, 3, none⟩ = some (.int .u64 (l3 p)))
      (first | exact HS.out.drew | exact SW.alloc (by assumption) _ | exact SW.call (by assumption) (by assumption) | exact SW.realloc (by assumption) (by omega) (by omega) (by omega) | exact SW.store (by assumption) (by omega) (by omega) (by omega) _ _ _ _)
      (first
        | (go_at_call 16; refine (H3.out _).mono ?_; rintro e u1 ⟨rfl, hb3⟩; have q3 : w2.heap.size < u1.heap.size := (by have := hb3.size; first | omega | (simp at this; omega) | (simp [World.drew] at this; omega)); (try (have bT := Blk.call hb3 (blk_drew (Blk.new (n := w2.heap.size + 1) (by rw [World.size_alloc]))))))
        | (go_at_call 10; refine (H4.out _).mono ?_; rintro e u2 ⟨rfl, hb4⟩; have q4 : w2.heap.size < u2.heap.size := (by have := hb4.size; first | omega | (simp at this; omega) | (simp [World.drew] at this; omega)); first | (have bT2 := Blk.call hb4 bT; obtain ⟨t0, t1, t2, t3, t4⟩ := bT2.four) | (have bT2 := Blk.call hb4 (Blk.new rfl); obtain ⟨t0, t1, t2, t3, t4⟩ := bT2.four) | skip))
    all_goals
      rename_i hF
      obtain ⟨n0, n1, n2, n3, n4⟩ := hF.1.2.four
      have hF2 := Lib.hid hF.1.1
      clear hF
      go_wp2_with (go_at_call 17; refine (awake2 _).mono ?_; rintro e w9 ⟨rfl, hb9⟩)
      go_ret
      exact ⟨rfl, bel0 hF2.out hb9⟩

theorem walk_WideDivides (a0 : List Int) (a1 : Int) (w : World) (w0 : a0.length = 4 ∧ ∀ x ∈ a0, (Lit.int .u64 x).wf = true) (w1 : (Lit.int .u64 a1).wf = true) :
    Calls Try.prog 5 #[.agg (a0.map (Value.int .u64)).toArray, .int .u64 a1] w fun e w' => e = .returned (.bool true) ∧ Below w.heap.size w w' := by
  obtain ⟨n, hn, e⟩ := wide_of w0
  rw [e]
  exact divides_any n a1 hn (wf_u64 w1).1 (wf_u64 w1).2 w

end Go.Proofs.Ytjofmejdabdhcaa
