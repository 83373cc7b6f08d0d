/- Contract of wide.Greatest over any slice of numbers. -/
import Derived.Test.YtjofmejdabdhcaaWide4
import Derived.Test.YtjofmejdabdhcaaEq
import Derived.Test.YtjofmejdabdhcaaWides
set_option linter.unusedVariables false
namespace Go.Proofs.Ytjofmejdabdhcaa
open Go.RowKit

/-- The greatest of some numbers, 0 without numbers. -/
def bestFrom (c : Int) (ns : List Int) : Int := ns.foldl (fun b x => if b < x then x else b) c
def bestN (ns : List Int) : Int := bestFrom 0 ns

theorem bestFrom_spec : ∀ (ns : List Int) (c : Int), c ≤ bestFrom c ns ∧ (∀ x ∈ ns, x ≤ bestFrom c ns) ∧ (bestFrom c ns = c ∨ bestFrom c ns ∈ ns)
  | [], c => ⟨Int.le_refl _, by simp, .inl rfl⟩
  | y :: ns, c => by
    obtain ⟨h1, h2, h3⟩ := bestFrom_spec ns (if c < y then y else c)
    have e : bestFrom c (y :: ns) = bestFrom (if c < y then y else c) ns := rfl
    rw [e]
    have hm : c ≤ (if c < y then y else c) ∧ y ≤ (if c < y then y else c) := by split <;> omega
    refine ⟨Int.le_trans hm.1 h1, fun x hx => ?_, ?_⟩
    · rcases List.mem_cons.1 hx with rfl | hx
      · exact Int.le_trans hm.2 h1
      · exact h2 x hx
    · rcases h3 with h3 | h3
      · by_cases hc : c < y
        · right; rw [if_pos hc] at h3 ⊢; rw [h3]; simp
        · left; rw [if_neg hc] at h3 ⊢; exact h3
      · right; exact List.mem_cons_of_mem _ h3

theorem bestN_rev (ns : List Int) (h : ∀ x ∈ ns, 0 ≤ x) : bestN ns.reverse = bestN ns := by
  obtain ⟨a1, a2, a3⟩ := bestFrom_spec ns 0
  obtain ⟨b1, b2, b3⟩ := bestFrom_spec ns.reverse 0
  unfold bestN
  have h1 : bestFrom 0 ns.reverse ≤ bestFrom 0 ns := by
    rcases b3 with e | e
    · rw [e]; exact a1
    · exact a2 _ (by simpa using e)
  have h2 : bestFrom 0 ns ≤ bestFrom 0 ns.reverse := by
    rcases a3 with e | e
    · rw [e]; exact b1
    · exact b2 _ (by simpa using e)
  omega

theorem bestN_snoc (ns : List Int) (x : Int) : bestN (ns ++ [x]) = if bestN ns < x then x else bestN ns := by
  unfold bestN bestFrom; rw [List.foldl_append]; rfl

theorem bestN_take {ns : List Int} {k : Nat} (h : k < ns.length) : bestN (ns.take (k + 1)) = if bestN (ns.take k) < ns.getD k 0 then ns.getD k 0 else bestN (ns.take k) := by
  rw [← bestN_snoc, List.take_add_one]
  congr 2
  simp [List.getD, List.getElem?_eq_getElem h]

theorem bestN_rng {ns : List Int} (h : Nums ns) : W256 (bestN ns) := by
  obtain ⟨a1, a2, a3⟩ := bestFrom_spec ns 0
  rcases a3 with e | e
  · unfold bestN; rw [e]; exact W256.zero
  · exact h _ e

def GreI (w : World) (ns : List Int) (i : Value) (wr : World) : Prop :=
  ∃ (k : Nat), k ≤ ns.length ∧ i = .int .i64 k ∧ Below w.heap.size w wr ∧ w.heap.size + 2 ≤ wr.heap.size ∧ Blk wr w.heap.size #[.int .u64 0, .int .u64 0, .int .u64 0, .int .u64 0] ∧
    Blk wr (w.heap.size + 1) #[.int .u64 (l0 (bestN (ns.take k))), .int .u64 (l1 (bestN (ns.take k))), .int .u64 (l2 (bestN (ns.take k))), .int .u64 (l3 (bestN (ns.take k)))]

theorem res_cell {P : Program} {fn : Func} {p : Tmp} {ty : TypeId} {d : TypeDesc} {tmps : Array Value} {w : World} {b : Nat} {cs : Array Value} (h : fn.results = #[.cell p ty])
    (hp : tmps.getD p undef = .pointer (some ⟨b, 0, none⟩)) (hB : Blk w b cs) (hu : P.underlying ty = some d) (hd : (match d with | .struct _ | .array _ _ => true | _ => false) = true) (hi : (P.info? ty).map (·.size) = some cs.size) :
    (results fn tmps).run P w = .ok (.agg cs) w := by
  obtain ⟨t', hg⟩ := hB
  exact results_cell_row h tmps w b t' cs (0, 0) d hp hg hu hd hi

set_option maxHeartbeats 2000000 in
theorem greatest_row (b off len cap : Nat) (ns : List Int) (w : World) (h : Wides w (.slice (some ⟨b, off, none⟩) len cap) ns) (hr : Nums ns) (hpos : 0 < len) :
    Calls Try.prog 24 #[.slice (some ⟨b, off, none⟩) len cap] w fun e w' => e = .returned (.agg #[.int .u64 (l0 (bestN ns)), .int .u64 (l1 (bestN ns)), .int .u64 (l2 (bestN ns)), .int .u64 (l3 (bestN ns))]) ∧ Below w.heap.size w w' := by
  have hmx : len ≤ 9223372036854775807 := by
    obtain ⟨a', l', c', e, _, hm, _⟩ := h; cases e; unfold maxLen at hm; omega
  have hnl : ns.length = len := by
    obtain ⟨a', l', c', e, hl, _, _⟩ := h; cases e; exact hl
  have HN := Lib.hid hnl; clear hnl
  go_enter Try.func24, Try.ntmps24
  go_wp2_with fail
  go_loopw [9] (fun i wr => GreI w ns i wr) (fun i _ => len - (intOf i).toNat)
  case atStart =>
    refine ⟨0, Nat.zero_le _, rfl, ((Below.refl _ _).alloc (Nat.le_refl _) _).alloc (by simp) _, by simp, (Blk.new rfl).alloc _, ?_⟩
    have e : bestN (ns.take 0) = 0 := by simp [bestN, bestFrom]
    rw [e, limbs_zero.1, limbs_zero.2.1, limbs_zero.2.2.1, limbs_zero.2.2.2]; exact Blk.new (by simp)
  case round =>
    obtain ⟨k, hk, rfl, hb, hsz, bR, bT⟩ := hrel
    rw [HN.out] at hk
    obtain ⟨s, HSk⟩ : ∃ s, Hid (s = bestN (ns.take k)) := ⟨_, rfl⟩
    rw [← HSk.out] at bT
    have hsW : W256 s := by rw [HSk.out]; exact bestN_rng (fun x hx => hr x (List.mem_of_mem_take hx))
    have hT := bT.lt
    obtain ⟨t0, t1, t2, t3, t4⟩ := bT.four
    obtain ⟨z0, z1, z2, z3, z4⟩ := bR.four
    by_cases hlt : k < len
    · have hI := h.below hb
      obtain ⟨a', l', c', e, _, _, hc⟩ := hI
      cases e
      rcases hc with h0 | ⟨b', off', e, hblt, hc⟩
      · omega
      cases e
      have HB := Lib.hid (bestN_take (ns := ns) (k := k) (by rw [HN.out]; exact hlt))
      obtain ⟨x, HX⟩ : ∃ x, Hid (x = ns.getD k 0) := ⟨_, rfl⟩
      obtain ⟨g0, g1, g2, g3⟩ := hc k hlt
      rw [← HX.out] at g0 g1 g2 g3
      have hb' := HB.out
      rw [← HX.out, ← HSk.out] at hb'
      have HB := Lib.hid hb'; clear hb'
      have hxW := hr.at (k := k) (by rw [HN.out]; exact hlt)
      rw [← HX.out] at hxW
      clear hc h
      have D := wcmp_any x s hxW hsW
      by_cases hgt : s < x
      · have e1 : cmpN x s = 1 := by unfold cmpN; rw [if_neg (by omega), if_pos hgt]
        have HB2 := Lib.hid (HB.out.trans (if_pos hgt))
        rw [e1] at D
        have D := Lib.hid D
        clear e1 hgt
        go_wp2_with (go_at_call 14; refine (D.out _).mono ?_; rintro e w1 ⟨rfl, hb1⟩; obtain ⟨t0, t1, t2, t3, t4⟩ := ((bT.alloc _).call hb1).four; obtain ⟨y0, y1, y2, y3, y4⟩ := (Blk.call hb1 (Blk.new rfl)).four; have hT1 := ((bT.alloc _).call hb1).lt)
        go_roundw
        case rel =>
          have hb2 := bel1 hb hb1
          refine ⟨k + 1, by rw [HN.out]; omega, by go_num, below_store4 hb2 (by omega), ?_, ((bR.alloc _).call hb1).store4_other (by omega), ?_⟩
          · rw [size_store4]; omega
          · rw [HB2.out]; exact ((bT.alloc _).call hb1).store4
        case measure => simp [intOf]; omega
      · obtain ⟨c, hcm⟩ : ∃ c, cmpN x s = c := ⟨_, rfl⟩
        have hc0 : c ≤ 0 := by rw [← hcm]; unfold cmpN; rw [if_neg hgt]; split <;> omega
        have HB2 := Lib.hid (HB.out.trans (if_neg hgt))
        rw [hcm] at D
        have D := Lib.hid D
        clear hcm hgt
        go_wp2_with (go_at_call 14; refine (D.out _).mono ?_; rintro e w1 ⟨rfl, hb1⟩)
        go_roundw
        case rel =>
          have hb2 := bel1 hb hb1
          exact ⟨k + 1, by rw [HN.out]; omega, by go_num, hb2, by have := hb1.size; simp at this; omega, (bR.alloc _).call hb1, by rw [HB2.out]; exact (bT.alloc _).call hb1⟩
        case measure => simp [intOf]; omega
    · have HE := Lib.hid (show bestN ns = s by rw [HSk.out, List.take_of_length_le (by rw [HN.out]; omega)])
      go_wp2_with fail
      refine bodyPost_ret (res_cell rfl rfl bR.store4 Try.underlying24 rfl (by kernel_rfl)) rfl ⟨by rw [HE.out], ?_⟩
      exact below_store4 hb (by omega)

set_option maxHeartbeats 1000000 in
theorem greatest_nil (a : Option Addr) (cap : Nat) (w : World) :
    Calls Try.prog 24 #[.slice a 0 cap] w fun e w' => e = .returned (.agg #[.int .u64 (l0 (0)), .int .u64 (l1 (0)), .int .u64 (l2 (0)), .int .u64 (l3 (0))]) ∧ Below w.heap.size w w' := by
  rw [limbs_zero.1, limbs_zero.2.1, limbs_zero.2.2.1, limbs_zero.2.2.2]
  go_enter Try.func24, Try.ntmps24
  go_wp2_with fail
  refine wp_loop_rounds 1 ?_
  rw [rounds_succ]
  go_wp2_with fail
  refine bodyPost_ret (v := .agg #[.int .u64 0, .int .u64 0, .int .u64 0, .int .u64 0]) (by simp [results, Try.results24, go_sem]) rfl ⟨rfl, ?_⟩
  exact ((Below.refl _ _).alloc (Nat.le_refl _) _).alloc (by simp) _

theorem greatest_any (v : Value) (ns : List Int) (w : World) (h : Wides w v ns) (hr : Nums ns) :
    Calls Try.prog 24 #[v] w fun e w' => e = .returned (.agg #[.int .u64 (l0 (bestN ns)), .int .u64 (l1 (bestN ns)), .int .u64 (l2 (bestN ns)), .int .u64 (l3 (bestN ns))]) ∧ Below w.heap.size w w' := by
  have h' := h
  obtain ⟨a, len, cap, rfl, hl, hm, h0⟩ := h
  by_cases hz : len = 0
  · subst hz
    obtain rfl := List.eq_nil_of_length_eq_zero hl
    exact greatest_nil a cap w
  · rcases h0 with h0 | ⟨b, off, rfl, _, _⟩
    · exact absurd h0 hz
    · exact greatest_row b off len cap ns w h' hr (by omega)

end Go.Proofs.Ytjofmejdabdhcaa
