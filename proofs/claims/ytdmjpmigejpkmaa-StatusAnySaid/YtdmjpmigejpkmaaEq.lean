/- Equality of two arrays of integers, of any length; of two values of type api.Wide. -/
import Derived.Test.YtdmjpmigejpkmaaWorld
import Derived.Test.YtdmjpmigejpkmaaMath
import Derived.DeepKeys
set_option linter.unusedVariables false
namespace Go.Proofs.Ytdmjpmigejpkmaa
open Go.RowKit

/-- What a call leaves as it was, from the walk's first world on; with new blocks before it. -/
theorem bel0 {w u v : World} (hb : Below w.heap.size w u) (h : Below u.heap.size u v) : Below w.heap.size w v := hb.trans (h.mono hb.size)

theorem bel1 {w u v : World} {o : Obj} (hb : Below w.heap.size w u) (h : Below (u.alloc o).heap.size (u.alloc o) v) : Below w.heap.size w v := bel0 (hb.alloc hb.size _) h

theorem bel2 {w u v : World} {o o' : Obj} (hb : Below w.heap.size w u) (h : Below ((u.alloc o).alloc o').heap.size ((u.alloc o).alloc o') v) : Below w.heap.size w v := bel1 (hb.alloc hb.size _) h

theorem bel3 {w u v : World} {o o' o2 : Obj} (hb : Below w.heap.size w u) (h : Below (((u.alloc o).alloc o').alloc o2).heap.size (((u.alloc o).alloc o').alloc o2) v) : Below w.heap.size w v := bel2 (hb.alloc hb.size _) h

theorem wp_region_fam2 {P : Program} {id : Nat} {Q : Exit → Act → World → Prop} {a : Act} {w : World} {l : List Oper} (hm : P.follows .mixedOrders = true) (hB : Region.lexB .any l.toArray = true)
    (h : ∀ (T : Type) (F : T → World), Nonempty T → (∀ t, Below w.heap.size w (F t)) → (∀ w', Below w.heap.size w w' → ∃ t, w' = F t) →
      wpQuiet P l.toArray (fun w' => ∃ t, w' = F t) (fun a' => ∀ w', (∃ t, w' = F t) → Q .normal a' w') l a) : (Code.region id l.toArray true).wp P Q a w := by
  obtain ⟨T, F, hT, hF, hG⟩ := fam w.heap.size w
  exact wp_region_fam hG hm hB (h T F hT hF hG)

theorem fam_four {T : Type} {F : T → World} {w : World} {b : Nat} {x0 x1 x2 x3 : Value} (hF : ∀ t, Below w.heap.size w (F t)) (h : Blk w b #[x0, x1, x2, x3]) :
    (∀ t, (F t).cell? ⟨b, 0, none⟩ = some x0) ∧ (∀ t, (F t).cell? ⟨b, 1, none⟩ = some x1) ∧ (∀ t, (F t).cell? ⟨b, 2, none⟩ = some x2) ∧ ∀ t, (F t).cell? ⟨b, 3, none⟩ = some x3 :=
  ⟨fun t => (h.call (hF t)).four.1, fun t => (h.call (hF t)).four.2.1, fun t => (h.call (hF t)).four.2.2.1, fun t => (h.call (hF t)).four.2.2.2.1⟩

/-- The results of a function whose first result is an array variable. -/
theorem res_cell_tmp {P : Program} {fn : Func} {p t : Tmp} {ty : TypeId} {d : TypeDesc} {tmps : Array Value} {w : World} {b : Nat} {cs : Array Value} {v : Value} (h : fn.results = #[.cell p ty, .tmp t])
    (hp : tmps.getD p undef = .pointer (some ⟨b, 0, none⟩)) (ht : tmps.getD t undef = v) (hB : Blk w b cs) (hu : P.underlying ty = some d) (hd : (match d with | .struct _ | .array _ _ => true | _ => false) = true) (hi : (P.info? ty).map (·.size) = some cs.size) :
    (results fn tmps).run P w = .ok (.tuple #[.agg cs, v]) w := by
  obtain ⟨t', hg⟩ := hB
  have hp' : tmps[p]?.getD undef = .pointer (some ⟨b, 0, none⟩) := by simpa using hp
  have ht' : tmps[t]?.getD undef = v := by simpa using ht
  simp [results, h, hp', ht', asAddr, run_loadVar_row w b t' ty cs (0, 0) d hg hu hd hi]

theorem res_cell_tmp2 {P : Program} {fn : Func} {p t u : Tmp} {ty : TypeId} {d : TypeDesc} {tmps : Array Value} {w : World} {b : Nat} {cs : Array Value} {v v' : Value} (h : fn.results = #[.cell p ty, .tmp t, .tmp u])
    (hp : tmps.getD p undef = .pointer (some ⟨b, 0, none⟩)) (ht : tmps.getD t undef = v) (hu' : tmps.getD u undef = v') (hB : Blk w b cs) (hu : P.underlying ty = some d) (hd : (match d with | .struct _ | .array _ _ => true | _ => false) = true) (hi : (P.info? ty).map (·.size) = some cs.size) :
    (results fn tmps).run P w = .ok (.tuple #[.agg cs, v, v']) w := by
  obtain ⟨t', hg⟩ := hB
  have hp' : tmps[p]?.getD undef = .pointer (some ⟨b, 0, none⟩) := by simpa using hp
  have ht' : tmps[t]?.getD undef = v := by simpa using ht
  have hv' : tmps[u]?.getD undef = v' := by simpa using hu'
  simp [results, h, hp', ht', hv', asAddr, run_loadVar_row w b t' ty cs (0, 0) d hg hu hd hi]

theorem mapM_some {α β : Type} (g : α → Option β) (h : α → β) : ∀ (l : List α), (∀ x ∈ l, g x = some (h x)) → l.mapM g = some (l.map h)
  | [], _ => rfl
  | x :: l, hall => by
    rw [List.mapM_cons, hall x (by simp), mapM_some g h l (fun y hy => hall y (by simp [hy]))]
    rfl

theorem keyLits_ints {P : Program} {t e : TypeId} {n : Nat} {k : IntKind} (hu : P.underlying t = some (.array n e)) (he : P.underlying e = some (.int k)) (hc : P.cellsOf t = n) (hc1 : P.cellsOf e = 1) (d : Nat) (xs : List Int) (hn : xs.length = n)
    (hw : ∀ x ∈ xs, (Lit.int k x).wf = true) : P.keyLits (d + 2) t (xs.map (Value.int k)) = some (xs.map (Lit.int k)) := by
  unfold Program.keyLits
  simp only [hu, List.length_map, hn, hc, if_true, hc1]
  rw [mapM_some _ (fun i => [Lit.int k (xs.getD i 0)])]
  · simp only [Option.map_some]
    congr 1
    rw [← List.flatMap_def]
    subst hn
    clear hu hc hw
    induction xs with
    | nil => rfl
    | cons x r ih =>
      rw [List.length_cons, List.range_succ_eq_map, List.flatMap_cons, List.flatMap_map]
      simpa using ih
  · intro i hi
    have hi' : i < xs.length := by rw [hn]; simpa using hi
    have e1 : ((xs.map (Value.int k)).drop (i * 1)).take 1 = [Value.int k (xs.getD i 0)] := by
      rw [Nat.mul_one, List.drop_eq_getElem_cons (by simpa using hi')]
      simp [List.getD, List.getElem?_eq_getElem hi']
    rw [e1]
    unfold Program.keyLits
    have hwi : (Lit.int k (xs.getD i 0)).wf = true := by
      apply hw
      simp [List.getD, List.getElem?_eq_getElem hi']
    simp only [he, hwi, and_self, if_true]

/-- Two arrays of n integers: '=='. -/
theorem eq_ints {P : Program} {t e : TypeId} {n : Nat} {k : IntKind} (hk : P.keyTypeAt 2 t = true) (hu : P.underlying t = some (.array n e)) (he : P.underlying e = some (.int k)) (hc : P.cellsOf t = n) (hc1 : P.cellsOf e = 1) (xs ys : List Int) (hn : xs.length = n) (hm : ys.length = n)
    (hw : ∀ x ∈ xs, (Lit.int k x).wf = true) (hv : ∀ x ∈ ys, (Lit.int k x).wf = true) (w : World) :
    Sem.run P (Op.equalIn 10000 t (.agg (xs.map (Value.int k)).toArray) (.agg (ys.map (Value.int k)).toArray)) w = .ok (decide (xs = ys)) w := by
  have hf (zs : List Int) (hz : zs.length = n) : (Value.agg (zs.map (Value.int k)).toArray).formed P t = true := by simp [Value.formed, hu, hz, hc]
  have hcell (zs : List Int) : (Value.agg (zs.map (Value.int k)).toArray).cells.toList = zs.map (Value.int k) := by simp [Value.cells]
  obtain ⟨r, hr, hiff⟩ := run_equalIn_deep (P := P) 9998 2 t hk w 2 2 _ _ _ _ (hf xs hn) (hf ys hm) (by rw [hcell]; exact keyLits_ints hu he hc hc1 0 xs hn hw) (by rw [hcell]; exact keyLits_ints hu he hc hc1 0 ys hm hv)
  have e : r = decide (xs = ys) := by
    rw [Bool.eq_iff_iff, hiff, decide_eq_true_iff]
    constructor
    · intro h
      have := congrArg (List.map fun l => match l with | Lit.int _ x => x | _ => 0) h
      simpa [Function.comp_def] using this
    · rintro rfl; rfl
  rw [← e]
  exact hr

theorem wf_of_u64 {n : Int} (h : 0 ≤ n ∧ n ≤ 18446744073709551615) : (Lit.int .u64 n).wf = true := by
  simpa [Lit.wf, IntKind.min, IntKind.max, IntKind.signed, IntKind.bits] using h

/-- Two numbers of 256 bits are one if their values are. -/
theorem eq_wide {n m : Int} (hn : W256 n) (hm : W256 m) (w : World) : Sem.run Try.prog (Op.equalIn 10000 37 (.agg #[.int .u64 (l0 (n)), .int .u64 (l1 (n)), .int .u64 (l2 (n)), .int .u64 (l3 (n))]) (.agg #[.int .u64 (l0 (m)), .int .u64 (l1 (m)), .int .u64 (l2 (m)), .int .u64 (l3 (m))])) w = .ok (decide (n = m)) w := by
  have hr (z : Int) : ∀ x ∈ [l0 z, l1 z, l2 z, l3 z], (Lit.int .u64 x).wf = true := by
    obtain ⟨p0, p1, p2, p3⟩ := limbs_rng z
    intro x hx
    simp at hx
    rcases hx with rfl | rfl | rfl | rfl <;> exact wf_of_u64 (by assumption)
  have h := eq_ints (P := Try.prog) (t := 37) (e := 29) (n := 4) (k := .u64) (by kernel_rfl) (by kernel_rfl) (by kernel_rfl) (by kernel_rfl) (by kernel_rfl) [l0 n, l1 n, l2 n, l3 n] [l0 m, l1 m, l2 m, l3 m] rfl rfl (hr n) (hr m) w
  have e : decide ([l0 n, l1 n, l2 n, l3 n] = [l0 m, l1 m, l2 m, l3 m]) = decide (n = m) := by
    by_cases hnm : n = m
    · subst hnm; simp
    · rw [decide_eq_false hnm, decide_eq_false]
      intro he
      simp at he
      obtain ⟨p0, p1, p2, p3⟩ := he
      have h1 := limbs_sum hn
      have h2 := limbs_sum hm
      rw [p0, p1, p2, p3, ← h2] at h1
      exact hnm h1
  rw [e] at h
  exact h

theorem eq_wide_zero {n : Int} (hn : W256 n) (w : World) : Sem.run Try.prog (Op.equalIn 10000 37 (.agg #[.int .u64 (l0 (n)), .int .u64 (l1 (n)), .int .u64 (l2 (n)), .int .u64 (l3 (n))]) (.agg #[.int .u64 0, .int .u64 0, .int .u64 0, .int .u64 0])) w = .ok (decide (n = 0)) w := by
  have h := eq_wide hn W256.zero w
  rw [limbs_zero.1, limbs_zero.2.1, limbs_zero.2.2.1, limbs_zero.2.2.2] at h
  exact h
end Go.Proofs.Ytdmjpmigejpkmaa
