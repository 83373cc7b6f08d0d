/- Roots as elements of a slice: slices.Clone, slices.SortFunc and slices.Contains at []api.Root. -/
import Derived.Test.YtjlfacdmfcbjfaaSl
import Derived.Test.YtjlfacdmfcbjfaaCmp
import Derived.Test.YtjlfacdmfcbjfaaRow2
import Derived.Test.YtjlfacdmfcbjfaaAwake3
import Derived.Lib.SlicesCompact
import Derived.Lib.OwnBridge
import Derived.Shelf.SlSortFuncK.ComposeK
set_option linter.unusedVariables false
namespace Go.Proofs.Ytjlfacdmfcbjfaa
open Go.RowKit Go.Shelf Go.Sort

/-- A root: its 32 bytes. -/
def Rt : Type := {xs : List Int // IsBytes 32 xs}
instance : Inhabited Rt := ⟨⟨zero32', zero32'_is⟩⟩
instance : DecidableEq Rt := inferInstanceAs (DecidableEq {xs : List Int // IsBytes 32 xs})
def encR (r : Rt) : List Value := r.1.map (Value.int .u8)
theorem encR_len (r : Rt) : (encR r).length = 32 := by simp [encR, r.2.1]
theorem encR_one (r : Rt) : ∀ v ∈ encR r, v.oneCell' = true := by
  intro v hv
  obtain ⟨x, _, rfl⟩ := List.mem_map.1 hv
  rfl
def cfR (x y : Rt) : Int := cmpB x.1 y.1

theorem Rt.ext {x y : Rt} (h : x.1 = y.1) : x = y := Subtype.ext h
theorem Rt.len2 (x y : Rt) : x.1.length = y.1.length := by rw [x.2.1, y.2.1]

theorem ltR_true {x y : Rt} : ltOf cfR x y = true ↔ cmpB x.1 y.1 < 0 := decide_eq_true_iff
theorem ltR_false {x y : Rt} : ltOf cfR x y = false ↔ ¬ cmpB x.1 y.1 < 0 := decide_eq_false_iff_not

theorem cfR_swo : SWO (ltOf cfR) where
  irrefl x := by
    have := (cmpB_zero x.1 x.1 rfl).2 rfl
    rw [ltR_false]; omega
  trans x y z h1 h2 := by
    rw [ltR_true] at *
    have a := cmpB_trans x.1 y.1 z.1 (x.len2 y) (y.len2 z) (by omega) (by omega)
    have b := cmpB_trans z.1 x.1 y.1 (z.len2 x) (x.len2 y)
    have c := cmpB_anti x.1 z.1 (x.len2 z)
    have d := cmpB_anti y.1 z.1 (y.len2 z)
    rcases Int.lt_or_eq_of_le a with a | a
    · exact a
    · have e := cmpB_trans z.1 x.1 y.1 (z.len2 x) (x.len2 y) (by omega) (by omega)
      omega
  ntrans x y z h1 h2 := by
    rw [ltR_false] at *
    have a := cmpB_trans z.1 y.1 x.1 (z.len2 y) (y.len2 x)
    have b := cmpB_anti x.1 y.1 (x.len2 y)
    have c := cmpB_anti y.1 z.1 (y.len2 z)
    have d := cmpB_anti x.1 z.1 (x.len2 z)
    omega

theorem cfR_total (x y : Rt) (h1 : ltOf cfR x y = false) (h2 : ltOf cfR y x = false) : x = y := by
  rw [ltR_false] at *
  have b := cmpB_anti x.1 y.1 (x.len2 y)
  exact Rt.ext ((cmpB_zero x.1 y.1 (x.len2 y)).1 (by omega))

/-- bytes.Compare draws at most. -/
theorem bcmp_same (w : World) (b1 b2 c1 c2 : Nat) (xs ys : List Int) (hx : IsBytes 32 xs) (hy : IsBytes 32 ys) (h1 : Blk w b1 (bytesV xs)) (h2 : Blk w b2 (bytesV ys)) :
    Calls Try.prog 60 #[.slice (some ⟨b1, 0, none⟩) 32 c1, .slice (some ⟨b2, 0, none⟩) 32 c2] w fun e w' => e = .returned (.int .i64 (cmpB xs ys)) ∧ w' = w := by
  have hext : (callFunc 66 #[.slice (some ⟨b1, 0, none⟩) 32 c1, .slice (some ⟨b2, 0, none⟩) 32 c2]).run Try.prog w = .ok (.value (.int .i64 (cmpB xs ys))) w := by
    rw [run_callFunc_extern Try.func66 (by kernel_rfl) (by kernel_rfl) (by kernel_rfl) (e := Extern.BytealgCompare.compare) (by kernel_rfl), run_compare w b1 b2 c1 c2 xs ys hx hy h1 h2]
    simp only [Result.andThen]
  obtain ⟨r, hr⟩ : ∃ r, cmpB xs ys = r := ⟨_, rfl⟩
  rw [hr] at hext ⊢
  clear hr h1 h2
  go_enter Try.func60, Try.ntmps60
  go_wp2_with fail
  go_ret
  exact ⟨rfl, rfl⟩

set_option maxHeartbeats 1000000 in
/-- roots.Compare lays its two parameters and draws. -/
theorem rcmp_grow (x y : Rt) (w : World) :
    Calls Try.prog 50 #[.agg (encR x).toArray, .agg (encR y).toArray] w fun e w' => e = .returned (.int .i64 (cfR x y)) ∧ ∃ q os', w' = grow (w.drewN q) os' := by
  obtain ⟨X, HX⟩ : ∃ X, (encR x).toArray = X := ⟨_, rfl⟩
  obtain ⟨Y, HY⟩ : ∃ X, (encR y).toArray = X := ⟨_, rfl⟩
  have HBC := Lib.hid (fun (u : World) (h1 : Blk u w.heap.size X) (h2 : Blk u (w.heap.size + 1) Y) => bcmp_same u w.heap.size (w.heap.size + 1) 32 32 x.1 y.1 x.2 y.2 (by rw [← HX] at h1; exact h1) (by rw [← HY] at h2; exact h2))
  rw [HX, HY]
  have BX := Lib.hid (fun q => show Blk (((w.alloc (.cells X 25)).alloc (.cells Y 25)).drewN q) w.heap.size X from ((Blk.new rfl).alloc _).call (Below.drewN (Below.refl _ _)))
  have BY := Lib.hid (fun q => show Blk (((w.alloc (.cells X 25)).alloc (.cells Y 25)).drewN q) (w.heap.size + 1) Y from (Blk.new (by simp)).call (Below.drewN (Below.refl _ _)))
  unfold cfR
  obtain ⟨r, hr⟩ : ∃ r, cmpB x.1 y.1 = r := ⟨_, rfl⟩
  rw [hr] at HBC ⊢
  clear hr HX HY
  have ha : Try.prog.arrayLen 25 = 32 := by kernel_rfl
  go_enter Try.func50, Try.ntmps50
  go_wp2_with fail
  go_quiet ((go_at_call 60; exact (HBC.out _ (BX.out _) (BY.out _)).mono fun _ _ h => ⟨h.1, _, h.2⟩))
  go_wp2_with fail
  go_ret
  exact ⟨rfl, nq, _, by rw [alloc_eq_grow, alloc_eq_grow, grow_grow]; rfl⟩

theorem below_grow {N : Nat} {w0 w : World} (h : Below N w0 w) (hN : N ≤ w.heap.size) (os : Array Obj) (q : Nat) : Below N w0 (grow (w.drewN q) os) :=
  ⟨h.os, h.tape, h.output, by rw [size_grow]; exact Nat.le_trans h.size (Nat.le_add_right _ _), fun k hk => by
    rw [heap_grow_old _ _ (show k < (w.drewN q).heap.size from Nat.lt_of_lt_of_le hk hN)]; exact h.block k hk⟩

/-- Roots lie in a block, one behind the other. -/
def RootsAt (w : World) (b off : Nat) (d : List Rt) : Prop := ∀ j, j < d.length → w.rangeAt b (off + j * 32) (encR d[j]!)

/-- A value that is a slice of these roots. -/
def Rts (w : World) (v : Value) (d : List Rt) : Prop :=
  ∃ a len cap, v = .slice a len cap ∧ d.length = len ∧ len ≤ maxLen ∧ (len = 0 ∨ ∃ b off, a = some ⟨b, off, none⟩ ∧ b < w.heap.size ∧ RootsAt w b off d)

theorem RootsAt.below {w w' : World} {b off : Nat} {d : List Rt} (h : RootsAt w b off d) (hlt : b < w.heap.size) (hb : Below w.heap.size w w') : RootsAt w' b off d := fun j hj i v hv => by
  rw [hb.cell (p := ⟨b, off + j * 32 + i, none⟩) hlt]
  exact h j hj i v hv

theorem Rts.below {w w' : World} {v : Value} {d : List Rt} (h : Rts w v d) (hb : Below w.heap.size w w') : Rts w' v d := by
  obtain ⟨a, len, cap, rfl, hl, hm, h0⟩ := h
  refine ⟨a, len, cap, rfl, hl, hm, ?_⟩
  rcases h0 with h0 | ⟨b, off, rfl, hlt, hc⟩
  · exact .inl h0
  · exact .inr ⟨b, off, rfl, Nat.lt_of_lt_of_le hlt hb.size, hc.below hlt hb⟩

theorem take_all {w : World} {b : Nat} {vs : List Value} {o : Nat} : Upd b w (w.setCells b o vs) := by
  induction vs generalizing o w with
  | nil => exact ⟨rfl, rfl, rfl, rfl, fun _ _ => rfl⟩
  | cons v r ih =>
    have h3 := ih (w := w.setCell ⟨b, o, none⟩ v) (o := o + 1)
    exact ⟨h3.os, h3.tape, h3.output, by rw [World.setCells, h3.size]; simp [World.setCell], fun k hk => by
      show (World.setCells (w.setCell ⟨b, o, none⟩ v) b (o + 1) r).heap[k]? = _
      rw [h3.block k hk, Below.heap_setCell _ _ _ _ hk]⟩

theorem encR_get (r : Rt) {i : Nat} (h : i < 32) : (encR r)[i]? = some (encR r)[i]! := by
  rw [List.getElem!_eq_getElem?_getD, List.getElem?_eq_getElem (by rw [encR_len]; exact h)]; rfl

/-- The roots' cells in one list. -/
def flatR (d : List Rt) : List Value := (flatK encR 32 d.toArray).toList
theorem flatR_len (d : List Rt) : (flatR d).length = d.length * 32 := by simp [flatR]
theorem flatR_at (d : List Rt) {j : Nat} (h : j < d.length * 32) : (flatR d)[j]? = some (encR d[j / 32]!)[j % 32]! := by
  have h' : j < (flatK encR 32 d.toArray).size := by simpa using h
  have e := get_flatK encR 32 d.toArray j (by simpa using h)
  rw [getElem!_pos _ j h'] at e
  unfold flatR
  rw [Array.getElem?_toList, Array.getElem?_eq_getElem h', e]
  simp
theorem flatR_one (d : List Rt) : ∀ v ∈ flatR d, v.oneCell' = true := by
  intro v hv
  obtain ⟨j, hj, rfl⟩ := List.mem_iff_getElem.1 hv
  have hj' : j < d.length * 32 := by rw [flatR_len] at hj; exact hj
  have e := flatR_at d hj'
  rw [List.getElem?_eq_getElem hj] at e
  rw [Option.some.inj e]
  have := encR_get d[j / 32]! (i := j % 32) (Nat.mod_lt _ (by decide))
  exact encR_one _ _ (List.mem_of_getElem? this)

theorem RootsAt.flat {w : World} {b off : Nat} {d : List Rt} (h : RootsAt w b off d) : ∀ j u, (flatR d)[j]? = some u → w.cell? ⟨b, off + j, none⟩ = some u := by
  intro j u hu
  have hj : j < d.length * 32 := by
    have := (List.getElem?_eq_some_iff.1 hu).1
    rwa [flatR_len] at this
  rw [flatR_at d hj] at hu
  have e := h (j / 32) (by omega) (j % 32) _ ((encR_get _ (Nat.mod_lt _ (by decide))).trans hu)
  rw [← e]
  congr 2
  omega

theorem holds_rootsAt {w : World} {b off : Nat} {d : List Rt} (h : HoldsK encR 32 w b off d.toArray) : RootsAt w b off d := by
  intro j hj i v hv
  have hi : i < 32 := by
    have := (List.getElem?_eq_some_iff.1 hv).1
    rwa [encR_len] at this
  have := (h.cell (i := j) (c := i) (by simpa using hj) hi).1
  rw [this, ← hv, encR_get _ hi]
  simp

/-- What a call owns: it holds the roots. -/
theorem owns_holds {w : World} {base n : Nat} {v : Value} {d : List Rt} (h : w.ownsRow base 25 32 v n (flatR d)) (hn : v ≠ .slice none 0 0) :
    ∃ g cap, v = .slice (some ⟨g, 0, none⟩) n cap ∧ base ≤ g ∧ g < w.heap.size ∧ n ≤ cap ∧ cap ≤ maxLen ∧ d.length = n ∧ HoldsK encR 32 w g 0 d.toArray := by
  obtain ⟨hl, h⟩ := h
  rw [flatR_len] at hl
  rcases h with ⟨h, _⟩ | ⟨g, cap, cur, rfl, hb, hg, hnc, hcm, hcs, ht⟩
  · exact absurd h hn
  · refine ⟨g, cap, rfl, hb, (Array.getElem?_eq_some_iff.1 hg).1, hnc, hcm, by omega, fun t hsz => ?_⟩
    have hs' : t < d.length * 32 := by simpa using hsz
    refine ⟨?_, by simp [World.frozen?, hg]⟩
    have e : cur.toList[t]? = (flatR d)[t]? := by rw [← ht, List.getElem?_take_of_lt (by omega)]
    rw [flatR_at d hs'] at e
    rw [get_flatK _ _ _ _ (by simpa using hs'), Nat.zero_add]
    simp only [World.cell?, hg]
    simpa using e

theorem below_sorted {w : World} {base g n : Nat} {d : Array Rt} {os : Array Obj} {w0 : World} (h : Below base w0 w) (hg : base ≤ g) (hlt : g < w.heap.size) : Below base w0 (sortWorldK encR 32 w g 0 n d os) := by
  unfold sortWorldK putRowK
  exact below_grow (w := putRow id (Sort.ahead w n) g 0 (flatK encR 32 d)) (Lib.below_putRow h hg) (by simp only [putRow, mapBlock, Sort.ahead]; simp; omega) os 0

theorem eq_rt (x y : Rt) (w : World) : Sem.run Try.prog (Op.equalIn 10000 25 (.agg (encR x).toArray) (.agg (encR y).toArray)) w = .ok (decide (x = y)) w := by
  have h1 := eq_root x.2 y.2 w
  rw [show decide (x.1 = y.1) = decide (x = y) by rw [decide_eq_decide]; exact ⟨Rt.ext, fun h => h ▸ rfl⟩] at h1
  exact h1
theorem eql_rt (x y : Rt) (w : World) : (binOp .eql 25 (.agg (encR x).toArray) (.agg (encR y).toArray)).run Try.prog w = .ok (.bool (decide (x = y))) w := by
  simp only [binOp, Op.equal, Sem.run_bind, show Op.maxDepth = 10000 from rfl, eq_rt]; rfl
theorem neq_rt (x y : Rt) (w : World) : (binOp .neq 25 (.agg (encR x).toArray) (.agg (encR y).toArray)).run Try.prog w = .ok (.bool (!decide (x = y))) w := by
  simp only [binOp, Op.equal, Sem.run_bind, show Op.maxDepth = 10000 from rfl, eq_rt]; rfl
theorem guard_rt (op : BinOp) (a b : Operand) (x y : Rt) (w : World) : (eqGuard op 25 a b (.agg (encR x).toArray) (.agg (encR y).toArray)).run Try.prog w = .ok () w :=
  GuardAt.agg (fun x : Rt => (encR x).toArray) (by kernel_rfl) op a b x y w

/-- slices.Contains over a row of roots. -/
theorem contains_row (b off len cap : Nat) (d : List Rt) (x : Rt) (w : World) (hl : d.length = len) (hm : len ≤ maxLen) (hc : RootsAt w b off d) :
    Calls Try.prog 56 #[.slice (some ⟨b, off, none⟩) len cap, .agg (encR x).toArray] w fun e w' => e = .returned (.bool (decide (x ∈ d))) ∧ Below w.heap.size w w' := by
  have h := AnyQ.slices_Contains Try.containsL 32 Try.isAgg25 Try.sizeOf25 encR encR_len (fun x y => decide (x = y)) ⟨eql_rt, guard_rt⟩ b off len cap d x w (by omega) (by unfold maxLen at hm; omega) hc
  refine h.mono ?_
  rintro e w' ⟨rfl, hb⟩
  refine ⟨?_, hb⟩
  rw [← hl, List.take_length]
  congr 2
  rw [Bool.eq_iff_iff]
  simp

theorem infoR' : (Try.prog.info? 25).map (fun i => (i.zero, i.size, i.bytes)) = some (some (.agg (encR default).toArray), 32, 32) := by kernel_rfl
theorem infoR : ∃ i, Try.prog.info? 25 = some i ∧ i.zero = some (.agg (encR default).toArray) ∧ i.size = 32 ∧ i.bytes = 32 := info_parts infoR'

set_option maxHeartbeats 1000000 in
theorem clone_zero (a : Addr) (c : Nat) (w : World) :
    Calls Try.prog 52 #[.slice (some a) 0 c] w fun e w' => (∃ p k, e = .returned (.slice p 0 k)) ∧ Below w.heap.size w w' := by
  obtain ⟨i0, hi, hz0, hz1, hz2⟩ := infoR
  obtain ⟨Z, HZ⟩ : ∃ Z, (encR default).toArray = Z := ⟨_, rfl⟩
  rw [HZ] at hz0
  have hZs : Z.size = 32 := by rw [← HZ]; simp [encR_len]
  have q22 : ∀ (w : World) (a : Option Addr) (n c n' c' : Nat), (binOp .eql 53 (.slice a n c) (.slice none n' c')).run Try.prog w = .ok (.bool a.isNone) w := fun w a n c n' c' => Lib.run_eql_slice_nil w _ _ a n c n' c' Try.underlying53
  go_enter Try.func52, Try.ntmps52
  go_wp2_with (at_builtin; refine wpList_append_own _ rfl _ _ 53 rfl w.heap.size 25 i0 (.agg Z) 32 32 Try.underlying53 hi hz0 hz1 hz2 hZs (by decide) _ _ _ rfl (World.ownsRow_made w #[] 0 (Nat.le_refl _) (Nat.zero_le _) rfl) a 0 c [] rfl rfl (by intro j u hj; simp at hj) (by intro u hu; cases hu) (by unfold maxLen; omega) (by omega) (by simp) ?_)
  intro v' w1 hown hgrow hnil
  go_wp2
  go_ret
  refine ⟨?_, ((Below.refl _ w).alloc (Nat.le_refl _) _).grown hgrow (by simp) (by intro k hk; simp [Value.ownBlock] at hk; omega)⟩
  rcases hown.2 with ⟨rfl, _⟩ | ⟨g, cap, cur, rfl, _⟩
  · exact ⟨_, _, rfl⟩
  · exact ⟨_, _, rfl⟩

/-- slices.Clone. -/
theorem clone_any (v : Value) (d : List Rt) (w : World) (h : Rts w v d) (hlen : d.length ≤ 4398046511104) :
    Calls Try.prog 52 #[v] w fun e w' => ∃ v', e = .returned v' ∧ Below w.heap.size w w' ∧ ((d = [] ∧ ∃ p k, v' = .slice p 0 k) ∨
      ∃ g cap, v' = .slice (some ⟨g, 0, none⟩) d.length cap ∧ w.heap.size ≤ g ∧ g < w'.heap.size ∧ d.length ≤ cap ∧ cap ≤ maxLen ∧ HoldsK encR 32 w' g 0 d.toArray) := by
  obtain ⟨a, len, cap, rfl, hl, hm, h0⟩ := h
  by_cases hz : len = 0
  · subst hz
    obtain rfl := List.eq_nil_of_length_eq_zero hl
    cases a with
    | none =>
      refine (AnyE.slices_Clone_nil Try.cloneL 0 cap w).mono ?_
      rintro e w' ⟨rfl, rfl⟩
      exact ⟨_, rfl, Below.refl _ _, .inl ⟨rfl, _, _, rfl⟩⟩
    | some a =>
      refine (clone_zero a cap w).mono ?_
      rintro e w' ⟨⟨p, k, rfl⟩, hb⟩
      exact ⟨_, rfl, hb, .inl ⟨rfl, _, _, rfl⟩⟩
  · rcases h0 with h0 | ⟨b, off, rfl, hlt, hc⟩
    · exact absurd h0 hz
    · obtain ⟨i0, hi, hz0, hz1, hz2⟩ := infoR
      have hk := AnyE.slices_Clone Try.cloneL i0 (.agg (encR default).toArray) 32 32 hi hz0 hz1 hz2 (by simp [Value.cells, encR_len]) (by decide) Try.sizeOf25 b off len cap (flatR d) w (by rw [flatR_len, hl]) hm (by omega) hc.flat (flatR_one d)
      refine hk.mono ?_
      rintro e w' ⟨v', rfl, hown, hne, hb⟩
      obtain ⟨g, cap', rfl, h1, h2, h3, h4, h5, h6⟩ := owns_holds hown hne
      exact ⟨_, rfl, hb, .inr ⟨g, cap', by rw [hl], h1, h2, by omega, h4, h6⟩⟩

/-- The roots in order. -/
def inOrder (d : List Rt) : List Rt := d.mergeSort fun x y => !(ltOf cfR) y x

/-- slices.SortFunc with roots.Compare. -/
theorem sortFunc_row (g cap base : Nat) (d : List Rt) (w w0 : World) (hb : Below base w0 w) (hg : base ≤ g) (hlt : g < w.heap.size) (hl : d.length ≤ 4398046511104) (hH : HoldsK encR 32 w g 0 d.toArray) :
    Calls Try.prog 53 #[.slice (some ⟨g, 0, none⟩) d.length cap, .func (.func 50) #[] #[]] w fun e w' =>
      e = .returned (.tuple #[]) ∧ Below base w0 w' ∧ g < w'.heap.size ∧ HoldsK encR 32 w' g 0 (inOrder d).toArray := by
  have eg : ∀ args w, (callFunc 50 args).run Try.prog w = .ok (.enter 50 args) w := enters_of Try.func50 (by kernel_rfl) rfl
  have h := AnyQ.slices_SortFunc_total Try.sortL 32 Try.isAgg25 Try.sizeOf25 encR encR_len encR_one cfR cfR_swo 50 #[] g 0 cap d.toArray w eg (fun m os dk _ x y => rcmp_grow x y _) hH hlt (by simp; omega) cfR_total
  refine (show Calls Try.prog 53 #[.slice (some ⟨g, 0, none⟩) d.length cap, .func (.func 50) #[] #[]] w _ from h).mono ?_
  rintro e w' ⟨rfl, n, os, rfl⟩
  refine ⟨rfl, below_sorted hb hg hlt, lt_sortWorldK _ _ _ _ _ _ _ _ hlt, ?_⟩
  exact holdsK_sortWorldK encR 32 w g 0 n d.toArray _ os hlt hH (by simp)

end Go.Proofs.Ytjlfacdmfcbjfaa
