/- The order of tables: compareTables; slices.SortFunc over tables. -/
import Derived.Test.YtdfemompijhohaaBkE
import Derived.Test.YtdfemompijhohaaSt
import Derived.Lib.OwnBridge
import Derived.Shelf.SlSortFuncK.ComposeK
import Derived.Outline
set_option linter.unusedVariables false
set_option linter.unusedSimpArgs false
namespace Go.Proofs.Ytdfemompijhohaa
open Go.RowKit Go.Shelf Go.Sort
set_option maxRecDepth 100000

def cmpI (x y : Int) : Int := if x < y then -1 else if y < x then 1 else 0

theorem isnan_any (x : Int) (w : World) : Calls Try.prog 54 #[.int .u64 x] w fun e w' => e = .returned (.bool false) ∧ w' = w := by
  have hx : (x != x) = false := by simp
  go_enter Try.func54, Try.ntmps54
  go_wp2_with fail
  go_ret
  exact ⟨rfl, rfl⟩

set_option maxHeartbeats 1000000 in
theorem cmpC_any (x y : Int) (w : World) : Calls Try.prog 38 #[.int .u64 x, .int .u64 y] w fun e w' => e = .returned (.int .i64 (cmpI x y)) ∧ w' = w := by
  have HX := Lib.hid (isnan_any x w)
  have HY := Lib.hid (isnan_any y w)
  rcases Int.lt_trichotomy x y with h | h | h
  · have HE : Hid (cmpI x y = -1) := by show _ = _; unfold cmpI; rw [if_pos h]
    rw [HE.out]
    go_enter Try.func38, Try.ntmps38
    go_wp2_with (first
      | (go_at_call 54; refine HX.out.mono ?_; rintro e w1 ⟨rfl, rfl⟩)
      | (go_at_call 54; refine HY.out.mono ?_; rintro e w1 ⟨rfl, rfl⟩))
    go_ret
    exact ⟨rfl, rfl⟩
  · subst h
    have HE : Hid (cmpI x x = 0) := by show _ = _; unfold cmpI; rw [if_neg (by omega), if_neg (by omega)]
    have hn : ¬ x < x := by omega
    rw [HE.out]
    go_enter Try.func38, Try.ntmps38
    go_wp2_with (go_at_call 54; refine HX.out.mono ?_; rintro e w1 ⟨rfl, rfl⟩)
    go_ret
    exact ⟨rfl, rfl⟩
  · have HE : Hid (cmpI x y = 1) := by show _ = _; unfold cmpI; rw [if_neg (by omega), if_pos h]
    have hn : ¬ x < y := by omega
    rw [HE.out]
    go_enter Try.func38, Try.ntmps38
    go_wp2_with (first
      | (go_at_call 54; refine HX.out.mono ?_; rintro e w1 ⟨rfl, rfl⟩)
      | (go_at_call 54; refine HY.out.mono ?_; rintro e w1 ⟨rfl, rfl⟩))
    go_ret
    exact ⟨rfl, rfl⟩

def orV (x y : Int) : Int := if x ≠ 0 then x else y
set_option maxHeartbeats 1000000 in
theorem or_two (g : Nat) (x y : Int) (w : World) (h : Blk w g #[.int .i64 x, .int .i64 y]) : Calls Try.prog 37 #[.slice (some ⟨g, 0, none⟩) 2 2] w fun e w' => e = .returned (.int .i64 (orV x y)) ∧ w' = w := by
  have h0 : w.cell? ⟨g, 0, none⟩ = some (.int .i64 x) := h.cell 0
  have h1 : w.cell? ⟨g, 1, none⟩ = some (.int .i64 y) := h.cell 1
  clear h
  by_cases hx : x = 0
  · subst hx
    have HE : Hid (orV 0 y = y) := by show _ = _; unfold orV; rw [if_neg (by simp)]
    rw [HE.out]
    by_cases hy : y = 0
    · subst hy
      go_enter Try.func37, Try.ntmps37
      go_wp2_with fail
      refine wp_loop_rounds 3 ?_
      rw [rounds_succ]
      go_wp2_with fail
      rw [rounds_succ]
      go_wp2_with fail
      rw [rounds_succ]
      go_wp2_with fail
      go_ret
      exact ⟨rfl, rfl⟩
    · have hq : (y != 0) = true := by simpa using hy
      go_enter Try.func37, Try.ntmps37
      go_wp2_with fail
      refine wp_loop_rounds 2 ?_
      rw [rounds_succ]
      go_wp2_with fail
      rw [rounds_succ]
      go_wp2_with fail
      go_ret
      exact ⟨rfl, rfl⟩
  · have HE : Hid (orV x y = x) := by show _ = _; unfold orV; rw [if_pos hx]
    rw [HE.out]
    have hq : (x != 0) = true := by simpa using hx
    go_enter Try.func37, Try.ntmps37
    go_wp2_with fail
    refine wp_loop_rounds 1 ?_
    rw [rounds_succ]
    go_wp2_with fail
    go_ret
    exact ⟨rfl, rfl⟩

theorem range_bytesX {w : World} {b o : Nat} {xs : List Int} (h : w.rangeAt b o (bytesL xs)) : ∀ j x, xs[j]? = some x → w.cell? ((⟨b, o, none⟩ : Addr).add j) = some (.int .u8 x) := fun j x hj => by
  rw [Addr.add_mid]
  exact h j _ (by simp [bytesL, hj])

theorem run_compare_mid {P : Program} (w : World) (b1 o1 b2 o2 c1 c2 : Nat) (xs ys : List Int) (hx : IsBytes 32 xs) (hy : IsBytes 32 ys) (h1 : w.rangeAt b1 o1 (bytesL xs)) (h2 : w.rangeAt b2 o2 (bytesL ys)) :
    (Extern.BytealgCompare.compare #[.slice (some ⟨b1, o1, none⟩) 32 c1, .slice (some ⟨b2, o2, none⟩) 32 c2]).run P w = .ok (.int .i64 (cmpB xs ys)) w := by
  have l1 := Lib.run_loadBytesX (P := P) w xs ⟨b1, o1, none⟩ .empty (range_bytesX h1)
  have l2 := Lib.run_loadBytesX (P := P) w ys ⟨b2, o2, none⟩ .empty (range_bytesX h2)
  rw [hx.1] at l1
  rw [hy.1] at l2
  have hc := compare_bytes xs ys (by rw [hx.1, hy.1]) (fun x h => wf_u8 (hx.2 x h)) (fun x h => wf_u8 (hy.2 x h))
  have e1 (zs : List Int) : (⟨ByteArray.empty.data ++ (Lib.bytesOf zs).toArray⟩ : ByteArray).data.toList = Lib.bytesOf zs := by
    show ((#[] : Array UInt8) ++ (Lib.bytesOf zs).toArray).toList = Lib.bytesOf zs
    simp
  change Sem.run P (do
    let a ← Extern.Bytes.bytesOf (.slice (some ⟨b1, o1, none⟩) 32 c1)
    let b ← Extern.Bytes.bytesOf (.slice (some ⟨b2, o2, none⟩) 32 c2)
    pure (goInt (Extern.BytealgCompare.cmp a b))) w = _
  simp only [Extern.Bytes.bytesOf, Sem.run_bind, l1, l2, Result.andThen_ok, Sem.run_pure, Lib.cmp_eq]
  rw [← hc, e1, e1]
  rfl

theorem bcmp_mid (w : World) (b1 o1 b2 o2 c1 c2 : Nat) (xs ys : List Int) (hx : IsBytes 32 xs) (hy : IsBytes 32 ys) (h1 : w.rangeAt b1 o1 (bytesL xs)) (h2 : w.rangeAt b2 o2 (bytesL ys)) :
    Calls Try.prog 39 #[.slice (some ⟨b1, o1, none⟩) 32 c1, .slice (some ⟨b2, o2, none⟩) 32 c2] w fun e w' => e = .returned (.int .i64 (cmpB xs ys)) ∧ w' = w := by
  have hext : (callFunc 55 #[.slice (some ⟨b1, o1, none⟩) 32 c1, .slice (some ⟨b2, o2, none⟩) 32 c2]).run Try.prog w = .ok (.value (.int .i64 (cmpB xs ys))) w := by
    rw [run_callFunc_extern Try.func55 (by kernel_rfl) (by kernel_rfl) (by kernel_rfl) (e := Extern.BytealgCompare.compare) (by kernel_rfl), run_compare_mid w b1 o1 b2 o2 c1 c2 xs ys hx hy h1 h2]
    simp only [Result.andThen]
  obtain ⟨r, hr⟩ : ∃ r, cmpB xs ys = r := ⟨_, rfl⟩
  rw [hr] at hext ⊢
  clear hr h1 h2
  go_enter Try.func39, Try.ntmps39
  go_wp2_with fail
  go_ret
  exact ⟨rfl, rfl⟩

/-- A table as an element of a slice: its checkpoint, the slice of its balances. -/
structure TbS where
  c : CpD
  ok : c.ok
  a : Option Addr
  n : Nat
  k : Nat
instance : Inhabited TbS := ⟨⟨zeC, zeC_ok, none, 0, 0⟩⟩
def TbS.v (x : TbS) : Value := .slice x.a x.n x.k
def encT (x : TbS) : List Value := x.c.cells ++ [x.v]
theorem encT_len (x : TbS) : (encT x).length = 34 := by simp [encT, CpD.len x.ok]
theorem encT_one (x : TbS) : ∀ v ∈ encT x, v.oneCell' = true := by
  intro v hv
  rcases List.mem_append.1 hv with hv | hv
  · exact CpD.one _ v hv
  · rw [List.mem_singleton.1 hv]; rfl
theorem encT_flat (x : TbS) : (encT x).toArray = flatP [x.c.cells, [x.v]] := by simp [encT, flatP]

def cfC (c d : CpD) : Int := orV (cmpI c.n d.n) (cmpB c.r d.r)
def cfT (x y : TbS) : Int := cfC x.c y.c

theorem tab_parts {u : World} {b : Nat} {z : TbS} (h : Blk u b (flatP [z.c.cells, [z.v]])) : u.cell? ⟨b, 0, none⟩ = some (.int .u64 z.c.n) ∧ u.rangeAt b 1 (bytesL z.c.r) := by
  have h1 := h.part (k := 0) rfl
  have e : offP [z.c.cells, [z.v]] 0 = 0 := rfl
  rw [e] at h1
  exact ⟨h1 0 _ rfl, fun j v hj => by
    have := h1 (j + 1) v (by simp [CpD.cells]; exact hj)
    rwa [show 0 + (j + 1) = 1 + j by omega] at this⟩

set_option maxHeartbeats 8000000 in
/-- compareTables lays its two parameters and a list of two, and draws. -/
theorem ctab_grow (x y : TbS) (w : World) :
    Calls Try.prog 26 #[.agg (encT x).toArray, .agg (encT y).toArray] w fun e w' => e = .returned (.int .i64 (cfT x y)) ∧ ∃ q os', w' = grow (w.drewN q) os' := by
  have HOX := Lib.hid (tabOff x.ok x.v)
  have HOY := Lib.hid (tabOff y.ok y.v)
  rw [encT_flat, encT_flat]
  have HCN := Lib.hid (fun u => cmpC_any x.c.n y.c.n u)
  have HCB := Lib.hid (fun u (h1 : u.rangeAt w.heap.size 1 (bytesL x.c.r)) (h2 : u.rangeAt (w.heap.size + 1) 1 (bytesL y.c.r)) => bcmp_mid u w.heap.size 1 (w.heap.size + 1) 1 32 32 x.c.r y.c.r x.ok.2.2 y.ok.2.2 h1 h2)
  unfold cfT cfC
  obtain ⟨r1, hr1⟩ : ∃ r, cmpI x.c.n y.c.n = r := ⟨_, rfl⟩
  obtain ⟨r2, hr2⟩ : ∃ r, cmpB x.c.r y.c.r = r := ⟨_, rfl⟩
  rw [hr1] at HCN ⊢
  rw [hr2] at HCB ⊢
  clear hr1 hr2
  have HOR := Lib.hid (fun (u : World) (g : Nat) (h : Blk u g #[.int .i64 r1, .int .i64 r2]) => or_two g r1 r2 u h)
  obtain ⟨r3, hr3⟩ : ∃ r, orV r1 r2 = r := ⟨_, rfl⟩
  rw [hr3] at HOR ⊢
  clear hr3
  obtain ⟨X, HX⟩ : ∃ X, Hid (flatP [x.c.cells, [x.v]] = X) := ⟨_, rfl⟩
  obtain ⟨Y, HY⟩ : ∃ Y, Hid (flatP [y.c.cells, [y.v]] = Y) := ⟨_, rfl⟩
  rw [HX.out, HY.out]
  have BX : Hid (Blk ((w.alloc (.cells X 29)).alloc (.cells Y 29)) w.heap.size (flatP [x.c.cells, [x.v]])) := by show Blk _ _ _; rw [HX.out]; exact (Blk.new rfl).alloc _
  have BY : Hid (Blk ((w.alloc (.cells X 29)).alloc (.cells Y 29)) (w.heap.size + 1) (flatP [y.c.cells, [y.v]])) := by show Blk _ _ _; rw [HY.out]; exact Blk.new (by simp)
  have ha : Try.prog.arrayLen 24 = 32 := by kernel_rfl
  obtain ⟨xn, hxn⟩ : ∃ n, x.c.n = n := ⟨_, rfl⟩
  obtain ⟨yn, hyn⟩ : ∃ n, y.c.n = n := ⟨_, rfl⟩
  rw [hxn, hyn] at HCN
  have HXN := Lib.hid hxn
  have HYN := Lib.hid hyn
  clear hxn hyn
  go_enter Try.func26, Try.ntmps26
  go_wp2_with fail
  have HS := Lib.hid (And.intro BX.out BY.out)
  refine wp_region_held_drew (S := fun u => Blk u w.heap.size (flatP [x.c.cells, [x.v]]) ∧ Blk u (w.heap.size + 1) (flatP [y.c.cells, [y.v]])) (by kernel_rfl) (⟨BX.out, BY.out⟩) (fun _ => ?_)
  (try simp only [Act.put, List.setIfInBounds_toArray, List.set_cons_zero, List.set_cons_succ])
  refine wpAnyH_take (i := 0) (oi := ⟨some 5, _, _, _, _, _⟩) (v := .pointer (some ⟨w.heap.size, 0, none⟩)) rfl (by kernel_rfl) (by kernel_rfl) (by kernel_rfl) (fun _ _ _ h => h) (Or.inl ⟨by rfl, fun wz hz => ?_⟩) HS.out ?_
  · clear hz; go_simp; first | done | with_reducible rfl | rfl
  (try simp only [Act.put, List.setIfInBounds_toArray, List.set_cons_zero, List.set_cons_succ])
  refine wpAnyH_take (i := 1) (oi := ⟨some 6, _, _, _, _, _⟩) (v := .pointer (some ⟨w.heap.size, 0, none⟩)) rfl (by kernel_rfl) (by kernel_rfl) (by kernel_rfl) (fun _ _ _ h => h) (Or.inl ⟨by rfl, fun wz hz => ?_⟩) HS.out ?_
  · clear hz; go_simp; first | done | with_reducible rfl | rfl
  (try simp only [Act.put, List.setIfInBounds_toArray, List.set_cons_zero, List.set_cons_succ])
  refine held_load1 (oi := ⟨some 7, _, _, _, _, _⟩) 2 rfl (by kernel_rfl) (by kernel_rfl) (by kernel_rfl) (fun _ _ _ _ h => h) rfl 22 (.tmp 6) rfl w.heap.size 0 rfl (.int .u64 xn) _ (fun u' hu => HXN.out ▸ (tab_parts hu.1).1) Try.underlying22 rfl HS.out ?_
  (try simp only [Act.put, List.setIfInBounds_toArray, List.set_cons_zero, List.set_cons_succ])
  refine wpAnyH_take (i := 3) (oi := ⟨some 8, _, _, _, _, _⟩) (v := .pointer (some ⟨w.heap.size + 1, 0, none⟩)) rfl (by kernel_rfl) (by kernel_rfl) (by kernel_rfl) (fun _ _ _ h => h) (Or.inl ⟨by rfl, fun wz hz => ?_⟩) HS.out ?_
  · clear hz; go_simp; first | done | with_reducible rfl | rfl
  (try simp only [Act.put, List.setIfInBounds_toArray, List.set_cons_zero, List.set_cons_succ])
  refine wpAnyH_take (i := 4) (oi := ⟨some 9, _, _, _, _, _⟩) (v := .pointer (some ⟨w.heap.size + 1, 0, none⟩)) rfl (by kernel_rfl) (by kernel_rfl) (by kernel_rfl) (fun _ _ _ h => h) (Or.inl ⟨by rfl, fun wz hz => ?_⟩) HS.out ?_
  · clear hz; go_simp; first | done | with_reducible rfl | rfl
  (try simp only [Act.put, List.setIfInBounds_toArray, List.set_cons_zero, List.set_cons_succ])
  refine held_load1 (oi := ⟨some 10, _, _, _, _, _⟩) 5 rfl (by kernel_rfl) (by kernel_rfl) (by kernel_rfl) (fun _ _ _ _ h => h) rfl 22 (.tmp 9) rfl (w.heap.size + 1) 0 rfl (.int .u64 yn) _ (fun u' hu => HYN.out ▸ (tab_parts hu.2).1) Try.underlying22 rfl HS.out ?_
  (try simp only [Act.put, List.setIfInBounds_toArray, List.set_cons_zero, List.set_cons_succ])
  refine wpAnyH_take (i := 7) (oi := ⟨some 12, _, _, _, _, _⟩) (v := .pointer (some ⟨w.heap.size, 0, none⟩)) rfl (by kernel_rfl) (by kernel_rfl) (by kernel_rfl) (fun _ _ _ h => h) (Or.inl ⟨by rfl, fun wz hz => ?_⟩) HS.out ?_
  · clear hz; go_simp; first | done | with_reducible rfl | rfl
  (try simp only [Act.put, List.setIfInBounds_toArray, List.set_cons_zero, List.set_cons_succ])
  refine wpAnyH_take (i := 8) (oi := ⟨some 13, _, _, _, _, _⟩) (v := .pointer (some ⟨w.heap.size, 1, none⟩)) rfl (by kernel_rfl) (by kernel_rfl) (by kernel_rfl) (fun _ _ _ h => h) (Or.inl ⟨by rfl, fun wz hz => ?_⟩) HS.out ?_
  · clear hz; go_simp; first | done | with_reducible rfl | rfl
  (try simp only [Act.put, List.setIfInBounds_toArray, List.set_cons_zero, List.set_cons_succ])
  refine wpAnyH_take (i := 9) (oi := ⟨some 14, _, _, _, _, _⟩) (v := .slice (some ⟨w.heap.size, 1, none⟩) 32 32) rfl (by kernel_rfl) (by kernel_rfl) (by kernel_rfl) (fun _ _ _ h => h) (Or.inl ⟨by rfl, fun wz hz => ?_⟩) HS.out ?_
  · clear hz; go_simp; first | done | with_reducible rfl | rfl
  (try simp only [Act.put, List.setIfInBounds_toArray, List.set_cons_zero, List.set_cons_succ])
  refine wpAnyH_take (i := 10) (oi := ⟨some 15, _, _, _, _, _⟩) (v := .pointer (some ⟨w.heap.size + 1, 0, none⟩)) rfl (by kernel_rfl) (by kernel_rfl) (by kernel_rfl) (fun _ _ _ h => h) (Or.inl ⟨by rfl, fun wz hz => ?_⟩) HS.out ?_
  · clear hz; go_simp; first | done | with_reducible rfl | rfl
  (try simp only [Act.put, List.setIfInBounds_toArray, List.set_cons_zero, List.set_cons_succ])
  refine wpAnyH_take (i := 11) (oi := ⟨some 16, _, _, _, _, _⟩) (v := .pointer (some ⟨w.heap.size + 1, 1, none⟩)) rfl (by kernel_rfl) (by kernel_rfl) (by kernel_rfl) (fun _ _ _ h => h) (Or.inl ⟨by rfl, fun wz hz => ?_⟩) HS.out ?_
  · clear hz; go_simp; first | done | with_reducible rfl | rfl
  (try simp only [Act.put, List.setIfInBounds_toArray, List.set_cons_zero, List.set_cons_succ])
  refine wpAnyH_take (i := 12) (oi := ⟨some 17, _, _, _, _, _⟩) (v := .slice (some ⟨w.heap.size + 1, 1, none⟩) 32 32) rfl (by kernel_rfl) (by kernel_rfl) (by kernel_rfl) (fun _ _ _ h => h) (Or.inl ⟨by rfl, fun wz hz => ?_⟩) HS.out ?_
  · clear hz; go_simp; first | done | with_reducible rfl | rfl
  (try simp only [Act.put, List.setIfInBounds_toArray, List.set_cons_zero, List.set_cons_succ])
  refine wpAnyH_ready (rs := [6]) (by kernel_rfl) (by simp) ?_
  refine AllReadyH.cons rfl (fun K hK => ?_) AllReadyH.nil
  go_simp
  refine (HCN.out _).mono ?_
  rintro e w1 ⟨rfl, rfl⟩
  skip
  refine hK.out _ _ (HS.out) (fun _ => ?_)
  clear hK K
  (try simp only [Act.put, List.setIfInBounds_toArray, List.set_cons_zero, List.set_cons_succ])
  refine wpAnyH_ready (rs := [13]) (by kernel_rfl) (by simp) ?_
  refine AllReadyH.cons rfl (fun K hK => ?_) AllReadyH.nil
  go_simp
  refine (HCB.out (((w.alloc (.cells X 29)).alloc (.cells Y 29)).drew) (tab_parts HS.out.1).2 (tab_parts HS.out.2).2).mono ?_
  rintro e w1 ⟨rfl, rfl⟩
  skip
  refine hK.out _ _ (HS.out) (fun _ => ?_)
  clear hK K
  (try simp only [Act.put, List.setIfInBounds_toArray, List.set_cons_zero, List.set_cons_succ])
  refine wpAnyH_ready (rs := [14]) (by kernel_rfl) (by simp) ?_
  refine AllReadyH.cons rfl (fun K hK => ?_) AllReadyH.nil
  go_simp
  have HS2 : Hid (Blk (((w.alloc (.cells X 29)).alloc (.cells Y 29)).drew.alloc (.cells #[.int .i64 r1, .int .i64 r2] 3)) w.heap.size (flatP [x.c.cells, [x.v]]) ∧ Blk (((w.alloc (.cells X 29)).alloc (.cells Y 29)).drew.alloc (.cells #[.int .i64 r1, .int .i64 r2] 3)) (w.heap.size + 1) (flatP [y.c.cells, [y.v]])) := ⟨(show Blk ((w.alloc (.cells X 29)).alloc (.cells Y 29)).drew _ _ from HS.out.1).alloc _, (show Blk ((w.alloc (.cells X 29)).alloc (.cells Y 29)).drew _ _ from HS.out.2).alloc _⟩
  have HB2 : Hid (Blk (((w.alloc (.cells X 29)).alloc (.cells Y 29)).drew.alloc (.cells #[.int .i64 r1, .int .i64 r2] 3)) (w.heap.size + 2) #[.int .i64 r1, .int .i64 r2]) := Blk.new (by simp)
  refine hK.out _ _ HS2.out (fun _ => ?_)
  clear hK K
  (try simp only [Act.put, List.setIfInBounds_toArray, List.set_cons_zero, List.set_cons_succ])
  refine wpAnyH_ready (rs := [15]) (by kernel_rfl) (by simp) ?_
  refine AllReadyH.cons rfl (fun K hK => ?_) AllReadyH.nil
  go_simp
  refine (HOR.out _ (w.heap.size + 2) HB2.out).mono ?_
  rintro e w1 ⟨rfl, rfl⟩
  skip
  refine hK.out _ _ (HS2.out) (fun _ => ?_)
  clear hK K
  (try simp only [Act.put, List.setIfInBounds_toArray, List.set_cons_zero, List.set_cons_succ])
  refine wpAnyH_ready (rs := [16]) (by kernel_rfl) (by simp) ?_
  refine AllReadyH.cons rfl (fun K hK => ?_) AllReadyH.nil
  go_simp
  refine hK.out _ _ (HS2.out) (fun _ => ?_)
  clear hK K
  (try simp only [Act.put, List.setIfInBounds_toArray, List.set_cons_zero, List.set_cons_succ])
  refine wpAnyH_done (by kernel_rfl) ?_ _
  go_wp2_with fail
  go_ret

  refine ⟨rfl, 1, #[.cells X 29, .cells Y 29, .cells #[.int .i64 r1, .int .i64 r2] 3], ?_⟩
  rw [alloc_eq_grow, alloc_eq_grow, alloc_eq_grow]; rfl

end Go.Proofs.Ytdfemompijhohaa
