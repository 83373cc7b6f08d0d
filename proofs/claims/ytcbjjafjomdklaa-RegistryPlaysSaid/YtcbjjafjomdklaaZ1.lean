/- Several texts as one: BkF, BkG, BkH, BkI. -/
import Derived.Test.YtcbjjafjomdklaaBkE
import Derived.Test.YtcbjjafjomdklaaSt
import Derived.Lib.OwnBridge
import Derived.Shelf.SlSortFuncK.ComposeK
import Derived.Test.YtcbjjafjomdklaaEls
import Derived.Deep.LoopGhost
import Derived.Test.YtcbjjafjomdklaaRt
namespace Go.Proofs.Ytcbjjafjomdklaa

/-! BkF -/
section
set_option linter.unusedVariables false
set_option linter.unusedSimpArgs false
open Go.RowKit Go.Shelf Go.Sort

set_option maxRecDepth 100000

def cmpI (x y : Int) : Int := if x < y then -1 else if y < x then 1 else 0

theorem isnan_any (x : Int) (w : World) : Calls Try.prog 72 #[.int .u64 x] w fun e w' => e = .returned (.bool false) ∧ w' = w := by
  have hx : (x != x) = false := by simp
  go_enter Try.func72, Try.ntmps72
  go_wp2_with fail
  go_ret
  exact ⟨rfl, rfl⟩

set_option maxHeartbeats 1000000 in
theorem cmpC_any (x y : Int) (w : World) : Calls Try.prog 59 #[.int .u64 x, .int .u64 y] w fun e w' => e = .returned (.int .i64 (cmpI x y)) ∧ w' = w := by
  have HX := Lib.hid (isnan_any x w)
  have HY := Lib.hid (isnan_any y w)
  rcases Int.lt_trichotomy x y with h | h | h
  · have HE : Hid (cmpI x y = -1) := by show _ = _; unfold cmpI; rw [if_pos h]
    rw [HE.out]
    go_enter Try.func59, Try.ntmps59
    go_wp2_with (first
      | (go_at_call 72; refine HX.out.mono ?_; rintro e w1 ⟨rfl, rfl⟩)
      | (go_at_call 72; refine HY.out.mono ?_; rintro e w1 ⟨rfl, rfl⟩))
    go_ret
    exact ⟨rfl, rfl⟩
  · subst h
    have HE : Hid (cmpI x x = 0) := by show _ = _; unfold cmpI; rw [if_neg (by omega), if_neg (by omega)]
    have hn : ¬ x < x := by omega
    rw [HE.out]
    go_enter Try.func59, Try.ntmps59
    go_wp2_with (go_at_call 72; refine HX.out.mono ?_; rintro e w1 ⟨rfl, rfl⟩)
    go_ret
    exact ⟨rfl, rfl⟩
  · have HE : Hid (cmpI x y = 1) := by show _ = _; unfold cmpI; rw [if_neg (by omega), if_pos h]
    have hn : ¬ x < y := by omega
    rw [HE.out]
    go_enter Try.func59, Try.ntmps59
    go_wp2_with (first
      | (go_at_call 72; refine HX.out.mono ?_; rintro e w1 ⟨rfl, rfl⟩)
      | (go_at_call 72; refine HY.out.mono ?_; rintro e w1 ⟨rfl, rfl⟩))
    go_ret
    exact ⟨rfl, rfl⟩

def orV (x y : Int) : Int := if x ≠ 0 then x else y

set_option maxHeartbeats 1000000 in
theorem or_two (g : Nat) (x y : Int) (w : World) (h : Blk w g #[.int .i64 x, .int .i64 y]) : Calls Try.prog 58 #[.slice (some ⟨g, 0, none⟩) 2 2] w fun e w' => e = .returned (.int .i64 (orV x y)) ∧ w' = w := by
  have h0 : w.cell? ⟨g, 0, none⟩ = some (.int .i64 x) := h.cell 0
  have h1 : w.cell? ⟨g, 1, none⟩ = some (.int .i64 y) := h.cell 1
  clear h
  by_cases hx : x = 0
  · subst hx
    have HE : Hid (orV 0 y = y) := by show _ = _; unfold orV; rw [if_neg (by simp)]
    rw [HE.out]
    by_cases hy : y = 0
    · subst hy
      go_enter Try.func58, Try.ntmps58
      go_wp2_with fail
      refine wp_loop_rounds 3 ?_
      rw [rounds_succ]
      go_wp2_with fail
      rw [rounds_succ]
      go_wp2_with fail
      rw [rounds_succ]
      go_wp2_with fail
      go_ret
      exact ⟨rfl, rfl⟩
    · have hq : (y != 0) = true := by simpa using hy
      go_enter Try.func58, Try.ntmps58
      go_wp2_with fail
      refine wp_loop_rounds 2 ?_
      rw [rounds_succ]
      go_wp2_with fail
      rw [rounds_succ]
      go_wp2_with fail
      go_ret
      exact ⟨rfl, rfl⟩
  · have HE : Hid (orV x y = x) := by show _ = _; unfold orV; rw [if_pos hx]
    rw [HE.out]
    have hq : (x != 0) = true := by simpa using hx
    go_enter Try.func58, Try.ntmps58
    go_wp2_with fail
    refine wp_loop_rounds 1 ?_
    rw [rounds_succ]
    go_wp2_with fail
    go_ret
    exact ⟨rfl, rfl⟩

theorem range_bytesX {w : World} {b o : Nat} {xs : List Int} (h : w.rangeAt b o (bytesL xs)) : ∀ j x, xs[j]? = some x → w.cell? ((⟨b, o, none⟩ : Addr).add j) = some (.int .u8 x) := fun j x hj => by
  rw [Addr.add_mid]
  exact h j _ (by simp [bytesL, hj])

theorem run_compare_mid {P : Program} (w : World) (b1 o1 b2 o2 c1 c2 : Nat) (xs ys : List Int) (hx : IsBytes 32 xs) (hy : IsBytes 32 ys) (h1 : w.rangeAt b1 o1 (bytesL xs)) (h2 : w.rangeAt b2 o2 (bytesL ys)) :
    (Extern.BytealgCompare.compare #[.slice (some ⟨b1, o1, none⟩) 32 c1, .slice (some ⟨b2, o2, none⟩) 32 c2]).run P w = .ok (.int .i64 (cmpB xs ys)) w := by
  have l1 := Lib.run_loadBytesX (P := P) w xs ⟨b1, o1, none⟩ .empty (range_bytesX h1)
  have l2 := Lib.run_loadBytesX (P := P) w ys ⟨b2, o2, none⟩ .empty (range_bytesX h2)
  rw [hx.1] at l1
  rw [hy.1] at l2
  have hc := compare_bytes xs ys (by rw [hx.1, hy.1]) (fun x h => wf_u8 (hx.2 x h)) (fun x h => wf_u8 (hy.2 x h))
  have e1 (zs : List Int) : (⟨ByteArray.empty.data ++ (Lib.bytesOf zs).toArray⟩ : ByteArray).data.toList = Lib.bytesOf zs := by
    show ((#[] : Array UInt8) ++ (Lib.bytesOf zs).toArray).toList = Lib.bytesOf zs
    simp
  change Sem.run P (do
    let a ← Extern.Bytes.bytesOf (.slice (some ⟨b1, o1, none⟩) 32 c1)
    let b ← Extern.Bytes.bytesOf (.slice (some ⟨b2, o2, none⟩) 32 c2)
    pure (goInt (Extern.BytealgCompare.cmp a b))) w = _
  simp only [Extern.Bytes.bytesOf, Sem.run_bind, l1, l2, Result.andThen_ok, Sem.run_pure, Lib.cmp_eq]
  rw [← hc, e1, e1]
  rfl

theorem bcmp_mid (w : World) (b1 o1 b2 o2 c1 c2 : Nat) (xs ys : List Int) (hx : IsBytes 32 xs) (hy : IsBytes 32 ys) (h1 : w.rangeAt b1 o1 (bytesL xs)) (h2 : w.rangeAt b2 o2 (bytesL ys)) :
    Calls Try.prog 60 #[.slice (some ⟨b1, o1, none⟩) 32 c1, .slice (some ⟨b2, o2, none⟩) 32 c2] w fun e w' => e = .returned (.int .i64 (cmpB xs ys)) ∧ w' = w := by
  have hext : (callFunc 73 #[.slice (some ⟨b1, o1, none⟩) 32 c1, .slice (some ⟨b2, o2, none⟩) 32 c2]).run Try.prog w = .ok (.value (.int .i64 (cmpB xs ys))) w := by
    rw [run_callFunc_extern Try.func73 (by kernel_rfl) (by kernel_rfl) (by kernel_rfl) (e := Extern.BytealgCompare.compare) (by kernel_rfl), run_compare_mid w b1 o1 b2 o2 c1 c2 xs ys hx hy h1 h2]
    simp only [Result.andThen]
  obtain ⟨r, hr⟩ : ∃ r, cmpB xs ys = r := ⟨_, rfl⟩
  rw [hr] at hext ⊢
  clear hr h1 h2
  go_enter Try.func60, Try.ntmps60
  go_wp2_with fail
  go_ret
  exact ⟨rfl, rfl⟩

/-- A table as an element of a slice: its checkpoint, the slice of its balances. -/
structure TbS where
  c : CpD
  ok : c.ok
  a : Option Addr
  n : Nat
  k : Nat
instance : Inhabited TbS := ⟨⟨zeC, zeC_ok, none, 0, 0⟩⟩

def TbS.v (x : TbS) : Value := .slice x.a x.n x.k

def encT (x : TbS) : List Value := x.c.cells ++ [x.v]

theorem encT_len (x : TbS) : (encT x).length = 34 := by simp [encT, CpD.len x.ok]

theorem encT_one (x : TbS) : ∀ v ∈ encT x, v.oneCell' = true := by
  intro v hv
  rcases List.mem_append.1 hv with hv | hv
  · exact CpD.one _ v hv
  · rw [List.mem_singleton.1 hv]; rfl

theorem encT_flat (x : TbS) : (encT x).toArray = flatP [x.c.cells, [x.v]] := by simp [encT, flatP]

def cfC (c d : CpD) : Int := orV (cmpI c.n d.n) (cmpB c.r d.r)

def cfT (x y : TbS) : Int := cfC x.c y.c

theorem tab_parts {u : World} {b : Nat} {z : TbS} (h : Blk u b (flatP [z.c.cells, [z.v]])) : u.cell? ⟨b, 0, none⟩ = some (.int .u64 z.c.n) ∧ u.rangeAt b 1 (bytesL z.c.r) := by
  have h1 := h.part (k := 0) rfl
  have e : offP [z.c.cells, [z.v]] 0 = 0 := rfl
  rw [e] at h1
  exact ⟨h1 0 _ rfl, fun j v hj => by
    have := h1 (j + 1) v (by simp [CpD.cells]; exact hj)
    rwa [show 0 + (j + 1) = 1 + j by omega] at this⟩

set_option maxHeartbeats 8000000 in
/-- compareTables lays its two parameters and a list of two, and draws. -/
theorem ctab_grow (x y : TbS) (w : World) :
    Calls Try.prog 52 #[.agg (encT x).toArray, .agg (encT y).toArray] w fun e w' => e = .returned (.int .i64 (cfT x y)) ∧ ∃ q os', w' = grow (w.drewN q) os' := by
  have HOX := Lib.hid (tabOff x.ok x.v)
  have HOY := Lib.hid (tabOff y.ok y.v)
  rw [encT_flat, encT_flat]
  have HCN := Lib.hid (fun u => cmpC_any x.c.n y.c.n u)
  have HCB := Lib.hid (fun u (h1 : u.rangeAt w.heap.size 1 (bytesL x.c.r)) (h2 : u.rangeAt (w.heap.size + 1) 1 (bytesL y.c.r)) => bcmp_mid u w.heap.size 1 (w.heap.size + 1) 1 32 32 x.c.r y.c.r x.ok.2.2 y.ok.2.2 h1 h2)
  unfold cfT cfC
  obtain ⟨r1, hr1⟩ : ∃ r, cmpI x.c.n y.c.n = r := ⟨_, rfl⟩
  obtain ⟨r2, hr2⟩ : ∃ r, cmpB x.c.r y.c.r = r := ⟨_, rfl⟩
  rw [hr1] at HCN ⊢
  rw [hr2] at HCB ⊢
  clear hr1 hr2
  have HOR := Lib.hid (fun (u : World) (g : Nat) (h : Blk u g #[.int .i64 r1, .int .i64 r2]) => or_two g r1 r2 u h)
  obtain ⟨r3, hr3⟩ : ∃ r, orV r1 r2 = r := ⟨_, rfl⟩
  rw [hr3] at HOR ⊢
  clear hr3
  obtain ⟨X, HX⟩ : ∃ X, Hid (flatP [x.c.cells, [x.v]] = X) := ⟨_, rfl⟩
  obtain ⟨Y, HY⟩ : ∃ Y, Hid (flatP [y.c.cells, [y.v]] = Y) := ⟨_, rfl⟩
  rw [HX.out, HY.out]
  have BX : Hid (Blk ((w.alloc (.cells X 36)).alloc (.cells Y 36)) w.heap.size (flatP [x.c.cells, [x.v]])) := by show Blk _ _ _; rw [HX.out]; exact (Blk.new rfl).alloc _
  have BY : Hid (Blk ((w.alloc (.cells X 36)).alloc (.cells Y 36)) (w.heap.size + 1) (flatP [y.c.cells, [y.v]])) := by show Blk _ _ _; rw [HY.out]; exact Blk.new (by simp)
  have ha : Try.prog.arrayLen 28 = 32 := by kernel_rfl
  obtain ⟨xn, hxn⟩ : ∃ n, x.c.n = n := ⟨_, rfl⟩
  obtain ⟨yn, hyn⟩ : ∃ n, y.c.n = n := ⟨_, rfl⟩
  rw [hxn, hyn] at HCN
  have HXN := Lib.hid hxn
  have HYN := Lib.hid hyn
  clear hxn hyn
  go_enter Try.func52, Try.ntmps52
  go_wp2_with fail
  have HS := Lib.hid (And.intro BX.out BY.out)
  refine wp_region_held_drew (S := fun u => Blk u w.heap.size (flatP [x.c.cells, [x.v]]) ∧ Blk u (w.heap.size + 1) (flatP [y.c.cells, [y.v]])) (by kernel_rfl) (⟨BX.out, BY.out⟩) (fun _ => ?_)
  (try simp only [Act.put, List.setIfInBounds_toArray, List.set_cons_zero, List.set_cons_succ])
  refine wpAnyH_take (i := 0) (oi := ⟨some 5, _, _, _, _, _⟩) (v := .pointer (some ⟨w.heap.size, 0, none⟩)) rfl (by kernel_rfl) (by kernel_rfl) (by kernel_rfl) (fun _ _ _ h => h) (Or.inl ⟨by rfl, fun wz hz => ?_⟩) HS.out ?_
  · clear hz; go_simp; first | done | with_reducible rfl | rfl
  (try simp only [Act.put, List.setIfInBounds_toArray, List.set_cons_zero, List.set_cons_succ])
  refine wpAnyH_take (i := 1) (oi := ⟨some 6, _, _, _, _, _⟩) (v := .pointer (some ⟨w.heap.size, 0, none⟩)) rfl (by kernel_rfl) (by kernel_rfl) (by kernel_rfl) (fun _ _ _ h => h) (Or.inl ⟨by rfl, fun wz hz => ?_⟩) HS.out ?_
  · clear hz; go_simp; first | done | with_reducible rfl | rfl
  (try simp only [Act.put, List.setIfInBounds_toArray, List.set_cons_zero, List.set_cons_succ])
  refine held_load1 (oi := ⟨some 7, _, _, _, _, _⟩) 2 rfl (by kernel_rfl) (by kernel_rfl) (by kernel_rfl) (fun _ _ _ _ h => h) rfl 22 (.tmp 6) rfl w.heap.size 0 rfl (.int .u64 xn) _ (fun u' hu => HXN.out ▸ (tab_parts hu.1).1) Try.underlying22 rfl HS.out ?_
  (try simp only [Act.put, List.setIfInBounds_toArray, List.set_cons_zero, List.set_cons_succ])
  refine wpAnyH_take (i := 3) (oi := ⟨some 8, _, _, _, _, _⟩) (v := .pointer (some ⟨w.heap.size + 1, 0, none⟩)) rfl (by kernel_rfl) (by kernel_rfl) (by kernel_rfl) (fun _ _ _ h => h) (Or.inl ⟨by rfl, fun wz hz => ?_⟩) HS.out ?_
  · clear hz; go_simp; first | done | with_reducible rfl | rfl
  (try simp only [Act.put, List.setIfInBounds_toArray, List.set_cons_zero, List.set_cons_succ])
  refine wpAnyH_take (i := 4) (oi := ⟨some 9, _, _, _, _, _⟩) (v := .pointer (some ⟨w.heap.size + 1, 0, none⟩)) rfl (by kernel_rfl) (by kernel_rfl) (by kernel_rfl) (fun _ _ _ h => h) (Or.inl ⟨by rfl, fun wz hz => ?_⟩) HS.out ?_
  · clear hz; go_simp; first | done | with_reducible rfl | rfl
  (try simp only [Act.put, List.setIfInBounds_toArray, List.set_cons_zero, List.set_cons_succ])
  refine held_load1 (oi := ⟨some 10, _, _, _, _, _⟩) 5 rfl (by kernel_rfl) (by kernel_rfl) (by kernel_rfl) (fun _ _ _ _ h => h) rfl 22 (.tmp 9) rfl (w.heap.size + 1) 0 rfl (.int .u64 yn) _ (fun u' hu => HYN.out ▸ (tab_parts hu.2).1) Try.underlying22 rfl HS.out ?_
  (try simp only [Act.put, List.setIfInBounds_toArray, List.set_cons_zero, List.set_cons_succ])
  refine wpAnyH_take (i := 7) (oi := ⟨some 12, _, _, _, _, _⟩) (v := .pointer (some ⟨w.heap.size, 0, none⟩)) rfl (by kernel_rfl) (by kernel_rfl) (by kernel_rfl) (fun _ _ _ h => h) (Or.inl ⟨by rfl, fun wz hz => ?_⟩) HS.out ?_
  · clear hz; go_simp; first | done | with_reducible rfl | rfl
  (try simp only [Act.put, List.setIfInBounds_toArray, List.set_cons_zero, List.set_cons_succ])
  refine wpAnyH_take (i := 8) (oi := ⟨some 13, _, _, _, _, _⟩) (v := .pointer (some ⟨w.heap.size, 1, none⟩)) rfl (by kernel_rfl) (by kernel_rfl) (by kernel_rfl) (fun _ _ _ h => h) (Or.inl ⟨by rfl, fun wz hz => ?_⟩) HS.out ?_
  · clear hz; go_simp; first | done | with_reducible rfl | rfl
  (try simp only [Act.put, List.setIfInBounds_toArray, List.set_cons_zero, List.set_cons_succ])
  refine wpAnyH_take (i := 9) (oi := ⟨some 14, _, _, _, _, _⟩) (v := .slice (some ⟨w.heap.size, 1, none⟩) 32 32) rfl (by kernel_rfl) (by kernel_rfl) (by kernel_rfl) (fun _ _ _ h => h) (Or.inl ⟨by rfl, fun wz hz => ?_⟩) HS.out ?_
  · clear hz; go_simp; first | done | with_reducible rfl | rfl
  (try simp only [Act.put, List.setIfInBounds_toArray, List.set_cons_zero, List.set_cons_succ])
  refine wpAnyH_take (i := 10) (oi := ⟨some 15, _, _, _, _, _⟩) (v := .pointer (some ⟨w.heap.size + 1, 0, none⟩)) rfl (by kernel_rfl) (by kernel_rfl) (by kernel_rfl) (fun _ _ _ h => h) (Or.inl ⟨by rfl, fun wz hz => ?_⟩) HS.out ?_
  · clear hz; go_simp; first | done | with_reducible rfl | rfl
  (try simp only [Act.put, List.setIfInBounds_toArray, List.set_cons_zero, List.set_cons_succ])
  refine wpAnyH_take (i := 11) (oi := ⟨some 16, _, _, _, _, _⟩) (v := .pointer (some ⟨w.heap.size + 1, 1, none⟩)) rfl (by kernel_rfl) (by kernel_rfl) (by kernel_rfl) (fun _ _ _ h => h) (Or.inl ⟨by rfl, fun wz hz => ?_⟩) HS.out ?_
  · clear hz; go_simp; first | done | with_reducible rfl | rfl
  (try simp only [Act.put, List.setIfInBounds_toArray, List.set_cons_zero, List.set_cons_succ])
  refine wpAnyH_take (i := 12) (oi := ⟨some 17, _, _, _, _, _⟩) (v := .slice (some ⟨w.heap.size + 1, 1, none⟩) 32 32) rfl (by kernel_rfl) (by kernel_rfl) (by kernel_rfl) (fun _ _ _ h => h) (Or.inl ⟨by rfl, fun wz hz => ?_⟩) HS.out ?_
  · clear hz; go_simp; first | done | with_reducible rfl | rfl
  (try simp only [Act.put, List.setIfInBounds_toArray, List.set_cons_zero, List.set_cons_succ])
  refine wpAnyH_ready (rs := [6]) (by kernel_rfl) (by simp) ?_
  refine AllReadyH.cons rfl (fun K hK => ?_) AllReadyH.nil
  go_simp
  refine (HCN.out _).mono ?_
  rintro e w1 ⟨rfl, rfl⟩
  skip
  refine hK.out _ _ (HS.out) (fun _ => ?_)
  clear hK K
  (try simp only [Act.put, List.setIfInBounds_toArray, List.set_cons_zero, List.set_cons_succ])
  refine wpAnyH_ready (rs := [13]) (by kernel_rfl) (by simp) ?_
  refine AllReadyH.cons rfl (fun K hK => ?_) AllReadyH.nil
  go_simp
  refine (HCB.out (((w.alloc (.cells X 36)).alloc (.cells Y 36)).drew) (tab_parts HS.out.1).2 (tab_parts HS.out.2).2).mono ?_
  rintro e w1 ⟨rfl, rfl⟩
  skip
  refine hK.out _ _ (HS.out) (fun _ => ?_)
  clear hK K
  (try simp only [Act.put, List.setIfInBounds_toArray, List.set_cons_zero, List.set_cons_succ])
  refine wpAnyH_ready (rs := [14]) (by kernel_rfl) (by simp) ?_
  refine AllReadyH.cons rfl (fun K hK => ?_) AllReadyH.nil
  go_simp
  have HS2 : Hid (Blk (((w.alloc (.cells X 36)).alloc (.cells Y 36)).drew.alloc (.cells #[.int .i64 r1, .int .i64 r2] 3)) w.heap.size (flatP [x.c.cells, [x.v]]) ∧ Blk (((w.alloc (.cells X 36)).alloc (.cells Y 36)).drew.alloc (.cells #[.int .i64 r1, .int .i64 r2] 3)) (w.heap.size + 1) (flatP [y.c.cells, [y.v]])) := ⟨(show Blk ((w.alloc (.cells X 36)).alloc (.cells Y 36)).drew _ _ from HS.out.1).alloc _, (show Blk ((w.alloc (.cells X 36)).alloc (.cells Y 36)).drew _ _ from HS.out.2).alloc _⟩
  have HB2 : Hid (Blk (((w.alloc (.cells X 36)).alloc (.cells Y 36)).drew.alloc (.cells #[.int .i64 r1, .int .i64 r2] 3)) (w.heap.size + 2) #[.int .i64 r1, .int .i64 r2]) := Blk.new (by simp)
  refine hK.out _ _ HS2.out (fun _ => ?_)
  clear hK K
  (try simp only [Act.put, List.setIfInBounds_toArray, List.set_cons_zero, List.set_cons_succ])
  refine wpAnyH_ready (rs := [15]) (by kernel_rfl) (by simp) ?_
  refine AllReadyH.cons rfl (fun K hK => ?_) AllReadyH.nil
  go_simp
  refine (HOR.out _ (w.heap.size + 2) HB2.out).mono ?_
  rintro e w1 ⟨rfl, rfl⟩
  skip
  refine hK.out _ _ (HS2.out) (fun _ => ?_)
  clear hK K
  (try simp only [Act.put, List.setIfInBounds_toArray, List.set_cons_zero, List.set_cons_succ])
  refine wpAnyH_ready (rs := [16]) (by kernel_rfl) (by simp) ?_
  refine AllReadyH.cons rfl (fun K hK => ?_) AllReadyH.nil
  go_simp
  refine hK.out _ _ (HS2.out) (fun _ => ?_)
  clear hK K
  (try simp only [Act.put, List.setIfInBounds_toArray, List.set_cons_zero, List.set_cons_succ])
  refine wpAnyH_done (by kernel_rfl) ?_ _
  go_wp2_with fail
  go_ret

  refine ⟨rfl, 1, #[.cells X 36, .cells Y 36, .cells #[.int .i64 r1, .int .i64 r2] 3], ?_⟩
  rw [alloc_eq_grow, alloc_eq_grow, alloc_eq_grow]; rfl
end

/-! BkG -/
section
set_option linter.unusedVariables false
set_option linter.unusedSimpArgs false
open Go.RowKit Go.Shelf Go.Sort

set_option maxRecDepth 100000

theorem cmpI_lt {x y : Int} (h : x < y) : cmpI x y = -1 := by unfold cmpI; rw [if_pos h]

theorem cmpI_gt {x y : Int} (h : y < x) : cmpI x y = 1 := by unfold cmpI; rw [if_neg (by omega), if_pos h]

theorem cmpI_eq (x : Int) : cmpI x x = 0 := by unfold cmpI; rw [if_neg (by omega), if_neg (by omega)]

theorem cfC_lt {c d : CpD} : cfC c d < 0 ↔ c.n < d.n ∨ (c.n = d.n ∧ cmpB c.r d.r < 0) := by
  unfold cfC orV
  rcases Int.lt_trichotomy c.n d.n with h | h | h
  · rw [cmpI_lt h]; simp; omega
  · rw [h, cmpI_eq]; simp
  · rw [cmpI_gt h]; simp; omega

theorem cfC_zero {c d : CpD} (hc : c.ok) (hd : d.ok) : cfC c d = 0 ↔ c = d := by
  unfold cfC orV
  have hz := cmpB_zero c.r d.r (by rw [hc.2.2.1, hd.2.2.1])
  constructor
  · intro h
    rcases Int.lt_trichotomy c.n d.n with h1 | h1 | h1
    · rw [cmpI_lt h1] at h; simp at h
    · rw [h1, cmpI_eq] at h
      have := hz.1 (by simpa using h)
      cases c; cases d; simp_all
    · rw [cmpI_gt h1] at h; simp at h
  · rintro rfl
    rw [cmpI_eq]; simpa using hz.2 rfl

/-- The order of checkpoints. -/
def ltC (c d : CpD) : Prop := c.n < d.n ∨ (c.n = d.n ∧ cmpB c.r d.r < 0)

theorem ltC_irrefl (c : CpD) : ¬ ltC c c := by
  rintro (h | ⟨_, h⟩)
  · omega
  · have := (cmpB_zero c.r c.r rfl).2 rfl; omega

theorem ltC_trans {c d e : CpD} (hc : c.ok) (hd : d.ok) (he : e.ok) (h1 : ltC c d) (h2 : ltC d e) : ltC c e := by
  have l1 : c.r.length = d.r.length := by rw [hc.2.2.1, hd.2.2.1]
  have l2 : d.r.length = e.r.length := by rw [hd.2.2.1, he.2.2.1]
  rcases h1 with h1 | ⟨h1, k1⟩ <;> rcases h2 with h2 | ⟨h2, k2⟩
  · exact .inl (by omega)
  · exact .inl (by omega)
  · exact .inl (by omega)
  · refine .inr ⟨by omega, ?_⟩
    have a := cmpB_trans c.r d.r e.r l1 l2 (by omega) (by omega)
    rcases Int.lt_or_eq_of_le a with a | a
    · exact a
    · have h := (cmpB_zero c.r e.r (l1.trans l2)).1 a
      have b := cmpB_anti c.r d.r l1
      rw [← h] at k2
      omega

theorem ltC_total {c d : CpD} (hc : c.ok) (hd : d.ok) (hne : c ≠ d) : ltC c d ∨ ltC d c := by
  have l : c.r.length = d.r.length := by rw [hc.2.2.1, hd.2.2.1]
  rcases Int.lt_trichotomy c.n d.n with h | h | h
  · exact .inl (.inl h)
  · have b := cmpB_anti c.r d.r l
    have z := cmpB_zero c.r d.r l
    by_cases h0 : cmpB c.r d.r < 0
    · exact .inl (.inr ⟨h, h0⟩)
    · by_cases h1 : cmpB c.r d.r = 0
      · exact absurd (by have := z.1 h1; cases c; cases d; simp_all) hne
      · exact .inr (.inr ⟨h.symm, by omega⟩)
  · exact .inr (.inl h)

theorem ltC_asymm {c d : CpD} (hc : c.ok) (hd : d.ok) (h1 : ltC c d) : ¬ ltC d c := fun h2 => ltC_irrefl c (ltC_trans hc hd hc h1 h2)

theorem ltOf_iff {x y : TbS} : ltOf cfT x y = true ↔ ltC x.c y.c := by
  rw [show ltOf cfT x y = decide (cfT x y < 0) from rfl, decide_eq_true_iff]; exact cfC_lt

theorem ltOf_iff' {x y : TbS} : ltOf cfT x y = false ↔ ¬ ltC x.c y.c := by rw [← ltOf_iff]; simp

theorem cfT_swo : SWO (ltOf cfT) where
  irrefl x := by rw [ltOf_iff']; exact ltC_irrefl _
  trans x y z h1 h2 := by rw [ltOf_iff] at *; exact ltC_trans x.ok y.ok z.ok h1 h2
  ntrans x y z h1 h2 := by
    rw [ltOf_iff'] at *
    intro h
    by_cases hxy : x.c = y.c
    · rw [hxy] at h; exact h2 h
    · rcases ltC_total x.ok y.ok hxy with h3 | h3
      · exact h1 h3
      · exact h2 (ltC_trans y.ok x.ok z.ok h3 h)

/-- Cells of a table that is this checkpoint with these balances; its slice lies from block N on, where P says; fr: its row may be written. -/
def TabElP (Q : Value → Prop) (fr : Prop) (P : Value → Prop) (w : World) (X : Array Value) (d : CpD × List Int) : Prop :=
  d.1.ok ∧ ∃ a n k, X = flatP [d.1.cells, [.slice a n k]] ∧ NumsV w (.slice a n k) d.2 ∧ Q (.slice a n k) ∧ (fr → Free w (.slice a n k)) ∧ P (.slice a n k)
abbrev TabEl (N : Nat) (fr : Prop) := TabElP (New N) fr

theorem tabOKP (Q : Value → Prop) (fr : Prop) : ElOK 34 (TabElP Q fr) where
  size := fun {P w X a} h => by obtain ⟨hc, a', n, k, rfl, _⟩ := h; exact (tabOff hc _).2.2
  one := fun {P w X a} h => by
    obtain ⟨hc, a', n, k, rfl, _⟩ := h
    refine flatP_one fun p hp v hv => ?_
    simp only [List.mem_cons, List.not_mem_nil, or_false] at hp
    rcases hp with rfl | rfl
    · exact CpD.one _ v hv
    · rw [List.mem_singleton.1 hv]; rfl
  mono := fun {P Q w X a} h hPQ => by obtain ⟨hc, a', n, k, e, h1, h2, h3, h4⟩ := h; exact ⟨hc, a', n, k, e, h1, h2, h3, hPQ _ h4⟩
  grown := fun {P w w' X a row} h hg hoff => by
    obtain ⟨hc, a', n, k, e, h1, h2, h3, h4⟩ := h
    exact ⟨hc, a', n, k, e, ⟨h1.1.grownOff hg fun g e => hoff g _ e h4, h1.2⟩, h2, fun hf => (h3 hf).grown hg fun g e => hoff g _ e h4, h4⟩
  off := fun {P w X a g} h hg => by
    obtain ⟨hc, a', n, k, e, h1, h2, h3, h4⟩ := h
    exact ⟨hc, a', n, k, e, h1, h2, h3, h4, h1.1.off hg⟩

theorem tabOK (N : Nat) (fr : Prop) : ElOK 34 (TabEl N fr) := tabOKP (New N) fr

/-- The elements of a row, one by one. -/
theorem tab_elems {N : Nat} {fr : Prop} {P : Value → Prop} {w : World} : ∀ {Xs : List (Array Value)} {ds : List (CpD × List Int)}, AllEl (TabEl N fr) P w Xs ds →
    ∃ T : List TbS, Xs = T.map (fun x => (encT x).toArray) ∧ T.map TbS.c = ds.map Prod.fst ∧ ∀ p ∈ T.zip ds, NumsV w p.1.v p.2.2 ∧ New N p.1.v ∧ (fr → Free w p.1.v) ∧ P p.1.v
  | [], [], _ => ⟨[], rfl, rfl, fun p hp => by simp at hp⟩
  | [], _ :: _, h => by have := h.1; simp at this
  | _ :: _, [], h => by have := h.1; simp at this
  | X :: Xs, d :: ds, h => by
    have h0 : TabEl N fr P w X d := h.2 (X, d) (by simp)
    obtain ⟨T, e1, e2, e3⟩ := tab_elems (Xs := Xs) (ds := ds) ⟨by have := h.1; simpa using this, fun p hp => h.2 p (by simp [hp])⟩
    obtain ⟨hc, a, n, k, rfl, h1, h2, h3, h4⟩ := h0
    refine ⟨⟨d.1, hc, a, n, k⟩ :: T, by rw [List.map_cons, ← e1, encT_flat]; rfl, by simp [e2], fun p hp => ?_⟩
    rw [List.zip_cons_cons, List.mem_cons] at hp
    rcases hp with rfl | hp
    · exact ⟨h1, h2, h3, h4⟩
    · exact e3 p hp

theorem rows_flat (T : List TbS) : rowsL (T.map fun x => (encT x).toArray) = (flatK encT 34 T.toArray).toList := by
  have hs : ∀ X ∈ T.map (fun x => (encT x).toArray), X.size = 34 := by
    intro X hX
    obtain ⟨x, _, rfl⟩ := List.mem_map.1 hX
    simp [encT_len]
  have hl : (rowsL (T.map fun x => (encT x).toArray)).length = T.length * 34 := by rw [rowsL_len hs]; simp
  apply List.ext_getElem?
  intro t
  by_cases ht : t < T.length * 34
  · have e1 := rowsL_at hs (i := t / 34) (by simp; omega) (j := t % 34) (by omega)
    rw [show t / 34 * 34 + t % 34 = t by omega] at e1
    rw [e1]
    have h' : t < (flatK encT 34 T.toArray).size := by simpa using ht
    have e2 := get_flatK encT 34 T.toArray t (by simpa using ht)
    rw [getElem!_pos _ t h'] at e2
    have e3 : (flatK encT 34 T.toArray).toList[t]? = some ((encT T.toArray[t / 34]!)[t % 34]!) := by rw [Array.getElem?_toList, Array.getElem?_eq_getElem h', e2]
    rw [e3]
    have hi : t / 34 < T.length := by omega
    have hj : t % 34 < (encT T[t / 34]).length := by rw [encT_len]; omega
    simp [getElem!_pos, hi, hj]
  · rw [List.getElem?_eq_none (by omega), List.getElem?_eq_none (by simp; omega)]

/-- A row of the call's own, as the sort asks it. -/
theorem own_holdsT {w : World} {base n : Nat} {v : Value} {T : List TbS} (h : w.ownsRow base 36 34 v n (rowsL (T.map fun x => (encT x).toArray))) (hn : v ≠ .slice none 0 0) :
    ∃ g cap, v = .slice (some ⟨g, 0, none⟩) n cap ∧ base ≤ g ∧ g < w.heap.size ∧ n ≤ cap ∧ cap ≤ maxLen ∧ T.length = n ∧ HoldsK encT 34 w g 0 T.toArray := by
  rw [rows_flat] at h
  obtain ⟨hl, h⟩ := h
  simp at hl
  rcases h with ⟨h, _⟩ | ⟨g, cap, cur, rfl, hb, hg, hnc, hcm, hcs, ht⟩
  · exact absurd h hn
  · refine ⟨g, cap, rfl, hb, (Array.getElem?_eq_some_iff.1 hg).1, hnc, hcm, by omega, fun t hsz => ?_⟩
    have hs' : t < T.length * 34 := by simpa using hsz
    refine ⟨?_, by simp [World.frozen?, hg]⟩
    have e : cur.toList[t]? = (flatK encT 34 T.toArray).toList[t]? := by rw [← ht, List.getElem?_take_of_lt (by omega)]
    have h' : t < (flatK encT 34 T.toArray).size := by simpa using hs'
    rw [Array.getElem?_toList, Array.getElem?_toList, Array.getElem?_eq_getElem h'] at e
    rw [getElem!_pos (flatK encT 34 T.toArray) t h', Nat.zero_add]
    simp only [World.cell?, hg]
    simpa using e

theorem holds_rows {w : World} {g : Nat} {T : List TbS} (h : HoldsK encT 34 w g 0 T.toArray) : w.rangeAt g 0 (rowsL (T.map fun x => (encT x).toArray)) := by
  rw [rows_flat]
  intro j v hj
  have hlt : j < (flatK encT 34 T.toArray).size := by
    have := (List.getElem?_eq_some_iff.1 hj).1
    simpa using this
  obtain ⟨h1, _⟩ := h j hlt
  rw [h1]
  rw [Array.getElem?_toList, Array.getElem?_eq_getElem hlt] at hj
  rw [getElem!_pos (flatK encT 34 T.toArray) j hlt]
  simpa using hj

theorem below_sortedT {w : World} {base g n : Nat} {d : Array TbS} {os : Array Obj} {w0 : World} (h : Below base w0 w) (hg : base ≤ g) (hlt : g < w.heap.size) : Below base w0 (sortWorldK encT 34 w g 0 n d os) := by
  unfold sortWorldK putRowK
  have hp : Below base w0 (putRow id (Sort.ahead w n) g 0 (flatK encT 34 d)) := Lib.below_putRow h hg
  refine ⟨hp.os, hp.tape, hp.output, by rw [size_grow]; exact Nat.le_trans hp.size (Nat.le_add_right _ _), fun k hk => ?_⟩
  rw [heap_grow_old _ _ (show k < _ from ?_)]
  · exact hp.block k hk
  · have : (putRow id (Sort.ahead w n) g 0 (flatK encT 34 d)).heap.size = w.heap.size := by simp [putRow, mapBlock, Sort.ahead]
    omega

/-- slices.SortFunc with compareTables. -/
theorem sortT_row (g cap base : Nat) (T : List TbS) (w w0 : World) (hb : Below base w0 w) (hg : base ≤ g) (hlt : g < w.heap.size) (hl : T.length ≤ 1000000000) (hH : HoldsK encT 34 w g 0 T.toArray) :
    Calls Try.prog 51 #[.slice (some ⟨g, 0, none⟩) T.length cap, .func (.func 52) #[] #[]] w fun e w' =>
      e = .returned (.tuple #[]) ∧ ∃ M : List TbS, M.Perm T ∧ M.Pairwise (fun x y => ¬ ltC y.c x.c) ∧ Below base w0 w' ∧ g < w'.heap.size ∧ HoldsK encT 34 w' g 0 M.toArray ∧ w.grownBy w' (some g) := by
  have eg : ∀ args w, (callFunc 52 args).run Try.prog w = .ok (.enter 52 args) w := enters_of Try.func52 (by kernel_rfl) rfl
  have h := AnyQ.slices_SortFunc Try.sortT 34 Try.isAgg36 Try.sizeOf36 encT encT_len encT_one cfT cfT_swo 52 #[] g 0 cap T.toArray w eg (fun m os dk _ x y => ctab_grow x y _) hH hlt (by simp; omega)
  refine (show Calls Try.prog 51 #[.slice (some ⟨g, 0, none⟩) T.length cap, .func (.func 52) #[] #[]] w _ from h).mono ?_
  rintro e w' ⟨rfl, d', n, os, hp, hs, rfl⟩
  obtain ⟨hsz, _, hperm⟩ := hp
  have e1 : d'.extract 0 T.toArray.size = d' := by rw [← hsz]; exact Array.extract_size
  rw [e1, Array.extract_size] at hperm
  refine ⟨rfl, d'.toList, by simpa using hperm, ?_, below_sortedT hb hg hlt, lt_sortWorldK _ _ _ _ _ _ _ _ hlt, ?_, ⟨rfl, rfl, rfl, size_sortWorldK_c _ _ _ _ _ _ _ _, fun k hk hne => ?_⟩⟩
  · rw [List.pairwise_iff_getElem]
    intro i j hi hj hij
    have := hs i j (Nat.zero_le _) hij (by rw [← hsz]; simpa using hj)
    rw [ltOf_iff'] at this
    simp only [Array.length_toList] at hi hj
    simpa [getElem!_pos, hi, hj] using this
  · have := holdsK_sortWorldK encT 34 w g 0 n T.toArray d' os hlt hH (by simpa using hsz)
    simpa using this
  · unfold sortWorldK putRowK
    rw [heap_grow_old _ _ (by simp only [putRow, mapBlock, Sort.ahead]; simp; omega)]
    simp [putRow, mapBlock, Sort.ahead, Array.getElem?_modify, show g ≠ k from fun e => hne (by rw [e])]
end

/-! BkH -/
section
set_option linter.unusedVariables false
set_option linter.unusedSimpArgs false
open Go.RowKit Go.Shelf Go.Sort Go.Maps

set_option maxRecDepth 100000
/-! ### blocks that hold no cells -/

def NoCells (w : World) (r : Nat) : Prop := ∀ z : Addr, z.block = r → w.cell? z = none

theorem RangeIs.noIter {w : World} {b r cnt : Nat} {L U : Ents} (h : RangeIs w b r L U cnt) : NoCells w r := by
  obtain ⟨n, left, ⟨es, clock, since, seen, c0, _, _, _, _, hr, _⟩, _⟩ := h
  intro z e
  simp [World.cell?, e, hr]

theorem NoCells.offI {w : World} {r : Nat} (h : NoCells w r) {k : IntKind} {v : Value} {xs : List Int} (hv : Ints k w v xs) : Off r v := fun z l c e h0 eb => by
  have := hv.at0 e h0
  rw [h z eb] at this; cases this

theorem ownsRow_off {w : World} {B : Nat} {e : TypeId} {sz : Nat} {v : Value} {n : Nat} {xs : List Value} (h : w.ownsRow B e sz v n xs) {r : Nat} (hn : ∀ cur t f, w.heap[r]? ≠ some (.cells cur t f)) : ∀ g, v.ownBlock = some g → g ≠ r := by
  rintro g hg rfl
  rcases h.2 with ⟨rfl, _⟩ | ⟨g', cap, cur, rfl, _, hb, _⟩
  · cases hg
  · cases hg; exact hn _ _ _ hb

theorem RangeIs.iterObj {w : World} {b r cnt : Nat} {L U : Ents} (h : RangeIs w b r L U cnt) : ∀ cur t f, w.heap[r]? ≠ some (.cells cur t f) := by
  obtain ⟨n, left, ⟨es, clock, since, seen, c0, _, _, _, _, hr, _⟩, _⟩ := h
  intro cur t f; rw [hr]; intro e; cases e

theorem MapIs.mapObj {w : World} {b : Nat} {L : Ents} (h : MapIs w b L) : ∀ cur t f, w.heap[b]? ≠ some (.cells cur t f) := by
  obtain ⟨es, clock, hb⟩ := h.obj
  intro cur t f; rw [hb]; intro e; cases e

/-- A row of tables while a block that holds no cells turns. -/
theorem OwnEl.keptNC {N : Nat} {fr : Prop} {w w' : World} {B : Nat} {v : Value} {ds : List (CpD × List Int)} {r : Nat} (h : OwnEl (TabEl N fr) 36 34 w B v ds) (hg : w.grownBy w' (some r)) (hn : ∀ cur t f, w.heap[r]? ≠ some (.cells cur t f)) (hc : NoCells w r) :
    OwnEl (TabEl N fr) 36 34 w' B v ds := by
  refine h.grown (tabOK N fr) hg (fun n hv e => ?_) fun X d hX => ?_
  · obtain ⟨Xs, h1, _⟩ := h
    cases e
    exact ownsRow_off h1 hn _ hv rfl
  · obtain ⟨hd, a, n, k, e, h1, h2, h3, h4⟩ := hX
    have ho := hc.offI h1.1
    exact ⟨hd, a, n, k, e, ⟨h1.1.grownOff hg fun g e => by cases e; exact ho, h1.2⟩, h2, fun hf => (h3 hf).grown hg fun g e => by cases e; exact ho, h4⟩
/-! ### the loop's step -/

theorem wpList_nextC {ops : Array Oper} {rest : List Oper} {o : Oper} {a : Act} {w : World} {Q : Exit → Act → World → Prop} (hg : o.guard = none) (it : Operand) (hop : o.op = Op.next it false) (b r cnt : Nat) (L U : Ents)
    (hit : a.eval it = .pointer (some ⟨r, 0, none⟩)) (h : RangeIs w b r L U cnt)
    (hDone : U = [] → wpList Try.prog ops Q rest (a.put o.dst (.tuple #[.bool false])) w)
    (hMore : ∀ (c : CpD) (v : Value) (U' : Ents) (w' : World) (cnt' : Nat), U.Perm ((c, v) :: U') → RangeIs w' b r L U' cnt' → cnt' < cnt → w.grownBy w' (some r) → w'.heap.size = w.heap.size →
      (Instr.entry (.pointer (some ⟨r, 0, none⟩))).run Try.prog w' = .ok (.tuple #[.agg c.cells.toArray, v]) w' → wpList Try.prog ops Q rest (a.put o.dst (.tuple #[.bool true, .agg c.cells.toArray, v])) w') :
    wpList Try.prog ops Q (o :: rest) a w := by
  refine wpList_plain hg fun K' hK' => ?_
  unfold Oper.wp
  rcases h.next o.type with ⟨h0, hrun⟩ | ⟨⟨c, v⟩, U', w', cnt', hp, hrun, hrg, hlt, hgr, hsz, hen⟩
  · simp [execOp, hop, hit, hrun, Result.andThen]
    exact hK' _ _ (hDone h0)
  · simp only [cpX] at hrun hen
    simp [execOp, hop, hit, hrun, Result.andThen]
    exact hK' _ _ (hMore c v U' w' cnt' hp hrg hlt hgr hsz hen)

theorem wpList_rangeC {ops : Array Oper} {rest : List Oper} {o : Oper} {a : Act} {w : World} {Q : Exit → Act → World → Prop} (hg : o.guard = none) (m : Operand) (t e : TypeId) (hop : o.op = Op.range t m) (ht : Try.prog.underlying t = some (.map 34 e)) (b : Nat) (L : Ents)
    (hm : a.eval m = .map (some b)) (h : MapIs w b L)
    (hK : ∀ w', RangeIs w' b w.heap.size L L L.length → w.grownBy w' none → w'.heap.size = w.heap.size + 1 → wpList Try.prog ops Q rest (a.put o.dst (.pointer (some ⟨w.heap.size, 0, none⟩))) w') :
    wpList Try.prog ops Q (o :: rest) a w := by
  refine wpList_plain hg fun K' hK' => ?_
  obtain ⟨w', hrun, r1, r2, r3⟩ := h.range ht
  unfold Oper.wp
  simp [execOp, hop, hm, hrun, Result.andThen]
  exact hK' _ _ (hK w' r1 r2 r3)

theorem wpList_lenC {ops : Array Oper} {rest : List Oper} {o : Oper} {a : Act} {w : World} {Q : Exit → Act → World → Prop} (hg : o.guard = none) (m : Operand) (t e : TypeId) (hop : o.op = Op.call { callee := Callee.builtin Builtin.len, args := #[m], argTypes := #[t] }) (ht : Try.prog.underlying t = some (.map 34 e)) (b : Nat) (L : Ents)
    (hm : a.eval m = .map (some b)) (h : MapIs w b L) (hK : wpList Try.prog ops Q rest (a.put o.dst (.int .i64 L.length)) w) : wpList Try.prog ops Q (o :: rest) a w := by
  refine wpList_plain hg fun K' hK' => ?_
  have hrun := h.len ht o.type
  unfold Oper.wp
  simp [execOp, hop, resolve, invoke, builtin, hm, hrun, Result.andThen]
  exact hK' _ _ hK

theorem at_lenC {P : Program} {ops : Array Oper} {Q : Exit → Act → World → Prop} {dst : Option Tmp} (t : TypeId) (x : Operand) {ty' : TypeId} {pos : String} {aft : Array Edge} {g : Option (Nat × Bool)} {rest : List Oper} {a : Act} {w : World}
    (h : wpList P ops Q (⟨dst, .call { callee := .builtin .len, args := #[x], argTypes := #[t] }, ty', pos, aft, g⟩ :: rest) a w) : wpList P ops Q (⟨dst, .call { callee := .builtin .len, args := #[x], argTypes := #[t] }, ty', pos, aft, g⟩ :: rest) a w := h

theorem info_tab : (Try.prog.info? 36).map (fun i => (i.zero, i.size, i.bytes)) = some (some (.agg (flatP [zeC.cells, [nilS]])), 34, 64) := by kernel_rfl

def TabsRel (w : World) (mb r : Nat) (E : List TeD) (v : Value) (wr : World) : Prop :=
  ∃ (ds : List (CpD × List Int)) (U : Ents) (cnt : Nat), RangeIs wr mb r (E.map TeD.ent) U cnt ∧ OwnEl (TabEl w.heap.size True) 36 34 wr w.heap.size v ds ∧ (ds.map Prod.fst ++ U.map Prod.fst).Perm (E.map TeD.c) ∧ (∀ d ∈ ds, d.2 = tlst E d.1) ∧ Below w.heap.size w wr

/-- What Tables hands back. -/
def TabsR (w : World) (E : List TeD) (e : Ending) (w' : World) : Prop :=
  ∃ (v : Value) (T : List TbS), e = .returned v ∧ Below w.heap.size w w' ∧ ((T = [] ∧ ∃ a k, v = .slice a 0 k) ∨ ∃ g cap, v = .slice (some ⟨g, 0, none⟩) T.length cap ∧ w.heap.size ≤ g ∧ g < w'.heap.size ∧ 0 < T.length ∧ HoldsK encT 34 w' g 0 T.toArray ∧ ∀ x ∈ T, Off g x.v) ∧
    (∀ x ∈ T, NumsV w' x.v (tlst E x.c) ∧ New w.heap.size x.v ∧ Free w' x.v) ∧ (T.map TbS.c).Perm (E.map TeD.c) ∧ T.Pairwise (fun x y => ltC x.c y.c)

theorem ents_nodup {w : World} {b mb : Nat} {n lim : Int} {E : List TeD} (h : BookIs w b mb n lim E) : (E.map TeD.c).Nodup := by
  have := h.map.2.nodup
  rwa [List.map_map] at this

theorem tlst_mem {E : List TeD} (h : (E.map TeD.c).Nodup) {e : TeD} (he : e ∈ E) : tlst E e.c = e.l := by
  unfold tlst
  induction E with
  | nil => cases he
  | cons x r ih =>
    rw [List.map_cons, List.nodup_cons] at h
    rcases List.mem_cons.1 he with rfl | he
    · simp [tget]
    · have hne : x.c ≠ e.c := fun e' => h.1 (List.mem_map.2 ⟨e, he, e'.symm⟩)
      simp only [tget, if_neg hne]
      exact ih h.2 he

theorem sorted_strict {M : List TbS} (h : M.Pairwise (fun x y => ¬ ltC y.c x.c)) (hn : (M.map TbS.c).Nodup) : M.Pairwise (fun x y => ltC x.c y.c) := by
  have h2 : M.Pairwise (fun x y => x.c ≠ y.c) := by rwa [List.Nodup, List.pairwise_map] at hn
  refine (h.and h2).imp fun {x y} hxy => ?_
  rcases ltC_total x.ok y.ok hxy.2 with h3 | h3
  · exact h3
  · exact absurd h3 hxy.1

theorem zip_pick {T : List TbS} {ds : List (CpD × List Int)} (e : T.map TbS.c = ds.map Prod.fst) {x : TbS} (hx : x ∈ T) : ∃ d, (x, d) ∈ T.zip ds ∧ x.c = d.1 ∧ d ∈ ds := by
  induction T generalizing ds with
  | nil => cases hx
  | cons y r ih =>
    cases ds with
    | nil => simp at e
    | cons d s =>
      simp only [List.map_cons, List.cons.injEq] at e
      rcases List.mem_cons.1 hx with rfl | hx
      · exact ⟨d, by simp, e.1, by simp⟩
      · obtain ⟨d', h1, h2, h3⟩ := ih e.2 hx
        exact ⟨d', by simp [h1], h2, List.mem_cons_of_mem _ h3⟩

/-- From the row that was filled to what is handed back. -/
theorem tabs_fin {w w1 w2 : World} {b mb : Nat} {n lim : Int} {E : List TeD} (hB : BookIs w b mb n lim E) {g cap : Nat} {T M : List TbS} (hp : M.Perm T) (hs : M.Pairwise (fun x y => ¬ ltC y.c x.c)) (hT : (T.map TbS.c).Perm (E.map TeD.c))
    (hel : ∀ x ∈ T, NumsV w1 x.v (tlst E x.c) ∧ New w.heap.size x.v ∧ Free w1 x.v ∧ Off g x.v) (hg : w.heap.size ≤ g) (hlt : g < w2.heap.size) (h0 : 0 < T.length) (hH : HoldsK encT 34 w2 g 0 M.toArray) (hgr : w1.grownBy w2 (some g)) (hb : Below w.heap.size w w2) :
    TabsR w E (.returned (.slice (some ⟨g, 0, none⟩) T.length cap)) w2 := by
  have hc : (M.map TbS.c).Perm (E.map TeD.c) := (hp.map _).trans hT
  have hel2 : ∀ x ∈ M, NumsV w2 x.v (tlst E x.c) ∧ New w.heap.size x.v ∧ Free w2 x.v ∧ Off g x.v := fun x hx => by
    obtain ⟨h1, h2, h3, h4⟩ := hel x (hp.mem_iff.1 hx)
    exact ⟨⟨h1.1.grownOff hgr fun k e => by cases e; exact h4, h1.2⟩, h2, h3.grown hgr fun k e => by cases e; exact h4, h4⟩
  refine ⟨_, M, by rw [hp.length_eq], hb, .inr ⟨g, cap, rfl, hg, hlt, by rw [hp.length_eq]; exact h0, hH, fun x hx => (hel2 x hx).2.2.2⟩, fun x hx => ⟨(hel2 x hx).1, (hel2 x hx).2.1, (hel2 x hx).2.2.1⟩, hc, sorted_strict hs (hc.nodup_iff.2 (ents_nodup hB))⟩

set_option maxHeartbeats 8000000 in
theorem tabs_any (b mb : Nat) (n lim : Int) (E : List TeD) (w : World) (hB : BookIs w b mb n lim E) (hn : n ≤ 1024) (hE : E.length ≤ 1000) :
    Calls Try.prog 41 #[.pointer (some ⟨b, 0, none⟩)] w (TabsR w E) := by
  have HB := Lib.hid hB
  have c2 : w.cell? ⟨b, 2, none⟩ = some (.map (some mb)) := hB.blk.cell 2
  have HM := Lib.hid hB.map
  have HEn := Lib.hid hE
  obtain ⟨i0, hi, hz0, hz1, hz2⟩ := info_parts info_tab
  obtain ⟨ZT, hZT⟩ : ∃ Z, Hid (flatP [zeC.cells, [nilS]] = Z) := ⟨_, rfl⟩
  rw [hZT.out] at hz0
  obtain ⟨ZC, hZC⟩ : ∃ Z, zeC.cells.toArray = Z := ⟨_, rfl⟩
  have hszC : ZC.size = 33 := by rw [← hZC]; rfl
  obtain ⟨hz33, hst⟩ := zero_array (P := Try.prog) (t := 34) (n := 33) ZC (by rw [← hZC]; kernel_rfl) hszC (by rw [← hZC]; kernel_rfl)
  clear hB hst hZC hE
  have HLE : Hid ((E.map TeD.ent).length = E.length) := List.length_map _
  go_enter Try.func41, Try.ntmps41
  go_wp2_with (first
    | ((with_reducible refine at_lenC 88 _ ?_); refine wpList_lenC rfl _ 88 29 rfl Try.underlying88 mb _ rfl HM.out ?_; rw [HLE.out])
    | (at_make; refine wpList_make_own _ rfl _ _ 48 rfl w.heap.size 36 i0 (.agg ZT) 34 Try.underlying48 hi hz0 hz1 .i64 .i64 E.length E.length rfl rfl rfl (by have := HEn.out; rw [hz2]; omega) (by have := HEn.out; unfold maxLen; omega) (Nat.le_refl _) ?_; intro w1 hown1 hg1; have HO1 := Lib.hid hown1; have HB1 := Lib.hid (grown_belowM hg1); have c21 : w1.cell? ⟨b, 2, none⟩ = some (.map (some mb)) := (HB.out.call HB1.out).blk.cell 2; have HM1 := Lib.hid (HM.out.call HB1.out); clear hown1 hg1 c2)
    | (at_range; refine wpList_rangeC rfl _ 88 29 rfl Try.underlying88 mb _ rfl HM1.out ?_; intro w2 hrg2 hg2 hs2; have HR2 := Lib.hid hrg2; have HB2 := Lib.hid (grown_belowM hg2); clear hrg2 hg2 hs2))
  go_frame
  have HREL : Hid (TabsRel w mb w1.heap.size E (.slice (some ⟨w.heap.size, 0, none⟩) 0 E.length) w2) := by
    refine ⟨[], _, _, HR2.out, ?_, ?_, by simp, HB1.out.trans (HB2.out.mono HB1.out.size)⟩
    · exact OwnEl.call (tabOK _ _) ⟨[], HO1.out, AllEl.nil _ _⟩ HB2.out
    · simp [List.map_map, Function.comp_def, TeD.ent]
  go_loopw [3] (fun v wr => TabsRel w mb w1.heap.size E v wr) (fun _ wr => wr.rangeLeft mb w1.heap.size)
  case atStart => exact HREL.out
  case round =>
    obtain ⟨ds, U, cnt, hrg, hown, hperm, hlst, hbel⟩ := hrel
    have HRG := Lib.hid hrg
    have HOW := Lib.hid hown
    have HP := Lib.hid hperm
    have HL := Lib.hid hlst
    have HBL := Lib.hid hbel
    have HW1 : Hid (w.heap.size ≤ w1.heap.size) := HB1.out.size
    have HLEN : Hid (ds.length ≤ 1000) := by
      show _ ≤ _
      have h1 := hperm.length_eq
      have h2 := HEn.out
      simp at h1
      omega
    clear hrg hown hperm hlst hbel HREL HR2 HB2 HO1 c21 HM1
    go_wp2_with (first
      | (at_next; refine wpList_nextC rfl _ rfl mb w1.heap.size cnt _ U rfl HRG.out ?_ ?_)
      | go_in)
    · rintro rfl
      have HP2 : Hid ((ds.map Prod.fst).Perm (E.map TeD.c)) := by have := HP.out; rwa [List.map_nil, List.append_nil] at this
      obtain ⟨a, k, hv, _, _, _⟩ := HOW.out.shape
      subst hv
      by_cases h0 : ds = []
      · subst h0
        have HSN := Lib.hid (AnyF.slices_SortFunc_none Try.sortT a k (.func (.func 52) #[] #[]) wr)
        go_wp2_with (go_at_call 51; refine HSN.out.mono ?_; rintro e w3 ⟨rfl, rfl⟩)
        go_ret
        exact ⟨_, [], rfl, HBL.out, .inl ⟨rfl, a, k, rfl⟩, by simp, HP2.out, List.Pairwise.nil⟩
      · obtain ⟨Xs, hr, hA⟩ := HOW.out
        obtain ⟨T, hXs, eT, hT⟩ := tab_elems hA
        subst hXs
        have hlen : T.length = ds.length := by have := congrArg List.length eT; simpa using this
        obtain ⟨g, cap, e, hg, hlt, _, _, _, hH⟩ := own_holdsT hr (fun e => h0 (List.eq_nil_of_length_eq_zero (Value.slice.inj e).2.1))
        cases e
        have HTE : Hid (∀ x ∈ T, NumsV wr x.v (tlst E x.c) ∧ New w.heap.size x.v ∧ Free wr x.v ∧ Off g x.v) := fun x hx => by
          obtain ⟨d, hd, hxd, hdm⟩ := zip_pick eT hx
          obtain ⟨h1, h2, h3, h4⟩ := hT (x, d) hd
          rw [HL.out d hdm, ← hxd] at h1
          exact ⟨h1, h2, h3 trivial, h4 g rfl⟩
        have HSR := Lib.hid (sortT_row g k w.heap.size T wr w HBL.out hg hlt (by have := HLEN.out; omega) hH)
        rw [hlen] at HSR
        have HG := Lib.hid hg
        have HTL := Lib.hid hlen
        have HT0 : Hid (0 < T.length) := by show _ < _; rw [hlen]; exact List.length_pos_iff.2 h0
        have HTP : Hid ((T.map TbS.c).Perm (E.map TeD.c)) := by show List.Perm _ _; rw [eT]; exact HP2.out
        clear hr hA hT hH hg hlt hlen eT h0
        go_wp2_with (go_at_call 51; refine HSR.out.mono ?_; rintro e w3 ⟨rfl, M, hp, hs, hb3, hlt3, hH3, hg3⟩)
        go_ret
        rw [← HTL.out]
        exact tabs_fin HB.out hp hs HTP.out HTE.out HG.out hlt3 HT0.out hH3 hg3 hb3
    · intro c v0 U' w3 cnt' hp hrg3 hlt3 hgr3 hsz3 hen3
      have HPU := Lib.hid hp
      have HR3 := Lib.hid hrg3
      have HLT := Lib.hid hlt3
      have HO3 := Lib.hid (HOW.out.keptNC hgr3 HRG.out.iterObj HRG.out.noIter)
      have HB3 := Lib.hid (below_mapped HBL.out hgr3 HW1.out HBL.out.size)
      have hmem : (c, v0) ∈ E.map TeD.ent := by
        obtain ⟨_, _, _, _, hsub, _⟩ := HRG.out
        exact hsub _ (hp.mem_iff.2 (by simp))
      obtain ⟨e0, he0, hee⟩ := List.mem_map.1 hmem
      simp only [TeD.ent, Prod.mk.injEq] at hee
      obtain ⟨rfl, rfl⟩ := hee
      have hcok : e0.c.ok := HM.out.2.ok _ hmem
      have HC := Lib.hid hcok
      have HV3 : Hid (NumsV w3 e0.v (tlst E e0.c)) := by
        have := (HB.out.rows e0 he0).1.below HB3.out
        rwa [← tlst_mem (ents_nodup HB.out) he0] at this
      have HLL : Hid ((tlst E e0.c).length ≤ 1000000) := by
        show _ ≤ _
        have := (HB.out.rows e0 he0).2.1
        rw [tlst_mem (ents_nodup HB.out) he0]
        omega
      obtain ⟨c, hc⟩ : ∃ c, e0.c = c := ⟨_, rfl⟩
      obtain ⟨v0, hv0⟩ : ∃ v, e0.v = v := ⟨_, rfl⟩
      rw [hc] at HC HV3 HLL hen3 HPU ⊢
      rw [hv0] at HV3 hen3 HPU ⊢
      obtain ⟨l, hl⟩ : ∃ l, Hid (tlst E c = l) := ⟨_, rfl⟩
      rw [hl.out] at HV3 HLL
      obtain ⟨C, hC⟩ : ∃ C, Hid (c.cells.toArray = C) := ⟨_, rfl⟩
      rw [hC.out] at hen3 ⊢
      have hsC : C.size = 33 := by rw [← hC.out, List.size_toArray, CpD.len HC.out]
      have hiC : (Try.prog.info? 34).map (·.size) = some C.size := by rw [hsC]; kernel_rfl
      have HOC : Hid (∀ v ∈ C, v.oneCell' = true) := by show ∀ v ∈ C, _; rw [← hC.out]; exact fun v hv => CpD.one _ v (by simpa using hv)
      have hZC : ZC.size = C.size := by rw [hszC, hsC]
      clear hp hrg3 hlt3 hgr3 hsz3 hmem he0 hcok hc hv0 e0
      go_wp2_with (first
        | ((with_reducible refine at_store (.tmp 4) ?_); refine wpList_store_blk rfl 34 (.tmp 4) _ rfl w3.heap.size C rfl rfl ZC (Blk.new rfl) hZC hiC HOC.out ?_; intro w4 U4 B4; have HB34 := Lib.hid (U4.below ((Below.refl w3.heap.size w3).alloc (Nat.le_refl _) (.cells ZC 34)) (Nat.le_refl _)); have HBC := Lib.hid B4; have HSZ : Hid (w3.heap.size < w4.heap.size) := B4.lt; clear U4 B4)
        | go_in)
      have HB4 := Lib.hid (HB3.out.trans (HB34.out.mono HB3.out.size))
      have HO4 := Lib.hid (HO3.out.call (tabOK _ _) HB34.out)
      have HR4 := Lib.hid (HR3.out.grown (below_grown HB34.out) (by simp) (by simp))
      have HV4 := Lib.hid (HV3.out.below HB34.out)
      obtain ⟨ba, bk, hbv, _, _, _⟩ := HO4.out.shape
      subst hbv
      have HD4 : Hid (Below w4.heap.size w4 w4.drew) := ⟨rfl, rfl, rfl, Nat.le_refl _, fun _ _ => rfl⟩
      have HOW3 := Lib.hid (HO3.out.lt)
      refine wp_region_held_drew (S := fun u => Blk u w3.heap.size C) (by kernel_rfl) (HBC.out.call HD4.out) (fun _ => ?_)
      (try simp only [Act.put, List.setIfInBounds_toArray, List.set_cons_zero, List.set_cons_succ])
      have HBCd := Lib.hid (HBC.out.call HD4.out)
      refine wpAnyH_take (i := 0) (oi := ⟨some 22, _, _, _, _, _⟩) (v := .slice ba ds.length bk) rfl (by kernel_rfl) (by kernel_rfl) (by kernel_rfl) (fun _ _ _ h => h) (Or.inl ⟨by rfl, fun wz hz => ?_⟩) HBCd.out ?_
      · clear hz; go_simp; first | done | with_reducible rfl | rfl
      (try simp only [Act.put, List.setIfInBounds_toArray, List.set_cons_zero, List.set_cons_succ])
      refine held_load (oi := ⟨some 23, _, _, _, _, _⟩) 1 rfl (by kernel_rfl) (by kernel_rfl) (by kernel_rfl) (fun _ _ _ _ h => h) rfl 34 (.tmp 4) rfl w3.heap.size 0 rfl C.toList _ (fun u' hu => hu.range) Try.underlying34 rfl (by simpa using hiC) HBCd.out ?_
      simp only [Array.toArray_toList]
      (try simp only [Act.put, List.setIfInBounds_toArray, List.set_cons_zero, List.set_cons_succ])
      refine wpAnyH_take (i := 2) (oi := ⟨some 24, _, _, _, _, _⟩) (v := v0) rfl (by kernel_rfl) (by kernel_rfl) (by kernel_rfl) (fun _ _ _ h => h) (Or.inl ⟨by rfl, fun wz hz => ?_⟩) HBCd.out ?_
      · clear hz; go_simp; first | done | with_reducible rfl | rfl
      (try simp only [Act.put, List.setIfInBounds_toArray, List.set_cons_zero, List.set_cons_succ])
      refine wpAnyH_ready (rs := [3]) (by kernel_rfl) (by simp) ?_
      refine AllReadyH.cons rfl (fun K hK => ?_) AllReadyH.nil
      go_simp
      refine (cloneN v0 l _ (HV4.out.below HD4.out) (by have := HLL.out; omega)).mono ?_
      rintro e w5 ⟨v5, rfl, hv5, hn5, hf5, hb5⟩
      have HB45 := Lib.hid (HD4.out.trans (hb5.mono (show w4.heap.size ≤ w4.drew.heap.size from Nat.le_refl _)))
      have HBC5 := Lib.hid (HBC.out.call HB45.out)
      have HV5 := Lib.hid hv5
      have HN5 : Hid (New w4.heap.size v5) := hn5
      have HF5 := Lib.hid hf5
      obtain ⟨ca, ck, hcv, _⟩ := hv5.shape
      subst hcv
      clear hv5 hn5 hf5 hb5
      refine hK.out _ _ HBC5.out (fun _ => ?_)
      clear hK K
      (try simp only [Act.put, List.setIfInBounds_toArray, List.set_cons_zero, List.set_cons_succ])
      have HBT := Lib.hid (fun u => build_tbv HC.out ca l.length ck u)
      rw [hC.out] at HBT
      obtain ⟨Y, hY⟩ : ∃ Y, Hid (flatP [c.cells, [.slice ca l.length ck]] = Y) := ⟨_, rfl⟩
      rw [hY.out] at HBT
      have HYS : Hid (Y.size = 34) := by show _ = _; rw [← hY.out]; exact (tabOff HC.out _).2.2
      refine held_build 4 (oi := ⟨some 26, _, _, _, _, _⟩) rfl (by kernel_rfl) (by kernel_rfl) (by kernel_rfl) (fun _ _ _ _ h => h) rfl 36 _ rfl #[(0, .agg C), (1, .slice ca l.length ck)] (by simp [Act.eval, Act.put]) (.agg Y) HBT.out HBC5.out ?_
      (try simp only [Act.put, List.setIfInBounds_toArray, List.set_cons_zero, List.set_cons_succ])
      have HBE := Lib.hid (buildEl (P := Try.prog) (t := 48) (e := 36) (Z := flatP [zeC.cells, [nilS]]) (X := Y) (sz := 34) Try.underlying48 (fun w => by kernel_rfl) (by kernel_rfl) (by rfl) HYS.out (by omega) (by omega) w5)
      have HBC6 := Lib.hid (HBC5.out.alloc (.cells Y 36))
      refine wpAnyH_ready (rs := [5]) (by kernel_rfl) (by simp) ?_
      refine AllReadyH.cons rfl (fun K hK => ?_) AllReadyH.nil
      refine wp_buildSlice 48 1 _ rfl #[(0, .agg Y)] (by simp [Act.eval, Act.put]) _ HBE.out ?_
      refine hK.out _ _ HBC6.out (fun _ => ?_)
      clear hK K
      (try simp only [Act.put, List.setIfInBounds_toArray, List.set_cons_zero, List.set_cons_succ])
      have HB46 := Lib.hid (HB45.out.alloc HB45.out.size (.cells Y 36))
      have HO6 := Lib.hid (HO4.out.call (tabOK _ _) HB46.out)
      have HR6 := Lib.hid (HR4.out.grown (below_grown HB46.out) (by simp) (by simp))
      have HA56 : Hid (Below w5.heap.size w5 (w5.alloc (.cells Y 36))) := (Below.refl _ _).alloc (Nat.le_refl _) _
      have HEL : Hid (TabEl w.heap.size True (OffB (.slice ba ds.length bk)) (w5.alloc (.cells Y 36)) Y (c, l)) := ⟨HC.out, ca, l.length, ck, hY.out.symm, HV5.out.below HA56.out, HN5.out.mono HB4.out.size, fun _ => HF5.out.grown (below_grown HA56.out) (fun g e => by cases e), fun g hg => HN5.out.off ((HO4.out.lt g hg).2)⟩
      refine wpAnyH_ready (rs := [6]) (by kernel_rfl) (by simp) ?_
      refine AllReadyH.cons rfl (fun K hK => ?_) AllReadyH.nil
      refine wp_appEl (tabOK _ _) Try.underlying48 info_tab (by rfl) (by omega) (.tmp 22) (.tmp 27) rfl w.heap.size (.slice ba ds.length bk) ds rfl HO6.out w5.heap.size 1 Y (c, l) rfl HEL.out (Blk.new rfl).range (by have := HLEN.out; omega) (by have := HLEN.out; unfold maxLen; omega) (by have := HB4.out.size; have := HB46.out.size; omega) ?_
      intro v7 w7 ho7 hg7 _
      have HO7 := Lib.hid ho7
      have HR7 := Lib.hid (HR6.out.grown hg7 (fun e => ownsRow_off HO6.out.choose_spec.1 HR6.out.map.mapObj mb e.symm rfl) (fun e => ownsRow_off HO6.out.choose_spec.1 HR6.out.iterObj w1.heap.size e.symm rfl))
      have HBC7 := Lib.hid (HBC6.out.grown hg7 (fun e => by have := (HOW3.out _ e.symm).2; omega))
      have HB7 := Lib.hid ((HB4.out.trans (HB46.out.mono HB4.out.size)).grown hg7 (Nat.le_trans HB4.out.size HB46.out.size) (fun j hj => (HO6.out.lt j hj).1))
      clear ho7 hg7
      refine hK.out _ _ HBC7.out (fun _ => ?_)
      clear hK K
      (try simp only [Act.put, List.setIfInBounds_toArray, List.set_cons_zero, List.set_cons_succ])
      refine wpAnyH_ready (rs := [7]) (by kernel_rfl) (by simp) ?_
      refine AllReadyH.cons rfl (fun K hK => ?_) AllReadyH.nil
      go_simp
      refine hK.out _ _ (HBC7.out) (fun _ => ?_)
      clear hK K
      (try simp only [Act.put, List.setIfInBounds_toArray, List.set_cons_zero, List.set_cons_succ])
      refine wpAnyH_done (by kernel_rfl) ?_ _
      go_wp2_with fail
      go_roundw
      case rel =>
        refine ⟨ds ++ [(c, l)], U', cnt', HR7.out, HO7.out, ?_, ?_, HB7.out⟩
        · refine List.Perm.trans ?_ HP.out
          rw [List.map_append, List.append_assoc]
          exact List.Perm.append_left _ ((HPU.out.map Prod.fst).symm)
        · intro d hd
          rcases List.mem_append.1 hd with hd | hd
          · exact HL.out d hd
          · rw [List.mem_singleton.1 hd]; exact hl.out.symm
      case measure => rw [HR7.out.left_eq, HRG.out.left_eq]; exact HLT.out
end

/-! BkI -/
section
set_option linter.unusedVariables false
set_option linter.unusedSimpArgs false
open Go.RowKit Go.Maps

set_option maxRecDepth 100000

/-- A book while a block that is none of its own turns. -/
theorem BookIs.turned {w w' : World} {b mb g : Nat} {n lim : Int} {E : List TeD} (h : BookIs w b mb n lim E) (hg : w.grownBy w' (some g)) (hb : b ≠ g) (hm : mb ≠ g) (he : ∀ e ∈ E, Off g e.v) : BookIs w' b mb n lim E :=
  ⟨h.blk.grown hg (by simpa using hb), h.map.grown hg (by simpa using hm), fun e hE => ⟨⟨(h.rows e hE).1.1.grownOff hg (fun k e' => by cases e'; exact he e hE), (h.rows e hE).1.2⟩, (h.rows e hE).2⟩⟩

theorem tab_one {c : CpD} {a : Option Addr} {m k : Nat} : ∀ v ∈ flatP [c.cells, [.slice a m k]], v.oneCell' = true := flatP_one fun p hp v hv => by
  simp only [List.mem_cons, List.not_mem_nil, or_false] at hp
  rcases hp with rfl | rfl
  · exact CpD.one _ v hv
  · rw [List.mem_singleton.1 hv]; rfl
end

end Go.Proofs.Ytcbjjafjomdklaa
