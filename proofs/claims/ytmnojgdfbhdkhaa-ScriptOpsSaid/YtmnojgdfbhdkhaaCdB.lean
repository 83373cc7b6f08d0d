/- Slices of bytes: owned rows, append, bytes.Clone, slices.Grow and slices.Concat. -/
import Derived.Test.YtmnojgdfbhdkhaaCdA
import Derived.Test.YtmnojgdfbhdkhaaRow2
import Derived.Test.YtmnojgdfbhdkhaaShelf
import Derived.Test.YtmnojgdfbhdkhaaGr
import Derived.Deep.AppendLies
import Derived.Maps.AppendAt
import Derived.OwnWalk
import Derived.Laws.AppendOwnNone
set_option linter.unusedVariables false
namespace Go.Proofs.Ytmnojgdfbhdkhaa
open Go.RowKit

theorem info_u8c : (Try.prog.info? 5).map (fun i => (i.zero, i.size, i.bytes)) = some (some (.int .u8 0), 1, 1) := by kernel_rfl

/-- A slice of bytes in a row of the call's own, from block B on. -/
def Own (w : World) (B : Nat) (v : Value) (xs : List Int) : Prop := w.ownsRow B 5 1 v xs.length (xs.map (Value.int .u8))

theorem Own.fits {w : World} {B : Nat} {v : Value} {xs : List Int} (h : Own w B v xs) : ∀ a l c, v = .slice a l c → l ≤ c ∧ c ≤ maxLen := by
  rintro a l c rfl
  rcases h.2 with ⟨e, _⟩ | ⟨g, cap, cur, e, _, _, h1, h2, _⟩
  · cases e; exact ⟨Nat.le_refl _, Nat.zero_le _⟩
  · cases e; exact ⟨h1, h2⟩

theorem Own.byt {w : World} {B : Nat} {v : Value} {xs : List Int} (h : Own w B v xs) (hm : xs.length ≤ maxLen) (hr : ∀ x ∈ xs, 0 ≤ x ∧ x ≤ 255) : Byt w v xs := ⟨Ints.own h hm, hr, h.fits⟩
theorem Own.nil (w : World) (B : Nat) : Own w B (.slice none 0 0) [] := World.ownsRow_nil w B 5 1
theorem Own.lt {w : World} {B : Nat} {v : Value} {xs : List Int} (h : Own w B v xs) : ∀ k, v.ownBlock = some k → B ≤ k ∧ k < w.heap.size := World.ownsRow.lt h
theorem Own.alloc {w : World} {B : Nat} {v : Value} {xs : List Int} (h : Own w B v xs) (o : Obj) : Own (w.alloc o) B v xs := World.ownsRow.alloc h o
theorem Own.of_own {w : World} {B n : Nat} {v : Value} {xs : List Int} (h : w.ownsRow B 5 1 v n (xs.map (Value.int .u8))) : Own w B v xs := by
  have := h.1
  simp at this
  unfold Own
  rw [this]; exact h

theorem Own.below {w w' : World} {B N : Nat} {v : Value} {xs : List Int} (h : Own w B v xs) (hb : Below N w w') (hN : ∀ k, v.ownBlock = some k → k < N) : Own w' B v xs := by
  refine ⟨h.1, ?_⟩
  rcases h.2 with h' | ⟨g, cap, cur, rfl, h2, h3, h4⟩
  · exact .inl h'
  · exact .inr ⟨g, cap, cur, rfl, h2, by rw [hb.block g (hN g rfl)]; exact h3, h4⟩
theorem Own.call {w w' : World} {B : Nat} {v : Value} {xs : List Int} (h : Own w B v xs) (hb : Below w.heap.size w w') : Own w' B v xs := h.below hb fun k hk => (h.lt k hk).2

theorem own_zero {w : World} {B cap : Nat} {cur : Array Value} (hb : B ≤ w.heap.size) (hm : cap ≤ maxLen) (hs : cur.size = cap) : Own (w.alloc (.cells cur 5)) B (.slice (some ⟨w.heap.size, 0, none⟩) 0 cap) [] :=
  World.ownsRow_made w cur cap hb hm (by rw [hs]; omega)

theorem byt_nil (w : World) : Byt w (.slice none 0 0) [] := ⟨⟨none, 0, 0, rfl, rfl, Nat.zero_le _, .inl rfl⟩, by simp, fun a l c e => by cases e; exact ⟨Nat.le_refl _, Nat.zero_le _⟩⟩

theorem Byt.of_blk {w : World} {g cap : Nat} {xs : List Int} (h : Blk w g (bytesV xs)) (hm : xs.length ≤ cap ∧ cap ≤ maxLen) (hr : ∀ x ∈ xs, 0 ≤ x ∧ x ≤ 255) : Byt w (.slice (some ⟨g, 0, none⟩) xs.length cap) xs :=
  ⟨⟨_, _, _, rfl, rfl, Nat.le_trans hm.1 hm.2, .inr ⟨g, 0, rfl, h.lt, fun i hi => by rw [Nat.zero_add, h.cell]; exact bytesV_at hi⟩⟩, hr, fun a l c e => by cases e; exact hm⟩

theorem byt_one {w : World} {x : Int} (h : 0 ≤ x ∧ x ≤ 255) (t : TypeId) : Byt (w.alloc (.cells #[.int .u8 x] t)) (.slice (some ⟨w.heap.size, 0, none⟩) 1 1) [x] :=
  Byt.of_blk (xs := [x]) (g := w.heap.size) (Blk.new rfl) (by constructor; simp; unfold maxLen; omega) (by simpa using h)

theorem run_app_nil (w : World) {base : Nat} (t ty e : TypeId) (i : TypeInfo) (size : Nat) (ht : Try.prog.underlying t = some (.slice e)) (hi : Try.prog.info? e = some i)
    (v : Value) (n : Nat) (xs : List Value) (hown : w.ownsRow base e size v n xs) (c : Nat) : (Builtin.append_ #[t, t] ty #[v, .slice none 0 c]).run Try.prog w = .ok v w := by
  rcases hown.2 with ⟨rfl, rfl⟩ | ⟨g, cap, cur, rfl, _, _, hnc, _⟩
  · simp [Builtin.append_, run_underlying ht, sizeOf, typeInfo, hi, Builtin.lenOf, Builtin.firstCells]
  · simp [Builtin.append_, run_underlying ht, sizeOf, typeInfo, hi, Builtin.lenOf, Builtin.firstCells, hnc, storeCells]

theorem World.grownBy.rfl' (w : World) (row : Option Nat) : w.grownBy w row := ⟨rfl, rfl, rfl, Nat.le_refl _, fun _ _ _ => rfl⟩

theorem run_app_at (w : World) (B : Nat) (ty : TypeId) (v : Value) (xs : List Int) (hown : Own w B v xs) (y : Value) (ys : List Int) (hy : Byt w y ys) (h47 : xs.length + ys.length ≤ 140737488355328) (hB : B ≤ w.heap.size) :
    ∃ v' w', (Builtin.append_ #[51, 51] ty #[v, y]).run Try.prog w = .ok v' w' ∧ Own w' B v' (xs ++ ys) ∧ w.grownBy w' v.ownBlock ∧ (v'.ownBlock = v.ownBlock ∨ v'.ownBlock = some w.heap.size) := by
  obtain ⟨i0, hi, hz0, hz1, hz2⟩ := info_parts info_u8c
  obtain ⟨a, len, cap, rfl, hl, hm, hr⟩ := hy.ints
  rcases a with _ | a
  · rcases hr with rfl | ⟨b, off, e, _⟩
    · obtain rfl : ys = [] := List.eq_nil_of_length_eq_zero hl
      exact ⟨v, w, run_app_nil w _ ty 5 i0 1 Try.underlying51 hi v _ _ hown cap, by simpa using hown, World.grownBy.rfl' _ _, .inl rfl⟩
    · cases e
  · have hcell : ∀ j u, (ys.map (Value.int .u8))[j]? = some u → w.cell? (a.add j) = some u := by
      intro j u hj
      have hjl : j < ys.length := by
        have := (List.getElem?_eq_some_iff.1 hj).1
        simpa using this
      rcases hr with h0 | ⟨b, off, e, _, hc⟩
      · omega
      · cases e
        rw [Go.WideShapes.add_plain, hc j (by omega)]
        rw [← hj]
        simp [List.getD, List.getElem?_eq_getElem hjl]
    obtain ⟨v', w', h1, h2, h3, _, h4⟩ := run_append_own_at (P := Try.prog) w B 51 ty 5 i0 (.int .u8 0) 1 1 Try.underlying51 hi hz0 hz1 hz2 rfl (by decide) v xs.length _ hown a len cap (ys.map (Value.int .u8)) (by simp [hl]) hcell (by intro u hu; obtain ⟨x, _, rfl⟩ := List.mem_map.1 hu; rfl) (by unfold maxLen; omega) (by omega) hB
    refine ⟨v', w', h1, ?_, h3, h4⟩
    rw [← List.map_append] at h2
    exact Own.of_own h2

theorem run_app (w : World) (B : Nat) (ty : TypeId) (v : Value) (xs : List Int) (hown : Own w B v xs) (y : Value) (ys : List Int) (hy : Byt w y ys) (h47 : xs.length + ys.length ≤ 140737488355328) (hB : B ≤ w.heap.size) :
    ∃ v' w', (Builtin.append_ #[51, 51] ty #[v, y]).run Try.prog w = .ok v' w' ∧ Own w' B v' (xs ++ ys) ∧ w.grownBy w' v.ownBlock := by
  obtain ⟨v', w', h1, h2, h3, _⟩ := run_app_at w B ty v xs hown y ys hy h47 hB
  exact ⟨v', w', h1, h2, h3⟩

/-- An append, in a walk. -/
theorem wpList_app {ops : Array Oper} {rest : List Oper} {o : Oper} {a : Act} {w : World} {Q : Exit → Act → World → Prop} (s x : Operand)
    (ho : o.op = .call { callee := .builtin .append, args := #[s, x], argTypes := #[51, 51] }) (hw : Region.wanted o (yielded ops a.tmps) = true)
    (B : Nat) (v : Value) (xs : List Int) (hs : a.eval s = v) (hown : Own w B v xs) (y : Value) (ys : List Int) (hx : a.eval x = y) (hy : Byt w y ys) (h47 : xs.length + ys.length ≤ 140737488355328) (hB : B ≤ w.heap.size)
    (h : ∀ v' w', Own w' B v' (xs ++ ys) → w.grownBy w' v.ownBlock → wpList Try.prog ops Q rest (a.put o.dst v') w') : wpList Try.prog ops Q (o :: rest) a w :=
  BigFrame.wpList_want hw fun _ hK => by
    obtain ⟨v', w', h1, h2, h3⟩ := run_app w B o.type v xs hown y ys hy h47 hB
    unfold Oper.wp execOp
    simp only [ho, resolve, invoke, builtin, Sem.run_bind, Sem.run_pure, Result.andThen_ok, List.map_toArray, List.map_cons, List.map_nil, hs, hx, h1]
    exact hK _ _ (h v' w' h2 h3)

/-- .. with the place where the new row lies. -/
theorem wpList_appAt {ops : Array Oper} {rest : List Oper} {o : Oper} {a : Act} {w : World} {Q : Exit → Act → World → Prop} (s x : Operand)
    (ho : o.op = .call { callee := .builtin .append, args := #[s, x], argTypes := #[51, 51] }) (hw : Region.wanted o (yielded ops a.tmps) = true)
    (B : Nat) (v : Value) (xs : List Int) (hs : a.eval s = v) (hown : Own w B v xs) (y : Value) (ys : List Int) (hx : a.eval x = y) (hy : Byt w y ys) (h47 : xs.length + ys.length ≤ 140737488355328) (hB : B ≤ w.heap.size)
    (h : ∀ v' w', Own w' B v' (xs ++ ys) → w.grownBy w' v.ownBlock → (v'.ownBlock = v.ownBlock ∨ v'.ownBlock = some w.heap.size) → wpList Try.prog ops Q rest (a.put o.dst v') w') : wpList Try.prog ops Q (o :: rest) a w :=
  BigFrame.wpList_want hw fun _ hK => by
    obtain ⟨v', w', h1, h2, h3, h4⟩ := run_app_at w B o.type v xs hown y ys hy h47 hB
    unfold Oper.wp execOp
    simp only [ho, resolve, invoke, builtin, Sem.run_bind, Sem.run_pure, Result.andThen_ok, List.map_toArray, List.map_cons, List.map_nil, hs, hx, h1]
    exact hK _ _ (h v' w' h2 h3 h4)

theorem at_app {P : Program} {ops : Array Oper} {Q : Exit → Act → World → Prop} {dst : Option Tmp} {ty' : TypeId} (s x : Operand) {tt : Array TypeId} {pos : String} {aft : Array Edge} {g : Option (Nat × Bool)} {rest : List Oper} {a : Act} {w : World}
    (h : wpList P ops Q (⟨dst, .call { callee := .builtin .append, args := #[s, x], argTypes := tt }, ty', pos, aft, g⟩ :: rest) a w) :
    wpList P ops Q (⟨dst, .call { callee := .builtin .append, args := #[s, x], argTypes := tt }, ty', pos, aft, g⟩ :: rest) a w := h

theorem Below.own {N B : Nat} {w0 w w' : World} {v : Value} {xs : List Int} (hb : Below N w0 w) (hg : w.grownBy w' v.ownBlock) (ho : Own w B v xs) (hN : N ≤ B) (hB : B ≤ w.heap.size) : Below N w0 w' :=
  hb.grown hg (by omega) (fun k hk => by have := (ho.lt k hk).1; omega)

/-- make([]byte, 0, n). -/
theorem wpList_mk0 {ops : Array Oper} {rest : List Oper} {o : Oper} {a : Act} {w : World} {Q : Exit → Act → World → Prop} (hg : o.guard = none) (l c : Operand) (hop : o.op = Op.makeSlice 51 l c)
    (B : Nat) (kl kc : IntKind) (n : Nat) (hl : a.eval l = .int kl 0) (hc : a.eval c = .int kc (n : Int)) (hn : n ≤ 1000000000000) (hB : B ≤ w.heap.size)
    (hK : ∀ v' w', Own w' B v' [] → w.grownBy w' none → wpList Try.prog ops Q rest (a.put o.dst v') w') : wpList Try.prog ops Q (o :: rest) a w := by
  obtain ⟨i0, hi, hz0, hz1, hz2⟩ := info_parts info_u8c
  exact wpList_make_own w hg l c 51 hop B 5 i0 (.int .u8 0) 1 Try.underlying51 hi hz0 hz1 kl kc n n hl hc rfl (by rw [hz2]; omega) (by unfold maxLen; omega) hB fun w' h1 h2 => hK _ _ h1 h2

/-- bytes.Clone: its row is new. -/
theorem clone_lo (v : Value) (xs : List Int) (w : World) (h : Byt w v xs) (hb : xs.length ≤ 140737488355328) :
    Calls Try.prog 95 #[v] w fun e w' => ∃ v', e = .returned v' ∧ Byt w' v' xs ∧ (∀ x l c, v' = .slice (some x) l c → w.heap.size ≤ x.block) ∧ Below w.heap.size w w' := by
  obtain ⟨a, len, cap, rfl, hl, hm, hr⟩ := h.ints
  rcases a with _ | a
  · rcases hr with rfl | ⟨b, off, e, _⟩
    · obtain rfl : xs = [] := List.eq_nil_of_length_eq_zero hl
      exact (Try.bytes_Clone_nil 0 cap w).mono fun e w' ⟨he, hw⟩ => ⟨_, he, byt_nil _, (fun x l c e => by cases e), Below.same_world hw.symm⟩
    · cases e
  · refine (Try.bytes_Clone_at a len cap xs w hl (by omega) (fun i hi => ?_)).mono fun e w' ⟨v', he, ho, _, hbl⟩ => ⟨v', he, ⟨Ints.own ho hm, h.rng, (Own.of_own ho).fits⟩, ?_, hbl⟩
    · rcases hr with h0 | ⟨b, off, e, _, hc⟩
      · omega
      · cases e
        rw [Go.WideShapes.add_plain]
        exact hc i hi
    · rintro x l c rfl
      rcases ho.2 with ⟨e, _⟩ | ⟨g, cap, cur, e, hb, _⟩
      · cases e
      · cases e; exact hb

theorem clone_byt (v : Value) (xs : List Int) (w : World) (h : Byt w v xs) (hb : xs.length ≤ 140737488355328) :
    Calls Try.prog 95 #[v] w fun e w' => ∃ v', e = .returned v' ∧ Byt w' v' xs ∧ Below w.heap.size w w' :=
  (clone_lo v xs w h hb).mono fun _ _ ⟨v', he, hy, _, hbl⟩ => ⟨v', he, hy, hbl⟩

/-- slices.Grow(nil, n). -/
theorem grow_nil (n : Nat) (w : World) (hn : n ≤ 1000000000000) :
    Calls Try.prog 73 #[.slice none 0 0, .int .i64 n] w fun e w' => ∃ v', e = .returned v' ∧ Own w' w.heap.size v' [] ∧ Below w.heap.size w w' := by
  obtain ⟨i0, hi, hz0, hz1, hz2⟩ := info_parts info_u8c
  rcases Nat.eq_zero_or_pos n with rfl | hp
  · exact (Any8.slices_Grow_room Try.growB none 0 0 0 w (Nat.le_refl _) (by omega) (by omega) (by omega)).mono fun e w' ⟨he, hw⟩ => ⟨_, he, Own.nil _ _, Below.same_world hw.symm⟩
  · refine (Any8.slices_Grow_grow Try.growB i0 (.int .u8 0) hi hz0 (by omega) none 0 0 n [] w (Nat.le_refl _) (by omega) (by rw [hz2]; omega) (by omega) (by simp) (fun _ => rfl) (fun a h => by cases h)).mono fun e w' ⟨he, hw⟩ => ⟨_, he, ?_, ?_⟩
    · rw [hw]
      refine own_zero (w := w.drew) (Nat.le_refl _) (grownCap_le_maxLen w _ _ _ (by unfold maxLen; omega)) ?_
      have := grownCap_ge w (0 + n) 0 5
      simp only [Array.size_append, size_zeroCells, Value.cells, List.size_toArray, List.length_nil]
      show 0 + (0 + n - 0) * 1 + (grownCap w (0 + n) 0 5 - (0 + n)) * 1 = grownCap w (0 + n) 0 5
      omega
    · rw [hw]
      exact Below.alloc (w := w.drewN 1) (Below.drewN (n := 1) (Below.refl _ w)) (Nat.le_refl _) _

theorem flat_len_take (ds : List (List Int)) (k : Nat) : (ds.take k).flatten.length ≤ ds.flatten.length := by
  have h : ds.flatten = (ds.take k).flatten ++ (ds.drop k).flatten := by rw [← List.flatten_append, List.take_append_drop]
  rw [h, List.length_append]; omega

theorem flat_take {ds : List (List Int)} {k : Nat} (h : k < ds.length) : (ds.take (k + 1)).flatten = (ds.take k).flatten ++ ds.getD k [] := by
  rw [List.take_succ_eq_append_getElem h, List.flatten_append]
  simp only [List.flatten_cons, List.flatten_nil, List.append_nil, List.getD, List.getElem?_eq_getElem h, Option.getD_some]

/-- The slices that are to be joined. -/
def Parts (w : World) (g m : Nat) (vs : Array Value) (ds : List (List Int)) : Prop := Blk w g vs ∧ vs.size = m ∧ ds.length = m ∧ ∀ k, k < m → Byt w (vs.getD k undef) (ds.getD k [])

theorem Parts.below {w w' : World} {g m : Nat} {vs : Array Value} {ds : List (List Int)} (h : Parts w g m vs ds) (hb : Below w.heap.size w w') : Parts w' g m vs ds :=
  ⟨h.1.call hb, h.2.1, h.2.2.1, fun k hk => (h.2.2.2 k hk).below hb⟩

theorem Parts.cell {w : World} {g m : Nat} {vs : Array Value} {ds : List (List Int)} (h : Parts w g m vs ds) {k : Nat} (hk : k < m) : w.cell? ⟨g, k, none⟩ = some (vs.getD k undef) := by
  rw [h.1.cell]
  simp [Array.getD, h.2.1, hk]

set_option maxHeartbeats 4000000 in
theorem concat_own (g m : Nat) (vs : Array Value) (ds : List (List Int)) (w : World) (h : Parts w g m vs ds) (hm : m ≤ 1000) (hb : ds.flatten.length ≤ 1000000000000) :
    Calls Try.prog 46 #[.slice (some ⟨g, 0, none⟩) m m] w fun e w' => ∃ v', e = .returned v' ∧ Own w' w.heap.size v' ds.flatten ∧ Below w.heap.size w w' := by
  have hfl := fun k => flat_len_take ds k
  have HF := Lib.hid hfl; clear hfl
  have HFT := Lib.hid (fun k (hk : k < m) => flat_take (ds := ds) (k := k) (by rw [h.2.2.1]; exact hk))
  have HT := Lib.hid (show (ds.take m).flatten = ds.flatten by rw [List.take_of_length_le (by rw [h.2.2.1]; exact Nat.le_refl _)])
  have HP := Lib.hid h; clear h
  obtain ⟨L, HL⟩ : ∃ L : Nat, Hid (L = ds.flatten.length) := ⟨_, rfl⟩
  have hL : L ≤ 1000000000000 := by rw [HL.out]; exact hb
  clear hb
  go_enter Try.func46, Try.ntmps46
  go_wp2_with fail
  go_loop [3, 11] (fun s i => ∃ k : Nat, k ≤ m ∧ i = .int .i64 k ∧ s = .int .i64 ((ds.take k).flatten.length : Nat)) (fun _ i => m - (intOf i).toNat)
  case atStart => exact ⟨0, Nat.zero_le _, rfl, rfl⟩
  case round =>
    obtain ⟨k, hk, rfl, rfl⟩ := hrel
    by_cases hlt : k < m
    · have hcell := HP.out.cell hlt
      obtain ⟨a, len, cap, hv, hl, _, _⟩ := (HP.out.2.2.2 k hlt).ints
      rw [hv] at hcell
      have e1 := HFT.out k hlt
      have l1 := HF.out (k + 1)
      rw [e1] at l1
      rw [List.length_append, hl, ← HL.out] at l1
      have E1 := Lib.hid (show (ds.take (k + 1)).flatten.length = (ds.take k).flatten.length + len by rw [e1, List.length_append, hl])
      clear e1 hl hv
      obtain ⟨s, HS⟩ : ∃ s : Nat, Hid (s = (ds.take k).flatten.length) := ⟨_, rfl⟩
      rw [← HS.out] at l1 E1 ⊢
      go_wp2_with fail
      go_round
      case rel => exact ⟨k + 1, by omega, by go_num, by rw [E1.out]; go_num⟩
      case measure => simp [intOf]; omega
    · obtain rfl : k = m := by omega
      rw [HT.out, ← HL.out]
      go_wp2_with (go_at_call 73; refine (grow_nil L _ hL).mono ?_; rintro e w1 ⟨v1, rfl, ho1, hb1⟩)
      have HP1 := Lib.hid (HP.out.below hb1)
      go_loopw [6, 27] (fun v i wr => ∃ j : Nat, j ≤ k ∧ i = .int .i64 j ∧ Own wr w.heap.size v (ds.take j).flatten ∧ Below w.heap.size w wr) (fun _ i _ => k - (intOf i).toNat)
      case atStart => exact ⟨0, Nat.zero_le _, rfl, by simpa using ho1, hb1⟩
      case round =>
        obtain ⟨j, hj, rfl, ho, hbl⟩ := hrel
        by_cases hlt : j < k
        · have HPj := HP.out.below hbl
          have hcell := HPj.cell hlt
          have hy := HPj.2.2.2 j hlt
          have E1 := Lib.hid (HFT.out j hlt)
          have l1 := HF.out (j + 1)
          rw [E1.out, List.length_append, ← HL.out] at l1
          obtain ⟨y, hye⟩ : ∃ y, vs.getD j undef = y := ⟨_, rfl⟩
          rw [hye] at hcell hy
          clear hye HPj
          have HY := Lib.hid hy; clear hy
          have HO := Lib.hid ho; clear ho
          go_wp2_with ((with_reducible refine at_app _ _ ?_); refine wpList_app _ _ rfl rfl w.heap.size _ _ rfl HO.out _ _ rfl HY.out (by omega) hbl.size ?_; intro v2 w2 ho2 hg2)
          rw [← E1.out] at ho2
          go_roundw
          case rel => exact ⟨j + 1, by omega, by go_num, ho2, Below.own hbl hg2 HO.out (Nat.le_refl _) hbl.size⟩
          case measure => simp [intOf]; omega
        · obtain rfl : j = k := by omega
          rw [HT.out] at ho
          go_wp2_with fail
          go_ret
          exact ⟨_, rfl, ho, hbl⟩

theorem Parts.bytes {w : World} {g m : Nat} {vs : Array Value} {ds : List (List Int)} (h : Parts w g m vs ds) : ∀ x ∈ ds.flatten, 0 ≤ x ∧ x ≤ 255 := by
  intro x hx
  obtain ⟨d, hd, hx⟩ := List.mem_flatten.1 hx
  obtain ⟨k, hk, rfl⟩ := List.mem_iff_getElem.1 hd
  have := (h.2.2.2 k (by rw [← h.2.2.1]; exact hk)).rng x
  simp only [List.getD, List.getElem?_eq_getElem hk, Option.getD_some] at this
  exact this hx

theorem concat_any (g m : Nat) (vs : Array Value) (ds : List (List Int)) (w : World) (h : Parts w g m vs ds) (hm : m ≤ 1000) (hb : ds.flatten.length ≤ 1000000000000) :
    Calls Try.prog 46 #[.slice (some ⟨g, 0, none⟩) m m] w fun e w' => ∃ v', e = .returned v' ∧ Byt w' v' ds.flatten ∧ Below w.heap.size w w' :=
  (concat_own g m vs ds w h hm hb).mono fun _ _ ⟨v', he, ho, hbl⟩ => ⟨v', he, ho.byt (by unfold maxLen; omega) h.bytes, hbl⟩

end Go.Proofs.Ytmnojgdfbhdkhaa
