/- Ancestors of one node are comparable; what At gives; a store into a row of the call's own. -/
import Derived.Test.YtdbkphkgjaecoaaAnE
import Derived.Laws.OwnMore
set_option linter.unusedVariables false

set_option linter.unusedSimpArgs false
namespace Go.Proofs.Ytdbkphkgjaecoaa
open Go.RowKit

set_option maxRecDepth 100000

theorem path_cmp {ns : List NdD} (h : TrOK ns) {x y : Int} : ∀ k : Nat, k < ns.length → x ∈ pathN ns (k : Int) → y ∈ pathN ns (k : Int) → x ≤ y → x ∈ pathN ns y := by
  intro k
  induction k using Nat.strongRecOn with
  | ind k ih =>
    intro hk hx hy hxy
    by_cases e : y = (k : Int)
    · rw [e]; exact hx
    · have hy2 := ((path_up h hk).1 hy).resolve_right e
      have hyk := path_le h hy
      have hx2 := ((path_up h hk).1 hx).resolve_right (by omega)
      have hr := path_node hy2
      have hu := (up_path h hk).2.1
      obtain ⟨u, hu2⟩ : ∃ u : Nat, ns[k].up = u := ⟨ns[k].up.toNat, by omega⟩
      rw [hu2] at hx2 hy2 hr hu
      exact ih u (by omega) (by omega) hx2 hy2 hxy

theorem path_trans {ns : List NdD} (h : TrOK ns) {x y : Int} : ∀ k : Nat, k < ns.length → x ∈ pathN ns y → y ∈ pathN ns (k : Int) → x ∈ pathN ns (k : Int) := by
  intro k
  induction k using Nat.strongRecOn with
  | ind k ih =>
    intro hk hx hy
    by_cases e : y = (k : Int)
    · rw [← e]; exact hx
    · have hy2 := ((path_up h hk).1 hy).resolve_right e
      have hr := path_node hy2
      have hu := (up_path h hk).2.1
      obtain ⟨u, hu2⟩ : ∃ u : Nat, ns[k].up = u := ⟨ns[k].up.toNat, by omega⟩
      rw [hu2] at hy2 hr hu
      refine (path_up h hk).2 (.inl ?_)
      rw [hu2]
      exact ih u (by omega) (by omega) hx hy2

theorem path_root {ns : List NdD} (h : TrOK ns) : ∀ k : Nat, k < ns.length → (0 : Int) ∈ pathN ns (k : Int) := by
  intro k
  induction k using Nat.strongRecOn with
  | ind k ih =>
    intro hk
    by_cases h0 : k = 0
    · subst h0; exact path_self h hk
    · obtain ⟨g1, g2, g3⟩ := h.upAt hk (by omega)
      refine (path_up h hk).2 (.inl ?_)
      rw [g3]
      exact ih _ g1 g2

theorem at_spec {ns : List NdD} (h : TrOK ns) (s : Int) : ∀ k : Nat, (hk : k < ns.length) →
    (atP ns (k : Int) s = -1 ∧ ∀ j (hj : j < ns.length), (j : Int) ∈ pathN ns (k : Int) → s < ns[j].b.slot) ∨
    ∃ j : Nat, ∃ hj : j < ns.length, atP ns (k : Int) s = j ∧ (j : Int) ∈ pathN ns (k : Int) ∧ ns[j].b.slot ≤ s ∧ ∀ i (hi : i < ns.length), (i : Int) ∈ pathN ns (k : Int) → j < i → s < ns[i].b.slot := by
  intro k
  induction k using Nat.strongRecOn with
  | ind k ih =>
    intro hk
    rw [atP_step h hk s]
    by_cases hs : ns[k].b.slot ≤ s
    · rw [if_pos hs]
      refine .inr ⟨k, hk, rfl, path_self h hk, hs, fun i hi hm hlt => ?_⟩
      have := path_le h hm; omega
    · rw [if_neg hs]
      have hup := up_path h hk
      by_cases h0 : k = 0
      · subst h0
        have e := h.root hk
        rw [e]
        refine .inl ⟨atP_out (by omega), fun j hj hm => ?_⟩
        have := path_le h hm
        obtain rfl : j = 0 := by omega
        omega
      · obtain ⟨g1, g2, g3⟩ := h.upAt hk (by omega)
        rw [g3]
        have hpu : ∀ x : Int, x ∈ pathN ns (k : Int) → x ∈ pathN ns (upAt ns k : Int) ∨ x = k := fun x hx => by have := (path_up h hk).1 hx; rwa [g3] at this
        rcases ih _ g1 g2 with ⟨h1, h2⟩ | ⟨j, hj, h1, h2, h3, h4⟩
        · refine .inl ⟨h1, fun i hi hm => ?_⟩
          rcases hpu _ hm with hm | hm
          · exact h2 i hi hm
          · obtain rfl : i = k := by omega
            omega
        · refine .inr ⟨j, hj, h1, (path_up h hk).2 (.inl (by rw [g3]; exact h2)), h3, fun i hi hm hlt => ?_⟩
          rcases hpu _ hm with hm | hm
          · exact h4 i hi hm hlt
          · obtain rfl : i = k := by omega
            omega

theorem i64_and31 (n : Int) : bits .and .i64 n 31 = n % 32 := by
  have h3 : (BitVec.ofInt 64 31).toNat = 2 ^ 5 - 1 := by decide
  have key : (BitVec.ofInt 64 n &&& BitVec.ofInt 64 31).toNat = (n % ((2 ^ 64 : Nat) : Int)).toNat % 2 ^ 5 := by
    rw [BitVec.toNat_and, BitVec.toNat_ofInt, h3, Nat.and_two_pow_sub_one_eq_mod]
  show IntKind.i64.wrap ((BitVec.ofInt 64 n &&& BitVec.ofInt 64 31).toNat : Nat) = n % 32
  rw [key, IntKind.wrap_i64]
  omega

theorem i64_and31_nat (n : Int) : ∃ m : Nat, m ≤ 31 ∧ bits .and .i64 n 31 = m := ⟨(n % 32).toNat, by omega, by rw [i64_and31]; omega⟩

theorem u64_and31_nat (n : Int) : ∃ m : Nat, m ≤ 31 ∧ bits .and .u64 n 31 = m := by
  have h3 : (BitVec.ofInt 64 31).toNat = 2 ^ 5 - 1 := by decide
  have key : (BitVec.ofInt 64 n &&& BitVec.ofInt 64 31).toNat = (n % ((2 ^ 64 : Nat) : Int)).toNat % 2 ^ 5 := by
    rw [BitVec.toNat_and, BitVec.toNat_ofInt, h3, Nat.and_two_pow_sub_one_eq_mod]
  refine ⟨(n % ((2 ^ 64 : Nat) : Int)).toNat % 2 ^ 5, by omega, ?_⟩
  show IntKind.u64.wrap ((BitVec.ofInt 64 n &&& BitVec.ofInt 64 31).toNat : Nat) = _
  rw [key, IntKind.wrap_u64]
  omega

/-- A number is stored into a row that its function owns. -/
theorem wpList_store_own {P : Program} {ops : Array Oper} {rest : List Oper} {op : Oper} {a : Act} {w : World} {Q : Exit → Act → World → Prop} (hgd : op.guard = none) (ty : TypeId) (x y : Operand) (ho : op.op = .store ty x y)
    (k : IntKind) (e : TypeId) (B g cap i : Nat) (xs : List Int) (n : Int) (h : OwnK k e w B (.slice (some ⟨g, 0, none⟩) xs.length cap) xs) (hk : i < xs.length) (hx : a.eval x = .pointer (some ⟨g, i, none⟩)) (hy : a.eval y = .int k n) (hi : (P.info? ty).map (·.size) = some 1)
    (hK : ∀ w', w.grownBy w' (some g) → OwnK k e w' B (.slice (some ⟨g, 0, none⟩) (xs.set i n).length cap) (xs.set i n) → wpList P ops Q rest (a.put op.dst undef) w') : wpList P ops Q (op :: rest) a w := by
  have hcell := World.ownsRow.cellAt h i (by omega)
  have hfro := World.ownsRow.frozenAt h i
  obtain ⟨h1, h2⟩ := World.ownsRow.stored h i (.int k n)
  have hr := run_storeCells_cells (P := P) g i [.int k n] 0 w (fun j hj => by
    obtain rfl : j = 0 := by simpa using hj
    show (w.cell? ⟨g, i, none⟩).isSome = true
    rw [hcell, List.getElem?_map, List.getElem?_eq_getElem hk]; rfl) (fun j hj => by
    obtain rfl : j = 0 := by simpa using hj
    exact hfro) (fun z hz => by rw [List.mem_singleton.1 hz]; rfl)
  refine wpList_plain hgd fun _ hK' => ?_
  unfold Oper.wp execOp
  cases hq : P.info? ty with
  | none => simp [hq] at hi
  | some t =>
    have hs : t.size = 1 := by simpa [hq] using hi
    simp only [Nat.add_zero] at hr
    have hsv : (storeVar ty ⟨g, i, none⟩ (.int k n)).run P w = .ok () (w.setCells g i [.int k n]) := by
      simp [storeVar, sizeOf, typeInfo, hq, Value.cells, hs, hr]
    simp only [ho, hx, hy, Instr.storeAt, Instr.sureAddr, Sem.run_bind, Sem.run_pure, Result.andThen_ok, hsv]
    refine hK' _ _ (hK _ h2 ?_)
    have e1 : (xs.map (Value.int k)).set i (.int k n) = (xs.set i n).map (Value.int k) := by rw [List.map_set]
    rw [e1] at h1
    show (w.setCell ⟨g, i, none⟩ (.int k n)).ownsRow B e 1 _ _ _
    rw [List.length_set]
    exact h1

/-- A row of the call's own, from block B on, grows. -/
theorem AnS.grown {w u u' : World} {bt B : Nat} {s : Value} {ns : List NdD} {row : Option Nat} (h : AnS w bt s ns u) (hg : u.grownBy u' row) (hr : ∀ j, row = some j → B ≤ j) (h1 : bt < B) (h2 : w.heap.size ≤ B) (hoff : ∀ g, B ≤ g → Off g s) : AnS w bt s ns u' := by
  refine ⟨h.t.grown hg (fun e => by have := hr _ e.symm; omega), ?_, h.b.grown hg h.b.size (fun j hj => by have := hr j hj; omega)⟩
  cases row with
  | none =>
    refine h.n.grownOff (g := u.heap.size + B) ⟨hg.os, hg.tape, hg.output, hg.size, fun k hk _ => hg.block k hk (by simp)⟩ (hoff _ (by omega))
  | some j => exact h.n.grownOff hg (hoff _ (hr j rfl))

/-- Two nodes have a last common ancestor. -/
theorem meet_ex {ns : List NdD} (h : TrOK ns) : ∀ n p q : Nat, p + q ≤ n → p < ns.length → q < ns.length → ∃ c : Nat, c < ns.length ∧ ∀ x, x ∈ pathN ns (c : Int) ↔ (x ∈ pathN ns (p : Int) ∧ x ∈ pathN ns (q : Int)) := by
  intro n
  induction n with
  | zero =>
    intro p q h1 hp hq
    obtain rfl : p = q := by omega
    exact ⟨p, hp, fun x => ⟨fun h => ⟨h, h⟩, fun h => h.1⟩⟩
  | succ n ih =>
    intro p q h1 hp hq
    rcases Nat.lt_trichotomy p q with hlt | rfl | hgt
    · obtain ⟨g1, g2, g3⟩ := h.upAt hq (by omega)
      obtain ⟨c, hc, hx⟩ := ih p (upAt ns q) (by omega) hp g2
      refine ⟨c, hc, fun x => ?_⟩
      rw [hx x, path_up h hq, g3]
      exact ⟨fun h => ⟨h.1, .inl h.2⟩, fun h2 => ⟨h2.1, h2.2.resolve_right (fun e => by have := path_le h h2.1; omega)⟩⟩
    · exact ⟨p, hp, fun x => ⟨fun h => ⟨h, h⟩, fun h => h.1⟩⟩
    · obtain ⟨g1, g2, g3⟩ := h.upAt hp (by omega)
      obtain ⟨c, hc, hx⟩ := ih (upAt ns p) q (by omega) g2 hq
      refine ⟨c, hc, fun x => ?_⟩
      rw [hx x, path_up h hp, g3]
      exact ⟨fun h => ⟨.inl h.1, h.2⟩, fun h2 => ⟨h2.1.resolve_right (fun e => by have := path_le h h2.2; omega), h2.2⟩⟩

theorem heir_spec {ns : List NdD} (h : TrOK ns) {a : Int} : ∀ k : Nat, (hk : k < ns.length) → a ∈ pathN ns (k : Int) → a ≠ k → ∃ j : Nat, ∃ hj : j < ns.length, heirN ns a (k : Int) = j ∧ ns[j].up = a ∧ (j : Int) ∈ pathN ns (k : Int) := by
  intro k
  induction k using Nat.strongRecOn with
  | ind k ih =>
    intro hk ha hne
    have ha2 := ((path_up h hk).1 ha).resolve_right hne
    rw [heirN_up h hk ha2]
    have hr := path_node ha2
    have hu := (up_path h hk).2.1
    by_cases e : ns[k].up = a
    · rw [if_pos e]; exact ⟨k, hk, rfl, e, path_self h hk⟩
    · rw [if_neg e]
      obtain ⟨u, hu2⟩ : ∃ u : Nat, ns[k].up = u := ⟨ns[k].up.toNat, by omega⟩
      rw [hu2] at ha2 e hr hu ⊢
      obtain ⟨j, hj, h1, h2, h3⟩ := ih u (by omega) (by omega) ha2 (fun x => e x.symm)
      exact ⟨j, hj, h1, h2, (path_up h hk).2 (.inl (by rw [hu2]; exact h3))⟩

theorem com_two {ns : List NdD} (h : TrOK ns) {p q : Nat} (hp : p < ns.length) (hq : q < ns.length) : ∃ c : Nat, c < ns.length ∧ comN ns [(p : Int), (q : Int)] = c ∧ comN ns [(q : Int), (p : Int)] = c ∧ (c : Int) ∈ pathN ns (p : Int) ∧ (c : Int) ∈ pathN ns (q : Int) ∧ ∀ x, x ∈ pathN ns (p : Int) → x ∈ pathN ns (q : Int) → x ≤ c := by
  obtain ⟨c, hc, hx⟩ := meet_ex h _ p q (Nat.le_refl _) hp hq
  have hs := (hx c).1 (path_self h hc)
  refine ⟨c, hc, comN_of h (by simp) hc fun x => ?_, comN_of h (by simp) hc fun x => ?_, hs.1, hs.2, fun x h1 h2 => (path_le h ((hx x).2 ⟨h1, h2⟩)).2⟩
  · rw [hx x]; simp
  · rw [hx x]; simp [and_comm]

theorem com_one {ns : List NdD} (h : TrOK ns) {p : Nat} (hp : p < ns.length) : comN ns [(p : Int)] = p := comN_of h (by simp) hp fun x => by simp
end Go.Proofs.Ytdbkphkgjaecoaa
