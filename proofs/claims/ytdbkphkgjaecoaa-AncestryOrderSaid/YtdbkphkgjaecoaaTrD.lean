/- What built trees are, as data. -/
import Derived.Test.YtdbkphkgjaecoaaTrB
set_option linter.unusedVariables false

set_option linter.unusedSimpArgs false
namespace Go.Proofs.Ytdbkphkgjaecoaa
open Go.RowKit

/-- A valid closed tree. -/
structure TrOK (ns : List NdD) : Prop where
  pos : 0 < ns.length
  root : ∀ h : 0 < ns.length, ns[0].up = -1
  up : ∀ i (hi : i < ns.length), 0 < i → ∃ u : Nat, ∃ hu : u < ns.length, u < i ∧ ns[i].up = u ∧ ns[i].b.parent = ns[u].b.root ∧ ns[u].b.slot < ns[i].b.slot ∧ (ns[i].st = 1 → ns[u].st = 1) ∧ (ns[u].st = 2 → ns[i].st = 2)
  ne : ∀ i j (hi : i < ns.length) (hj : j < ns.length), i < j → ns[i].b.root ≠ ns[j].b.root
  st : ∀ i (hi : i < ns.length), 0 ≤ ns[i].st ∧ ns[i].st ≤ 2

theorem TrOK.one (x : BkD) (st : Int) (h : 0 ≤ st ∧ st ≤ 2) : TrOK [⟨x, -1, st⟩] where
  pos := by simp
  root := fun _ => rfl
  up := fun i hi h0 => by simp at hi; omega
  ne := fun i j hi hj h => by simp at hi hj; omega
  st := fun i hi => by
    obtain rfl : i = 0 := by simpa using hi
    exact h

theorem TrOK.find {ns : List NdD} (h : TrOK ns) {q : Nat} (hq : q < ns.length) : findN ns ns[q].b.root = q := by
  rcases findN_spec ns ns[q].b.root with ⟨_, h2⟩ | ⟨k, hk, h1, h2, h3⟩
  · exact absurd rfl (h2 q hq)
  · rw [h1]
    by_cases e : k = q
    · rw [e]
    · rcases Nat.lt_or_gt_of_ne e with hl | hl
      · exact absurd h2 (h.ne k q hk hq hl)
      · exact absurd rfl (h3 q hl hq)

theorem insT_cases {ns : List NdD} {x : BkD} {st : Int} (he : (insT ns x st).2 = 0) : findN ns x.root < 0 ∧ 0 ≤ findN ns x.parent ∧ slotAt ns (findN ns x.parent) < x.slot ∧ ns.length < 4096 ∧ (insT ns x st).1 = ns ++ [⟨x, findN ns x.parent, st⟩] := by
  unfold insT at he ⊢
  split at he
  · cases he
  · rename_i h1
    split at he
    · cases he
    · rename_i h2
      split at he
      · cases he
      · rename_i h3
        split at he
        · cases he
        · rename_i h4
          split at he
          · cases he
          · rename_i h5
            rw [if_neg h1, if_neg h2, if_neg h3, if_neg h4, if_neg h5]
            exact ⟨by omega, by omega, by omega, by omega, rfl⟩

theorem insT_bad {ns : List NdD} {x : BkD} {st : Int} (he : (insT ns x st).2 ≠ 0) : (insT ns x st).1 = [] := by
  unfold insT at he ⊢
  split
  · rfl
  · split
    · rfl
    · split
      · rfl
      · split
        · rfl
        · split
          · rfl
          · rename_i h1 h2 h3 h4 h5
            rw [if_neg h1, if_neg h2, if_neg h3, if_neg h4, if_neg h5] at he
            exact absurd rfl he

theorem TrOK.add {ns : List NdD} (h : TrOK ns) {q : Nat} (hq : q < ns.length) {x : BkD} {st : Int} (hp : x.parent = ns[q].b.root) (hst : 0 ≤ st ∧ st ≤ 2) (c1 : st = 1 → ns[q].st = 1) (c2 : ns[q].st = 2 → st = 2) (he : (insT ns x st).2 = 0) :
    (insT ns x st).1 = ns ++ [⟨x, q, st⟩] ∧ TrOK (ns ++ [⟨x, q, st⟩]) := by
  obtain ⟨h1, h2, h3, h4, h5⟩ := insT_cases he
  have hf : findN ns x.parent = q := by rw [hp]; exact h.find hq
  rw [hf] at h3 h5
  have hs : slotAt ns (q : Int) = ns[q].b.slot := by simp [slotAt, List.getElem?_eq_getElem hq]
  rw [hs] at h3
  refine ⟨h5, ⟨by simp, fun _ => ?_, fun i hi h0 => ?_, fun i j hi hj hij => ?_, fun i hi => ?_⟩⟩
  · rw [List.getElem_append_left h.pos]; exact h.root h.pos
  · by_cases hil : i < ns.length
    · obtain ⟨u, hu, a1, a2, a3, a4, a5, a6⟩ := h.up i hil h0
      refine ⟨u, by simp; omega, a1, ?_⟩
      rw [List.getElem_append_left hil, List.getElem_append_left hu]
      exact ⟨a2, a3, a4, a5, a6⟩
    · obtain rfl : i = ns.length := by simp at hi; omega
      refine ⟨q, by simp; omega, hq, ?_⟩
      rw [List.getElem_append_right (Nat.le_refl _), List.getElem_append_left hq]
      simp only [Nat.sub_self, List.getElem_cons_zero]
      exact ⟨by trivial, hp, h3, c1, c2⟩
  · have hil : i < ns.length := by simp at hj; omega
    rw [List.getElem_append_left hil]
    by_cases hjl : j < ns.length
    · rw [List.getElem_append_left hjl]; exact h.ne i j hil hjl hij
    · obtain rfl : j = ns.length := by simp at hj; omega
      rw [List.getElem_append_right (Nat.le_refl _)]
      simp only [Nat.sub_self, List.getElem_cons_zero]
      rcases findN_spec ns x.root with ⟨_, b2⟩ | ⟨k, hk, b1, _, _⟩
      · exact b2 i hil
      · rw [b1] at h1; omega
  · by_cases hil : i < ns.length
    · rw [List.getElem_append_left hil]; exact h.st i hil
    · obtain rfl : i = ns.length := by simp at hi; omega
      rw [List.getElem_append_right (Nat.le_refl _)]
      simpa using hst

theorem NodesV.off {w : World} {v : Value} {ns : List NdD} (h : NodesV w v ns) {g : Nat} (hg : w.heap.size ≤ g) : Off g v := by
  obtain ⟨a, cap, rfl, hl, hr⟩ := h
  intro z l c e h0
  cases e
  rcases hr with h1 | ⟨b, off, e, hb, _⟩
  · omega
  · cases e; simp only; omega

theorem NodesV.grownOff {w w' : World} {v : Value} {ns : List NdD} {g : Nat} (h : NodesV w v ns) (hg : w.grownBy w' (some g)) (ho : Off g v) : NodesV w' v ns := by
  obtain ⟨a, cap, rfl, hl, hr⟩ := h
  refine ⟨a, cap, rfl, hl, ?_⟩
  rcases hr with h0 | ⟨b, off, rfl, hlt, Xs, h1, h2⟩
  · exact .inl h0
  · by_cases h0 : ns.length = 0
    · exact .inl h0
    have hne : some b ≠ some g := fun e => ho _ _ _ rfl (by omega) (by cases e; rfl)
    exact .inr ⟨b, off, rfl, Nat.lt_of_lt_of_le hlt hg.size, Xs, fun j u hj => by rw [hg.cell_far ⟨b, off + j, none⟩ hlt hne]; exact h1 j u hj, h2.imp fun X d hX => hX⟩

/-- The variables of Tree: its result in block P, the tree in block B. -/
structure TrV (w : World) (P B : Nat) (s : Value) (ns : List NdD) (u : World) : Prop where
  r : Blk u P #[.slice none 0 0]
  t : Blk u B #[s]
  n : NodesV u s ns
  o1 : Off P s
  o2 : Off B s
  b : Below w.heap.size w u
  lt : P < B
  eq : P = w.heap.size
  cap : CapOK s

theorem TrV.call {w u u' : World} {P B : Nat} {s : Value} {ns : List NdD} (h : TrV w P B s ns u) (hb : Below u.heap.size u u') : TrV w P B s ns u' := ⟨h.r.call hb, h.t.call hb, h.n.call hb, h.o1, h.o2, h.b.trans (hb.mono h.b.size), h.lt, h.eq, h.cap⟩

/-- Another block that is younger was written. -/
theorem TrV.upd {w u u' : World} {P B g : Nat} {s : Value} {ns : List NdD} (h : TrV w P B s ns u) (U : Upd g u u') (hg : B < g) (ho : Off g s) : TrV w P B s ns u' :=
  ⟨U.blk h.r (by have := h.lt; omega), U.blk h.t (by omega), h.n.grownOff (upd_grown U) ho, h.o1, h.o2, U.below h.b (by have h1 := h.lt; have h2 := h.eq; omega), h.lt, h.eq, h.cap⟩
end Go.Proofs.Ytdbkphkgjaecoaa
