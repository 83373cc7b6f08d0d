/- Two nodes' last common ancestor; heirs. -/
import Derived.Test.YtdbkphkgjaecoaaAnM
set_option linter.unusedVariables false

set_option linter.unusedSimpArgs false
namespace Go.Proofs.Ytdbkphkgjaecoaa
open Go.RowKit

set_option maxRecDepth 100000

/-- Two nodes have a last common ancestor. -/
theorem meet_ex {ns : List NdD} (h : TrOK ns) : ∀ n p q : Nat, p + q ≤ n → p < ns.length → q < ns.length → ∃ c : Nat, c < ns.length ∧ ∀ x, x ∈ pathN ns (c : Int) ↔ (x ∈ pathN ns (p : Int) ∧ x ∈ pathN ns (q : Int)) := by
  intro n
  induction n with
  | zero =>
    intro p q h1 hp hq
    obtain rfl : p = q := by omega
    exact ⟨p, hp, fun x => ⟨fun h => ⟨h, h⟩, fun h => h.1⟩⟩
  | succ n ih =>
    intro p q h1 hp hq
    rcases Nat.lt_trichotomy p q with hlt | rfl | hgt
    · obtain ⟨g1, g2, g3⟩ := h.upAt hq (by omega)
      obtain ⟨c, hc, hx⟩ := ih p (upAt ns q) (by omega) hp g2
      refine ⟨c, hc, fun x => ?_⟩
      rw [hx x, path_up h hq, g3]
      exact ⟨fun h => ⟨h.1, .inl h.2⟩, fun h2 => ⟨h2.1, h2.2.resolve_right (fun e => by have := path_le h h2.1; omega)⟩⟩
    · exact ⟨p, hp, fun x => ⟨fun h => ⟨h, h⟩, fun h => h.1⟩⟩
    · obtain ⟨g1, g2, g3⟩ := h.upAt hp (by omega)
      obtain ⟨c, hc, hx⟩ := ih (upAt ns p) q (by omega) g2 hq
      refine ⟨c, hc, fun x => ?_⟩
      rw [hx x, path_up h hp, g3]
      exact ⟨fun h => ⟨.inl h.1, h.2⟩, fun h2 => ⟨h2.1.resolve_right (fun e => by have := path_le h h2.2; omega), h2.2⟩⟩

theorem heir_spec {ns : List NdD} (h : TrOK ns) {a : Int} : ∀ k : Nat, (hk : k < ns.length) → a ∈ pathN ns (k : Int) → a ≠ k → ∃ j : Nat, ∃ hj : j < ns.length, heirN ns a (k : Int) = j ∧ ns[j].up = a ∧ (j : Int) ∈ pathN ns (k : Int) := by
  intro k
  induction k using Nat.strongRecOn with
  | ind k ih =>
    intro hk ha hne
    have ha2 := ((path_up h hk).1 ha).resolve_right hne
    rw [heirN_up h hk ha2]
    have hr := path_node ha2
    have hu := (up_path h hk).2.1
    by_cases e : ns[k].up = a
    · rw [if_pos e]; exact ⟨k, hk, rfl, e, path_self h hk⟩
    · rw [if_neg e]
      obtain ⟨u, hu2⟩ : ∃ u : Nat, ns[k].up = u := ⟨ns[k].up.toNat, by omega⟩
      rw [hu2] at ha2 e hr hu ⊢
      obtain ⟨j, hj, h1, h2, h3⟩ := ih u (by omega) (by omega) ha2 (fun x => e x.symm)
      exact ⟨j, hj, h1, h2, (path_up h hk).2 (.inl (by rw [hu2]; exact h3))⟩

theorem com_two {ns : List NdD} (h : TrOK ns) {p q : Nat} (hp : p < ns.length) (hq : q < ns.length) : ∃ c : Nat, c < ns.length ∧ comN ns [(p : Int), (q : Int)] = c ∧ comN ns [(q : Int), (p : Int)] = c ∧ (c : Int) ∈ pathN ns (p : Int) ∧ (c : Int) ∈ pathN ns (q : Int) ∧ ∀ x, x ∈ pathN ns (p : Int) → x ∈ pathN ns (q : Int) → x ≤ c := by
  obtain ⟨c, hc, hx⟩ := meet_ex h _ p q (Nat.le_refl _) hp hq
  have hs := (hx c).1 (path_self h hc)
  refine ⟨c, hc, comN_of h (by simp) hc fun x => ?_, comN_of h (by simp) hc fun x => ?_, hs.1, hs.2, fun x h1 h2 => (path_le h ((hx x).2 ⟨h1, h2⟩)).2⟩
  · rw [hx x]; simp
  · rw [hx x]; simp [and_comm]

theorem com_one {ns : List NdD} (h : TrOK ns) {p : Nat} (hp : p < ns.length) : comN ns [(p : Int)] = p := comN_of h (by simp) hp fun x => by simp
end Go.Proofs.Ytdbkphkgjaecoaa
