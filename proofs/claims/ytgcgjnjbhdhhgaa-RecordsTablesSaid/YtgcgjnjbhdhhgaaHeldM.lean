/- A region that draws its order, whose condition on the worlds grows behind an operation (for CodecAppends). -/
import Derived.Test.YtgcgjnjbhdhhgaaCdH
import Derived.Deep.RegionHeld
set_option linter.unusedVariables false
namespace Go.Proofs.Ytgcgjnjbhdhhgaa

/-- A stronger condition serves for a weaker one. -/
theorem wpAnyH_mono {P : Program} {md : Region.Mode} {ops : Array Oper} {Q : Exit → Act → World → Prop} {S S' : World → Prop} (hS : ∀ w, S' w → S w) :
    ∀ (fuel : Nat) (listed : Array Bool) (a : Act) (w : World), wpAnyH P md ops Q S' fuel listed a w → wpAnyH P md ops Q S fuel listed a w
  | 0, _, _, _, h => h
  | fuel + 1, _, _, _, h => ⟨h.1, fun i hi => wpOp_mono (fun _ w' h' => ⟨hS w' h'.1, wpAnyH_mono hS fuel _ _ _ h'.2⟩) (h.2 i hi)⟩

/-- Behind an operation that is carried out the condition may be taken anew: 'S1' for the world that it left. -/
theorem held_grow {P : Program} {ops : Array Oper} {Q : Exit → Act → World → Prop} {S : World → Prop} {fuel : Nat} {listed : Array Bool} {a : Act} {w : World} {K' : Act → World → Prop}
    (hK : Shut (∀ a w, S w → (S w → wpAnyH P .any ops Q S fuel listed a w) → K' a w)) (hs : S w) (S1 : World → Prop) (h1 : ∀ u, S1 u → S u)
    (h : wpAnyH P .any ops Q S1 fuel listed a w) : K' a w :=
  hK.out a w hs fun _ => wpAnyH_mono h1 _ _ _ _ h

/-- An append, carried out in such a region. -/
theorem wp_app {o : Oper} {a : Act} {w : World} {K : Act → World → Prop} {Q : Exit → Act → World → Prop} (s x : Operand)
    (ho : o.op = .call { callee := .builtin .append, args := #[s, x], argTypes := #[38, 38] })
    (B : Nat) (v : Value) (xs : List Int) (hs : a.eval s = v) (hown : Own w B v xs) (y : Value) (ys : List Int) (hx : a.eval x = y) (hy : Byt w y ys) (h47 : xs.length + ys.length ≤ 140737488355328) (hB : B ≤ w.heap.size)
    (h : ∀ v' w', Own w' B v' (xs ++ ys) → w.grownBy w' v.ownBlock → K (a.put o.dst v') w') : o.wp Try.prog a w K Q := by
  obtain ⟨v', w', h1, h2, h3⟩ := run_app w B o.type v xs hown y ys hy h47 hB
  unfold Oper.wp execOp
  simp only [ho, resolve, invoke, builtin, Sem.run_bind, Sem.run_pure, Result.andThen_ok, List.map_toArray, List.map_cons, List.map_nil, hs, hx, h1]
  exact h v' w' h2 h3

end Go.Proofs.Ytgcgjnjbhdhhgaa
