/- Stage 3: the walk of RootsSorted. -/
import Derived.Test.YtjlfacdmfcbjfaaUniq
set_option linter.unusedVariables false
namespace Go.Proofs.Ytjlfacdmfcbjfaa
open Go.RowKit

theorem rcmp_below (x y : Rt) (w : World) {c : Int} (h : cfR x y = c) :
    Calls Try.prog 50 #[.agg (encR x).toArray, .agg (encR y).toArray] w fun e w' => e = .returned (.int .i64 c) ∧ Below w.heap.size w w' := by
  subst h
  refine (rcmp_grow x y w).mono ?_
  rintro e w' ⟨rfl, q, os, rfl⟩
  exact ⟨rfl, below_grow (Below.refl _ _) (Nat.le_refl _) os q⟩

theorem contains_yes (v : Value) (d : List Rt) (x : Rt) (w : World) (h : Rts w v d) (hx : x ∈ d) :
    Calls Try.prog 37 #[v, .agg (encR x).toArray] w fun e w' => e = .returned (.bool true) ∧ Below w.heap.size w w' := by
  have := contains_any v d x w h
  rwa [decide_eq_true hx] at this

theorem Rts.row {w : World} {a : Option Addr} {len cap : Nat} {d : List Rt} (h : Rts w (.slice a len cap) d) (hp : 0 < len) : ∃ b off, a = some ⟨b, off, none⟩ ∧ b < w.heap.size ∧ RootsAt w b off d := by
  obtain ⟨a', l', c', e, hl, hm, h0⟩ := h
  cases e
  rcases h0 with h0 | h0
  · omega
  · exact h0

theorem Rts.len {w : World} {a : Option Addr} {len cap : Nat} {d : List Rt} (h : Rts w (.slice a len cap) d) : d.length = len := by
  obtain ⟨a', l', c', e, hl, _⟩ := h; cases e; exact hl

theorem RootsAt.get {w : World} {b off k : Nat} {d : List Rt} {x : Rt} (h : RootsAt w b off d) (hk : k < d.length) (hx : d[k]! = x) : w.rangeAt b (off + k * 32) (encR x) := hx ▸ h k hk

theorem asc_get {l : List Rt} (h : l.Pairwise fun x y => cfR x y < 0) {k : Nat} (h0 : 0 < k) (hk : k < l.length) : cfR l[k - 1]! l[k]! = -1 := by
  have := List.pairwise_iff_getElem.1 h (k - 1) k (by omega) hk (by omega)
  rw [getElem!_pos _ k hk, getElem!_pos _ (k - 1) (by omega)]
  have r := cmpB_rng l[k - 1].1 l[k].1
  unfold cfR at this ⊢
  omega

theorem get_mem {l : List Rt} {k : Nat} (hk : k < l.length) : l[k]! ∈ l := by
  rw [getElem!_pos _ k hk]; exact List.getElem_mem hk

end Go.Proofs.Ytjlfacdmfcbjfaa
