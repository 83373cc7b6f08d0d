/- The law's same: data. -/
import Derived.Test.YtdfemompijhohaaBkR
set_option linter.unusedVariables false
set_option linter.unusedSimpArgs false
namespace Go.Proofs.Ytdfemompijhohaa
open Go.RowKit Go.Maps Go.Sort
set_option maxRecDepth 100000

def TeD.d (e : TeD) : CpD × List Int := (e.c, e.l)
def Sorted (ds : List (CpD × List Int)) : Prop := ds.Pairwise fun x y => ltC x.1 y.1

/-- The book and the reference's list hold the same. -/
structure Match (E : List TeD) (ds : List (CpD × List Int)) : Prop where
  perm : (E.map TeD.d).Perm ds
  sorted : Sorted ds

theorem Match.keys {E : List TeD} {ds : List (CpD × List Int)} (h : Match E ds) (c : CpD) : c ∈ ds.map Prod.fst ↔ c ∈ E.map TeD.c := by
  have := (h.perm.map Prod.fst).mem_iff (a := c)
  rw [← this, List.map_map]
  rfl
theorem Match.len {E : List TeD} {ds : List (CpD × List Int)} (h : Match E ds) : E.length = ds.length := by have := h.perm.length_eq; simpa using this

theorem Match.lst {E : List TeD} {ds : List (CpD × List Int)} (h : Match E ds) (hn : (E.map TeD.c).Nodup) {d : CpD × List Int} (hd : d ∈ ds) : tlst E d.1 = d.2 := by
  obtain ⟨e, he, rfl⟩ := List.mem_map.1 (h.perm.mem_iff.2 hd)
  exact tlst_mem hn he

/-- Two sorted lists that hold the same are one. -/
theorem sorted_eq {a b : List (CpD × List Int)} (h1 : Sorted a) (h2 : Sorted b) (hp : a.Perm b) (hok : ∀ d ∈ a, d.1.ok) : a = b :=
  List.Perm.eq_of_pairwise (le := fun (x y : CpD × List Int) => ltC x.1 y.1) (fun x y hx hy l1 l2 => absurd l2 (ltC_asymm (hok x hx) (hok y (hp.mem_iff.2 hy)) l1)) h1 h2 hp

theorem tabs_data {T : List TbS} {E : List TeD} {ds : List (CpD × List Int)} (hm : Match E ds) (hn : (E.map TeD.c).Nodup) (hp : (T.map TbS.c).Perm (E.map TeD.c)) (hs : T.Pairwise (fun x y => ltC x.c y.c)) : T.map (fun x => (x.c, tlst E x.c)) = ds := by
  refine sorted_eq ?_ hm.sorted ?_ ?_
  · unfold Sorted; rw [List.pairwise_map]; exact hs
  · have h1 := hp.map (fun c => (c, tlst E c))
    rw [List.map_map, List.map_map] at h1
    refine List.Perm.trans h1 (List.Perm.trans (List.Perm.of_eq (List.map_congr_left fun e he => ?_)) hm.perm)
    show (e.c, tlst E e.c) = (e.c, e.l)
    rw [tlst_mem hn he]
  · intro d hd
    obtain ⟨x, _, rfl⟩ := List.mem_map.1 hd
    exact x.ok

/-- What Tables hands back as a slice of tables. -/
theorem tabsR_elV {w w' : World} {E : List TeD} {e : Ending} (h : TabsR w E e w') {ds : List (CpD × List Int)} (hm : Match E ds) (hn : (E.map TeD.c).Nodup) (hl : ds.length ≤ 1000) : ∃ v, e = .returned v ∧ Below w.heap.size w w' ∧ ElV (TabEl 0 False) 34 w' v ds := by
  obtain ⟨v, T, rfl, hb, hv, hel, hp, hs⟩ := h
  have hd := tabs_data hm hn hp hs
  have hlen : T.length = ds.length := by rw [← hd]; simp
  refine ⟨v, rfl, hb, ?_⟩
  rcases hv with ⟨rfl, a, k, rfl⟩ | ⟨g, cap, rfl, hg, hlt, h0, hH, _⟩
  · obtain rfl : ds = [] := by rw [← hd]; rfl
    exact ⟨a, k, rfl, Nat.zero_le _, .inl rfl⟩
  · refine ⟨_, cap, by rw [hlen], by unfold maxLen; omega, .inr ⟨g, 0, rfl, hlt, T.map (fun x => (encT x).toArray), holds_rows hH, by simp [hlen], ?_⟩⟩
    intro p hp
    rw [← hd, List.zip_map'] at hp
    obtain ⟨x, hx, rfl⟩ := List.mem_map.1 hp
    obtain ⟨h1, h2, h3⟩ := hel x hx
    exact ⟨x.ok, x.a, x.n, x.k, encT_flat x, h1, (fun z l c e h => Nat.zero_le _), (fun h => h.elim), trivial⟩

theorem known_find {E : List TeD} {ds : List (CpD × List Int)} (hm : Match E ds) {c : CpD} {i : Int} (h : FindR ds c i) : (tget E c).isSome = decide (0 ≤ i) := by
  rw [Bool.eq_iff_iff, decide_eq_true_iff]
  constructor
  · intro hs
    rcases Int.lt_or_le i 0 with hi | hi
    · have := find_neg h hi
      rw [hm.keys] at this
      rw [tget_none.2 this] at hs; cases hs
    · exact hi
  · intro hi
    have := find_pos h hi
    rw [hm.keys] at this
    cases ht : tget E c with
    | none => exact absurd this (tget_none.1 ht)
    | some e => rfl

def sumTo (L : List Int) (v : Int) : Int := (L.take v.toNat).sum
theorem sumTo_step {L : List Int} {v : Int} (h : -1 ≤ v) : sumTo L (v + 1) = sumTo L v + if v < 0 then 0 else L.getD v.toNat 0 := by
  unfold sumTo
  by_cases h0 : v < 0
  · have : v = -1 := by omega
    subst this
    simp
  · rw [if_neg h0]
    obtain ⟨j, rfl⟩ : ∃ j : Nat, v = j := ⟨v.toNat, by omega⟩
    have e : ((j : Int) + 1).toNat = j + 1 := by omega
    rw [e]
    simp only [Int.toNat_natCast]
    rw [List.take_add_one, List.sum_append]
    by_cases hj : j < L.length
    · simp [List.getD, List.getElem?_eq_getElem hj]
    · simp [List.getD, List.getElem?_eq_none (Nat.le_of_not_lt hj)]
theorem sumTo_bal {E : List TeD} {c : CpD} {v : Int} (h : -1 ≤ v) : sumTo (tlst E c) (v + 1) = sumTo (tlst E c) v + balV E c v := sumTo_step h
theorem sumTo_bd {L : List Int} (h : ∀ x ∈ L, 0 ≤ x) (v : Int) : 0 ≤ sumTo L v ∧ sumTo L v ≤ L.sum :=
  ⟨sum_nonneg (fun x hx => h x (List.mem_of_mem_take hx)), take_sum_le h _⟩

end Go.Proofs.Ytdfemompijhohaa
