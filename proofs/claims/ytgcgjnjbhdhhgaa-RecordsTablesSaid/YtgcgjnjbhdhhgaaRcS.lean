/- The state of a function that reads a record: its reader, its variable x, part by part. -/
import Derived.Test.YtgcgjnjbhdhhgaaRcF
set_option linter.unusedVariables false
namespace Go.Proofs.Ytgcgjnjbhdhhgaa
open Go.RowKit

theorem offP_lens {ps : List (List Value)} {ls : List Nat} (h : ps.map List.length = ls) (k : Nat) : offP ps k = (ls.take k).sum := by
  subst h
  unfold offP
  rw [List.length_flatten, List.map_take]

/-- Block g holds the reader (its bytes from block lo on), block gr the variable of type reader, block hx the record, whose parts have these lengths; since w0 only g and new blocks have changed. -/
structure DS (lo g gr hx : Nat) (size : Int) (ls : List Nat) (w0 w : World) (ps : List (List Value)) (s : RS) : Prop where
  rd : Rdr lo w g s.r s.e
  rv : Blk w gr #[.pointer (some ⟨g, 0, none⟩), .int .i64 size]
  xv : Blk w hx (flatP ps)
  len : ps.map List.length = ls
  gro : w0.grownBy w (some g)
  hx0 : w0.heap.size ≤ hx
  gr0 : w0.heap.size ≤ gr
  xg : hx ≠ g
  xr : hx ≠ gr
  rg : gr ≠ g
  sep : hx < lo ∨ g < hx

section
variable {lo g gr hx : Nat} {size : Int} {ls : List Nat} {w0 w w' : World} {ps : List (List Value)} {s : RS}

theorem DS.read (h : DS lo g gr hx size ls w0 w ps s) {s' : RS} (hr : Rdr lo w' g s'.r s'.e) (hg : w.grownBy w' (some g)) : DS lo g gr hx size ls w0 w' ps s' :=
  ⟨hr, h.rv.grown hg (by simpa using h.rg), h.xv.grown hg (by simpa using h.xg), h.len, h.gro.trans hg, h.hx0, h.gr0, h.xg, h.xr, h.rg, h.sep⟩

theorem DS.below (h : DS lo g gr hx size ls w0 w ps s) (hb : Below w.heap.size w w') : DS lo g gr hx size ls w0 w' ps s :=
  ⟨h.rd.below hb, h.rv.call hb, h.xv.call hb, h.len, h.gro.trans (grownBy_of_below hb), h.hx0, h.gr0, h.xg, h.xr, h.rg, h.sep⟩

theorem DS.put (h : DS lo g gr hx size ls w0 w ps s) {ps' : List (List Value)} (hU : Upd hx w w') (hB : Blk w' hx (flatP ps')) (hl : ps'.map List.length = ls) : DS lo g gr hx size ls w0 w' ps' s :=
  ⟨h.sep.elim (fun h1 => h.rd.upd hU h1 h.xg) (fun h1 => h.rd.updHi hU h1), hU.blk h.rv h.xr.symm, hB, hl, grownBy_keep h.gro hU h.hx0, h.hx0, h.gr0, h.xg, h.xr, h.rg, h.sep⟩

theorem set_lens {k : Nat} {q : List Value} (h : ps.map List.length = ls) (hk : ls[k]? = some q.length) : (ps.set k q).map List.length = ls := by
  subst h
  rw [List.map_set]
  obtain ⟨hk1, hk2⟩ := List.getElem?_eq_some_iff.1 hk
  rw [← hk2, List.set_getElem_self]

theorem DS.partLen (h : DS lo g gr hx size ls w0 w ps s) {k n : Nat} (hk : ls[k]? = some n) : ∃ p, ps[k]? = some p ∧ p.length = n := by
  have := h.len
  subst this
  rw [List.getElem?_map] at hk
  cases hp : ps[k]? with
  | none => rw [hp] at hk; cases hk
  | some p => rw [hp] at hk; exact ⟨p, rfl, by simpa using hk⟩

/-- A part that is an array or a struct is stored. -/
theorem wpList_store_ds {P : Program} {ops : Array Oper} {rest : List Oper} {op : Oper} {a : Act} {Q : Exit → Act → World → Prop} (hgd : op.guard = none) (ty : TypeId) (x y : Operand) (ho : op.op = .store ty x y)
    (h : DS lo g gr hx size ls w0 w ps s) (k o : Nat) (q : List Value) (hk : ls[k]? = some q.length) (hof : (ls.take k).sum = o) (hx' : a.eval x = .pointer (some ⟨hx, o, none⟩)) (hy : a.eval y = .agg q.toArray)
    (hi : (P.info? ty).map (·.size) = some q.length) (h1 : ∀ v ∈ q, v.oneCell' = true)
    (hK : ∀ w', Upd hx w w' → DS lo g gr hx size ls w0 w' (ps.set k q) s → wpList P ops Q rest (a.put op.dst undef) w') : wpList P ops Q (op :: rest) a w := by
  obtain ⟨p, hp, hpl⟩ := h.partLen hk
  refine wpList_store_part hgd ty x y ho hx ps k p q h.xv hp (by rw [offP_lens h.len, hof]; exact hx') hy hpl.symm hi h1 fun w' hU hB => hK w' hU (h.put hU hB (set_lens h.len hk))

/-- A part of one cell is stored. -/
theorem wpList_store_ds1 {P : Program} {ops : Array Oper} {rest : List Oper} {op : Oper} {a : Act} {Q : Exit → Act → World → Prop} (hgd : op.guard = none) (ty : TypeId) (x y : Operand) (ho : op.op = .store ty x y)
    (h : DS lo g gr hx size ls w0 w ps s) (k o : Nat) (u : Value) (hk : ls[k]? = some 1) (hof : (ls.take k).sum = o) (hx' : a.eval x = .pointer (some ⟨hx, o, none⟩)) (hy : a.eval y = u)
    (hi : (P.info? ty).map (·.size) = some 1) (hu : u.cells = #[u]) (h1 : u.oneCell' = true)
    (hK : ∀ w', Upd hx w w' → DS lo g gr hx size ls w0 w' (ps.set k [u]) s → wpList P ops Q rest (a.put op.dst undef) w') : wpList P ops Q (op :: rest) a w := by
  obtain ⟨p, hp, hpl⟩ := h.partLen hk
  obtain ⟨v, rfl⟩ := List.length_eq_one_iff.1 hpl
  refine wpList_store_part1 hgd ty x y ho hx ps k v u h.xv hp (by rw [offP_lens h.len, hof]; exact hx') hy hi hu h1 fun w' hU hB => hK w' hU (h.put hU hB (set_lens h.len hk))

/-- A part as it lies in memory. -/
theorem DS.cell1 (h : DS lo g gr hx size ls w0 w ps s) (k o : Nat) {v : Value} (hk : ps[k]? = some [v]) (hof : (ls.take k).sum = o) : w.cell? ⟨hx, o, none⟩ = some v := by
  have := h.xv.part1 hk
  rwa [offP_lens h.len, hof] at this

/-- The beginning: x is made, the reader comes, its variable is made. -/
theorem DS.start {T : TypeId} {w1 w2 : World} {bs : List Int} {t' : TypeId} (hr : Rdr (w0.heap.size + 1) w1 g bs 0) (hg : w0.heap.size + 1 < g) (hb : Below (w0.heap.size + 1) (w0.alloc (.cells (flatP ps) T)) w1) (hl : ps.map List.length = ls)
    (hU : Upd w1.heap.size (w1.alloc (.cells #[.pointer none, .int .i64 0] t')) w2) (hB : Blk w2 w1.heap.size #[.pointer (some ⟨g, 0, none⟩), .int .i64 size]) : DS (w0.heap.size + 1) g w1.heap.size w0.heap.size size ls w0 w2 ps ⟨bs, 0⟩ := by
  have hglt := hr.lt
  have hs := hb.size
  have hs0 : (w0.alloc (.cells (flatP ps) T)).heap.size = w0.heap.size + 1 := by simp
  have x0 : Blk (w0.alloc (.cells (flatP ps) T)) w0.heap.size (flatP ps) := Blk.new rfl
  have x1 := x0.below hb (by omega)
  have ha : Below w1.heap.size w1 w2 := hU.below ((Below.refl _ w1).alloc (Nat.le_refl _) _) (Nat.le_refl _)
  have hb0 : Below w0.heap.size w0 w1 := ((Below.refl _ w0).alloc (Nat.le_refl _) _).trans (hb.mono (by omega))
  exact ⟨hr.below ha, hB, x1.call ha, hl, grownBy_of_below (hb0.trans (ha.mono (by omega))), Nat.le_refl _, by omega, by omega, by omega, by omega, .inl (by omega)⟩

theorem DS.bel (h : DS lo g gr hx size ls w0 w ps s) (hg : w0.heap.size ≤ g) : Below w0.heap.size w0 w := grownBy_below h.gro hg (Nat.le_refl _)
end

theorem Ints.upd {k : IntKind} {w w' : World} {v : Value} {l : List Int} {b : Nat} (h : Ints k w v l) (hU : Upd b w w') (hne : ∀ x a c, v = .slice (some x) a c → x.block ≠ b) : Ints k w' v l := by
  obtain ⟨a, len, cap, rfl, hl, hm, hr⟩ := h
  refine ⟨a, len, cap, rfl, hl, hm, ?_⟩
  rcases hr with h0 | ⟨d, off, rfl, hlt, hc⟩
  · exact .inl h0
  · have hd := hne _ _ _ rfl
    refine .inr ⟨d, off, rfl, by rw [hU.size]; exact hlt, fun i hi => ?_⟩
    rw [show w'.cell? ⟨d, off + i, none⟩ = w.cell? ⟨d, off + i, none⟩ by simp only [World.cell?, hU.block d hd]]
    exact hc i hi

theorem Ints.grown {k : IntKind} {w w' : World} {v : Value} {l : List Int} {g : Nat} (h : Ints k w v l) (hg : w.grownBy w' (some g)) (hne : ∀ x a c, v = .slice (some x) a c → x.block ≠ g) : Ints k w' v l := by
  obtain ⟨a, len, cap, rfl, hl, hm, hr⟩ := h
  refine ⟨a, len, cap, rfl, hl, hm, ?_⟩
  rcases hr with h0 | ⟨d, off, rfl, hlt, hc⟩
  · exact .inl h0
  · have hd := hne _ _ _ rfl
    refine .inr ⟨d, off, rfl, Nat.lt_of_lt_of_le hlt hg.size, fun i hi => ?_⟩
    rw [hg.cell_far ⟨d, off + i, none⟩ hlt (by simpa using hd)]
    exact hc i hi

end Go.Proofs.Ytgcgjnjbhdhhgaa
