/- A struct in a block that is known whole: its parts, one behind the other; loads and stores of one part. -/
import Derived.Test.YtdmjpmigejpkmaaRow2
import Derived.Deep.RegionHeld3
set_option linter.unusedVariables false
namespace Go.Proofs.Ytdmjpmigejpkmaa
open Go.RowKit

/-- The cells of a struct whose parts have these cells. -/
def flatP (ps : List (List Value)) : Array Value := ps.flatten.toArray

def offP (ps : List (List Value)) (k : Nat) : Nat := (ps.take k).flatten.length

theorem flatP_split {ps : List (List Value)} {k : Nat} {p : List Value} (h : ps[k]? = some p) : ps.flatten = (ps.take k).flatten ++ (p ++ (ps.drop (k + 1)).flatten) := by
  obtain ⟨hk, rfl⟩ := List.getElem?_eq_some_iff.1 h
  have e := List.take_append_drop k ps
  rw [List.drop_eq_getElem_cons hk] at e
  have e2 := congrArg List.flatten e
  rw [List.flatten_append, List.flatten_cons] at e2
  exact e2.symm

theorem flatP_set {ps : List (List Value)} {k : Nat} {p : List Value} (h : ps[k]? = some p) (q : List Value) : (ps.set k q).flatten = (ps.take k).flatten ++ (q ++ (ps.drop (k + 1)).flatten) := by
  obtain ⟨hk, rfl⟩ := List.getElem?_eq_some_iff.1 h
  rw [flatP_split (ps := ps.set k q) (k := k) (p := q) (by simp [hk])]
  rw [List.take_set_of_le (Nat.le_refl _), List.drop_set_of_lt (by omega)]

theorem Blk.part {w : World} {b : Nat} {ps : List (List Value)} (h : Blk w b (flatP ps)) {k : Nat} {p : List Value} (hk : ps[k]? = some p) : w.rangeAt b (offP ps k) p := fun j v hv => by
  rw [h.cell]
  have hj : j < p.length := (List.getElem?_eq_some_iff.1 hv).1
  unfold flatP offP
  rw [List.getElem?_toArray, flatP_split hk, List.getElem?_append_right (by omega), Nat.add_sub_cancel_left, List.getElem?_append_left hj]
  exact hv

theorem Blk.part1 {w : World} {b : Nat} {ps : List (List Value)} (h : Blk w b (flatP ps)) {k : Nat} {v : Value} (hk : ps[k]? = some [v]) : w.cell? ⟨b, offP ps k, none⟩ = some v := by
  have := h.part hk 0 v rfl
  exact this

theorem Blk.partThere {w : World} {b : Nat} {ps : List (List Value)} (h : Blk w b (flatP ps)) {k : Nat} {p : List Value} (hk : ps[k]? = some p) : w.there b (offP ps k) p.length := fun j hj => by
  refine ⟨?_, h.free _⟩
  rw [h.part hk j p[j] (List.getElem?_eq_getElem hj)]; rfl

/-- A part is written. -/
theorem Blk.setPart {w : World} {b : Nat} {ps : List (List Value)} (h : Blk w b (flatP ps)) {k : Nat} {p q : List Value} (hk : ps[k]? = some p) (hq : q.length = p.length) :
    Upd b w (w.setCells b (offP ps k) q) ∧ Blk (w.setCells b (offP ps k) q) b (flatP (ps.set k q)) := by
  have e0 := flatP_split hk
  have e1 := flatP_set hk q
  have hth : w.there b (offP ps k) q.length := by rw [hq]; exact h.partThere hk
  have hA : (ps.take k).flatten.length = offP ps k := rfl
  unfold flatP at h ⊢
  rw [e0] at h
  rw [e1]
  clear hk e0 e1
  generalize (ps.take k).flatten = A at *
  generalize (ps.drop (k + 1)).flatten = D at *
  generalize offP ps k = o at *
  obtain ⟨c, h2, h3, h4⟩ := setCells_blk (w := w) (b := b) q o _ h
  refine ⟨h4, ?_⟩
  have hr := World.rangeAt_setCells_same w b o q hth
  have : c = (A ++ (q ++ D)).toArray := by
    apply Array.ext_getElem?
    intro i
    rw [← h2.cell, List.getElem?_toArray]
    by_cases hi0 : i < o
    · rw [World.cell?_setCells_out b q o w ⟨b, i, none⟩ (fun _ _ => .inl hi0), h.cell, List.getElem?_toArray, List.getElem?_append_left (by omega), List.getElem?_append_left (by omega)]
    · rw [List.getElem?_append_right (by omega), hA]
      by_cases hi : i < o + q.length
      · have hlt : i - o < q.length := by omega
        have := hr (i - o) q[i - o] (List.getElem?_eq_getElem hlt)
        rw [show o + (i - o) = i by omega] at this
        rw [this, List.getElem?_append_left hlt, List.getElem?_eq_getElem hlt]
      · rw [World.cell?_setCells_out b q o w ⟨b, i, none⟩ (fun _ _ => .inr (by show o + q.length ≤ i; omega)), h.cell, List.getElem?_toArray, List.getElem?_append_right (by omega), hA,
          List.getElem?_append_right (by omega), List.getElem?_append_right (by omega), hq]
  exact this ▸ h2

/-- The store of a part that is an array or a struct. -/
theorem wpList_store_part {P : Program} {ops : Array Oper} {rest : List Oper} {op : Oper} {a : Act} {w : World} {Q : Exit → Act → World → Prop} (hgd : op.guard = none) (ty : TypeId) (x y : Operand) (ho : op.op = .store ty x y)
    (b : Nat) (ps : List (List Value)) (k : Nat) (p q : List Value) (hB : Blk w b (flatP ps)) (hk : ps[k]? = some p) (hx : a.eval x = .pointer (some ⟨b, offP ps k, none⟩)) (hy : a.eval y = .agg q.toArray)
    (hq : q.length = p.length) (hi : (P.info? ty).map (·.size) = some q.length) (h1 : ∀ v ∈ q, v.oneCell' = true)
    (h : ∀ w', Upd b w w' → Blk w' b (flatP (ps.set k q)) → wpList P ops Q rest (a.put op.dst undef) w') : wpList P ops Q (op :: rest) a w := by
  have hth : w.there b (offP ps k) q.toArray.size := by rw [List.size_toArray, hq]; exact hB.partThere hk
  refine wpList_store_mid hgd ty x y ho b (offP ps k) q.toArray hx hy hth (by simpa using hi) (all_oneCell_toArray h1) ?_
  obtain ⟨u, v⟩ := hB.setPart hk hq
  exact h _ u v

/-- The store of a part of one cell. -/
theorem wpList_store_part1 {P : Program} {ops : Array Oper} {rest : List Oper} {op : Oper} {a : Act} {w : World} {Q : Exit → Act → World → Prop} (hgd : op.guard = none) (ty : TypeId) (x y : Operand) (ho : op.op = .store ty x y)
    (b : Nat) (ps : List (List Value)) (k : Nat) (v u : Value) (hB : Blk w b (flatP ps)) (hk : ps[k]? = some [v]) (hx : a.eval x = .pointer (some ⟨b, offP ps k, none⟩)) (hy : a.eval y = u)
    (hi : (P.info? ty).map (·.size) = some 1) (hu : u.cells = #[u]) (h1 : u.oneCell' = true)
    (h : ∀ w', Upd b w w' → Blk w' b (flatP (ps.set k [u])) → wpList P ops Q rest (a.put op.dst undef) w') : wpList P ops Q (op :: rest) a w := by
  have hth := hB.partThere hk
  obtain ⟨g1, g2⟩ := hB.setPart (q := [u]) hk rfl
  have hr := run_storeCells_cells (P := P) b (offP ps k) [u] 0 w (fun j hj => by simpa using (hth j (by simpa using hj)).1) (fun j hj => by simpa using (hth j (by simpa using hj)).2) (fun z hz => by rw [List.mem_singleton.1 hz]; exact h1)
  refine wpList_plain hgd fun _ hK => ?_
  unfold Oper.wp execOp
  cases hq : P.info? ty with
  | none => simp [hq] at hi
  | some i =>
    have hs : i.size = 1 := by simpa [hq] using hi
    simp only [Nat.add_zero] at hr
    have hsv : (storeVar ty ⟨b, offP ps k, none⟩ u).run P w = .ok () (w.setCells b (offP ps k) [u]) := by
      simp [storeVar, sizeOf, typeInfo, hq, hu, hs, hr]
    simp only [ho, hx, hy, Instr.storeAt, Instr.sureAddr, Sem.run_bind, Sem.run_pure, Result.andThen_ok, hsv]
    exact hK _ _ (h _ g1 g2)

theorem flatP_size (ps : List (List Value)) : (flatP ps).size = ps.flatten.length := by simp [flatP]

theorem flatP_one {ps : List (List Value)} (h : ∀ p ∈ ps, ∀ v ∈ p, v.oneCell' = true) : ∀ v ∈ flatP ps, v.oneCell' = true := by
  intro v hv
  simp only [flatP, List.mem_toArray, List.mem_flatten] at hv
  obtain ⟨p, hp, hv⟩ := hv
  exact h p hp v hv

/-- The load of a part that is an array or a struct. -/
theorem wpList_load_part {P : Program} {ops : Array Oper} {rest : List Oper} {op : Oper} {a : Act} {w : World} {Q : Exit → Act → World → Prop} (ty : TypeId) (x : Operand) (ho : op.op = .load ty x)
    (b : Nat) (ps : List (List Value)) (k o : Nat) (p : List Value) (hB : Blk w b (flatP ps)) (hk : ps[k]? = some p) (hoff : offP ps k = o) (hx : a.eval x = .pointer (some ⟨b, o, none⟩)) (d : TypeDesc)
    (hu : P.underlying ty = some d) (hd : d.isRow = true) (hi : (P.info? ty).map (·.size) = some p.length) (hw : Region.wanted op (yielded ops a.tmps) = true)
    (h : wpList P ops Q rest (a.put op.dst (.agg p.toArray)) w) : wpList P ops Q (op :: rest) a w :=
  BigFrame.wpList_want hw fun _ hK => wp_load_mid ty x ho b o hx p d (hoff ▸ hB.part hk) hu hd hi (hK _ _ h)

theorem run_loadVar_1 {P : Program} (w : World) (ad : Addr) (ty : TypeId) (v : Value) (d : TypeDesc) (hc : w.cell? ad = some v) (hu : P.underlying ty = some d) (hd : d.isRow = false) : (loadVar ty ad).run P w = .ok v w := by
  have hagg : (isAgg ty).run P w = .ok false w := by
    unfold isAgg
    rw [Sem.run_bind, run_underlying hu w]
    cases d <;> simp_all
  simp [loadVar, Sem.run_bind, hagg, hc]

/-- The load of one cell, whatever it holds. -/
theorem wpList_load_1 {P : Program} {ops : Array Oper} {rest : List Oper} {op : Oper} {a : Act} {w : World} {Q : Exit → Act → World → Prop} (ty : TypeId) (x : Operand) (ho : op.op = .load ty x)
    (b o : Nat) (v : Value) (hc : w.cell? ⟨b, o, none⟩ = some v) (hx : a.eval x = .pointer (some ⟨b, o, none⟩)) (d : TypeDesc)
    (hu : P.underlying ty = some d) (hd : d.isRow = false) (hw : Region.wanted op (yielded ops a.tmps) = true)
    (h : wpList P ops Q rest (a.put op.dst v) w) : wpList P ops Q (op :: rest) a w :=
  BigFrame.wpList_want hw fun _ hK => by
    unfold Oper.wp execOp
    simp only [ho, hx, Instr.loadAt, Instr.sureAddr, Sem.run_bind, Sem.run_pure, Result.andThen_ok, run_loadVar_1 w ⟨b, o, none⟩ ty v d hc hu hd]
    exact hK _ _ h

theorem Blk.cellAt {w : World} {b : Nat} {ps : List (List Value)} (h : Blk w b (flatP ps)) {k o : Nat} {v : Value} (hk : ps[k]? = some [v]) (ho : offP ps k = o) : w.cell? ⟨b, o, none⟩ = some v := ho ▸ h.part1 hk
end Go.Proofs.Ytdmjpmigejpkmaa
