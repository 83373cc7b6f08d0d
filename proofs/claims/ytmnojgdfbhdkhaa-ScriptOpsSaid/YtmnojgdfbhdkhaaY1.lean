/- Several texts as one: RcM, Pt, RcD, RcV, RcA, RcE, RcR, Held4, RcF, RcS. -/
import Derived.Test.YtmnojgdfbhdkhaaCdQ
import Derived.Test.YtmnojgdfbhdkhaaRow2
import Derived.Deep.RegionHeld3
import Derived.IntWalk
import Derived.Test.YtmnojgdfbhdkhaaCdG
import Derived.Deep.RegionHeld
namespace Go.Proofs.Ytmnojgdfbhdkhaa

/-! RcM -/
section
set_option linter.unusedVariables false
open Go.RowKit

/-! ### ValidateList -/
def okAt (l : List Int) (n : Int) (i : Nat) : Int :=
  if l.getD i 0 < 0 ∨ n ≤ l.getD i 0 then 3 else if 0 < i ∧ l.getD i 0 ≤ l.getD (i - 1) 0 then 8 else 0
def vlGo (l : List Int) (n : Int) : Nat → Nat → Int
  | 0, _ => 0
  | f + 1, i => if okAt l n i ≠ 0 then okAt l n i else vlGo l n f (i + 1)
def vlE (l : List Int) (n : Int) : Int := if l.length = 0 then 2 else vlGo l n l.length 0

theorem vlGo_next {l : List Int} {n : Int} {k : Nat} (hk : k < l.length) : vlGo l n (l.length - k) k = if okAt l n k ≠ 0 then okAt l n k else vlGo l n (l.length - (k + 1)) (k + 1) := by
  obtain ⟨f, hf⟩ : ∃ f, l.length - k = f + 1 := ⟨l.length - k - 1, by omega⟩
  rw [hf, vlGo, show l.length - (k + 1) = f by omega]

theorem vlGo_good {l : List Int} {n : Int} : ∀ f i, vlGo l n f i = 0 → ∀ j, i ≤ j → j < i + f → okAt l n j = 0
  | 0, i, _, j, h1, h2 => by omega
  | f + 1, i, h, j, h1, h2 => by
    rw [vlGo] at h
    by_cases h0 : okAt l n i = 0
    · rw [if_neg (by simpa using h0)] at h
      by_cases hj : j = i
      · subst hj; exact h0
      · exact vlGo_good f (i + 1) h j (by omega) (by omega)
    · rw [if_pos h0] at h; exact absurd h h0

theorem okAt_zero {l : List Int} {n : Int} {i : Nat} (h : okAt l n i = 0) : 0 ≤ l.getD i 0 ∧ l.getD i 0 < n ∧ (0 < i → l.getD (i - 1) 0 < l.getD i 0) := by
  unfold okAt at h
  split at h
  · cases h
  · rename_i h1
    split at h
    · cases h
    · rename_i h2
      exact ⟨by omega, by omega, fun h3 => by omega⟩

theorem okAt_of {l : List Int} {n : Int} {i : Nat} (h1 : 0 ≤ l.getD i 0) (h2 : l.getD i 0 < n) (h3 : 0 < i → l.getD (i - 1) 0 < l.getD i 0) : okAt l n i = 0 := by
  unfold okAt
  rw [if_neg (by omega), if_neg (by omega)]

theorem vl_good {l : List Int} {n : Int} (h : vlE l n = 0) : 0 < l.length ∧ ∀ i, i < l.length → 0 ≤ l.getD i 0 ∧ l.getD i 0 < n ∧ (0 < i → l.getD (i - 1) 0 < l.getD i 0) := by
  unfold vlE at h
  split at h
  · cases h
  · rename_i h0
    exact ⟨by omega, fun i hi => okAt_zero (vlGo_good _ _ h i (Nat.zero_le _) (by omega))⟩

/-! ### Encodings of sequences of numbers -/
def seqK (f : Nat → Int) : Nat → List Int
  | 0 => []
  | k + 1 => seqK f k ++ uenc (f k).toNat
def gap (l : List Int) (i : Nat) : Int := if i = 0 then l.getD 0 0 else l.getD i 0 - l.getD (i - 1) 0 - 1
/-- A list's encoding, up to element k. -/
def lencK (l : List Int) (k : Nat) : List Int := uenc l.length ++ seqK (gap l) k
def lenc (l : List Int) : List Int := lencK l l.length
def tencK (l : List Int) (k : Nat) : List Int := uenc l.length ++ seqK (fun i => l.getD i 0) k
def tenc (l : List Int) : List Int := tencK l l.length

theorem lencK_next (l : List Int) (k : Nat) : lencK l (k + 1) = lencK l k ++ uenc (gap l k).toNat := by simp [lencK, seqK]
theorem tencK_next (l : List Int) (k : Nat) : tencK l (k + 1) = tencK l k ++ uenc (l.getD k 0).toNat := by simp [tencK, seqK]

theorem seqK_len {f : Nat → Int} {n : Nat} (h : ∀ i, i < n → f i ≤ 18446744073709551615) : ∀ k, k ≤ n → (seqK f k).length ≤ 10 * k
  | 0, _ => by simp [seqK]
  | k + 1, hk => by
    have h1 := seqK_len h k (by omega)
    have h2 := uenc_len10 (n := (f k).toNat) (by have := h k (by omega); omega)
    rw [seqK, List.length_append]; omega

theorem seqK_byte (f : Nat → Int) : ∀ k, ∀ x ∈ seqK f k, 0 ≤ x ∧ x ≤ 255
  | 0 => by simp [seqK]
  | k + 1 => fun x hx => by
    rw [seqK, List.mem_append] at hx
    rcases hx with hx | hx
    · exact seqK_byte f k x hx
    · exact uenc_byte _ x hx

/-- What is still to come, from number i on, of k numbers in all. -/
def seqF (f : Nat → Int) : Nat → Nat → List Int
  | 0, _ => []
  | k + 1, i => uenc (f i).toNat ++ seqF f k (i + 1)
theorem gap_good {l : List Int} {n : Int} (h : vlE l n = 0) {i : Nat} (hi : i < l.length) : 0 ≤ gap l i ∧ gap l i < n := by
  have h1 := (vl_good h).2 i hi
  unfold gap
  split
  · rename_i h0; subst h0; exact ⟨h1.1, h1.2.1⟩
  · rename_i h0
    have h2 := (vl_good h).2 (i - 1) (by omega)
    have := h1.2.2 (by omega)
    omega

/-! ### A reader's state -/
structure RS where
  r : List Int
  e : Int

def vU (m : Int) (s : RS) : Int := ruV s.r s.e m
def nU (m : Int) (s : RS) : RS := ⟨ruR s.r s.e m, ruE s.r s.e m⟩
def vW (s : RS) : List Int := wV s.r s.e
def nW (s : RS) : RS := ⟨tkR s.r s.e 32, tkE s.r s.e 32⟩
def vC (s : RS) : Array Value := cpX s.r s.e
def nC (s : RS) : RS := ⟨cpR s.r s.e, cpE s.r s.e⟩
def vB (s : RS) : Bool := bV s.r s.e
def nB (s : RS) : RS := ⟨bR s.r s.e, bE s.r s.e⟩
abbrev mxU : Int := 18446744073709551615

theorem nU_err {m : Int} {s : RS} (h : s.e ≠ 0) : nU m s = s := by
  unfold nU ruR ruE; rw [if_pos h, if_pos h]
/-- k numbers, none above m. -/
def stK (m : Int) (s : RS) : Nat → RS
  | 0 => s
  | k + 1 => nU m (stK m s k)
/-- The elements of a list that are read: each is told by its distance. -/
def elK (v : Nat → Int) : Nat → Int
  | 0 => v 0
  | k + 1 => elK v k + 1 + v (k + 1)
def lsV (s : RS) : List Int := (List.range (vU 1024 s).toNat).map (elK fun i => vU 1024 (stK 1024 (nU 1024 s) i))
def lsN (s : RS) : RS := stK 1024 (nU 1024 s) (vU 1024 s).toNat
def tbV (s : RS) : List Int := (List.range (vU 1024 s).toNat).map fun i => vU mxU (stK mxU (nU 1024 s) i)
def tbN (s : RS) : RS := stK mxU (nU 1024 s) (vU 1024 s).toNat

def byteL (l : List Int) : Prop := ∀ x ∈ l, 0 ≤ x ∧ x ≤ 255

theorem ruV_rng' {rest : List Int} {e most : Int} (h : byteL rest) (hm : 0 ≤ most) : 0 ≤ ruV rest e most ∧ ruV rest e most ≤ most := by
  have h1 := ruV_rng (rest := rest) (e := e) (most := most) (fun k hk => by
    have e1 : rest.getD k 0 = rest[k] := by simp [List.getD, List.getElem?_eq_getElem hk]
    rw [e1]; exact h _ (List.getElem_mem hk))
  refine ⟨h1.1, ?_⟩
  unfold ruV
  split
  · omega
  · split
    · omega
    · split
      · omega
      · omega

theorem vU_rng {m : Int} {s : RS} (h : byteL s.r) (hm : 0 ≤ m) : 0 ≤ vU m s ∧ vU m s ≤ m := ruV_rng' h hm
theorem nU_byte {m : Int} {s : RS} (h : byteL s.r) : byteL (nU m s).r := ruR_rng h
theorem stK_byte {m : Int} {s : RS} (h : byteL s.r) : ∀ k, byteL (stK m s k).r
  | 0 => h
  | k + 1 => nU_byte (stK_byte h k)
theorem nU_len (m : Int) (s : RS) : (nU m s).r.length ≤ s.r.length := ruR_len _ _ _
theorem stK_len (m : Int) (s : RS) : ∀ k, (stK m s k).r.length ≤ s.r.length
  | 0 => Nat.le_refl _
  | k + 1 => Nat.le_trans (nU_len m _) (stK_len m s k)

theorem elK_rng {v : Nat → Int} {m : Int} (h : ∀ i, 0 ≤ v i ∧ v i ≤ m) (hm : 0 ≤ m) : ∀ k, 0 ≤ elK v k ∧ elK v k ≤ (m + 1) * (k + 1)
  | 0 => by have := h 0; simp only [elK]; omega
  | k + 1 => by
    have h1 := elK_rng h hm k
    have h2 := h (k + 1)
    rw [elK]
    have e : (m + 1) * (((k + 1 : Nat) : Int) + 1) = (m + 1) * ((k : Int) + 1) + (m + 1) := by
      rw [show (((k + 1 : Nat) : Int) + 1) = ((k : Int) + 1) + 1 by omega, Int.mul_add, Int.mul_one]
    rw [e]
    omega

/-! ### What was written is read -/
end

/-! Pt -/
section
set_option linter.unusedVariables false
open Go.RowKit

/-- The cells of a struct whose parts have these cells. -/
def flatP (ps : List (List Value)) : Array Value := ps.flatten.toArray
def offP (ps : List (List Value)) (k : Nat) : Nat := (ps.take k).flatten.length

theorem flatP_split {ps : List (List Value)} {k : Nat} {p : List Value} (h : ps[k]? = some p) : ps.flatten = (ps.take k).flatten ++ (p ++ (ps.drop (k + 1)).flatten) := by
  obtain ⟨hk, rfl⟩ := List.getElem?_eq_some_iff.1 h
  have e := List.take_append_drop k ps
  rw [List.drop_eq_getElem_cons hk] at e
  have e2 := congrArg List.flatten e
  rw [List.flatten_append, List.flatten_cons] at e2
  exact e2.symm

theorem flatP_set {ps : List (List Value)} {k : Nat} {p : List Value} (h : ps[k]? = some p) (q : List Value) : (ps.set k q).flatten = (ps.take k).flatten ++ (q ++ (ps.drop (k + 1)).flatten) := by
  obtain ⟨hk, rfl⟩ := List.getElem?_eq_some_iff.1 h
  rw [flatP_split (ps := ps.set k q) (k := k) (p := q) (by simp [hk])]
  rw [List.take_set_of_le (Nat.le_refl _), List.drop_set_of_lt (by omega)]

theorem Blk.part {w : World} {b : Nat} {ps : List (List Value)} (h : Blk w b (flatP ps)) {k : Nat} {p : List Value} (hk : ps[k]? = some p) : w.rangeAt b (offP ps k) p := fun j v hv => by
  rw [h.cell]
  have hj : j < p.length := (List.getElem?_eq_some_iff.1 hv).1
  unfold flatP offP
  rw [List.getElem?_toArray, flatP_split hk, List.getElem?_append_right (by omega), Nat.add_sub_cancel_left, List.getElem?_append_left hj]
  exact hv

theorem Blk.part1 {w : World} {b : Nat} {ps : List (List Value)} (h : Blk w b (flatP ps)) {k : Nat} {v : Value} (hk : ps[k]? = some [v]) : w.cell? ⟨b, offP ps k, none⟩ = some v := by
  have := h.part hk 0 v rfl
  exact this

theorem Blk.partThere {w : World} {b : Nat} {ps : List (List Value)} (h : Blk w b (flatP ps)) {k : Nat} {p : List Value} (hk : ps[k]? = some p) : w.there b (offP ps k) p.length := fun j hj => by
  refine ⟨?_, h.free _⟩
  rw [h.part hk j p[j] (List.getElem?_eq_getElem hj)]; rfl

/-- A part is written. -/
theorem Blk.setPart {w : World} {b : Nat} {ps : List (List Value)} (h : Blk w b (flatP ps)) {k : Nat} {p q : List Value} (hk : ps[k]? = some p) (hq : q.length = p.length) :
    Upd b w (w.setCells b (offP ps k) q) ∧ Blk (w.setCells b (offP ps k) q) b (flatP (ps.set k q)) := by
  have e0 := flatP_split hk
  have e1 := flatP_set hk q
  have hth : w.there b (offP ps k) q.length := by rw [hq]; exact h.partThere hk
  have hA : (ps.take k).flatten.length = offP ps k := rfl
  unfold flatP at h ⊢
  rw [e0] at h
  rw [e1]
  clear hk e0 e1
  generalize (ps.take k).flatten = A at *
  generalize (ps.drop (k + 1)).flatten = D at *
  generalize offP ps k = o at *
  obtain ⟨c, h2, h3, h4⟩ := setCells_blk (w := w) (b := b) q o _ h
  refine ⟨h4, ?_⟩
  have hr := World.rangeAt_setCells_same w b o q hth
  have : c = (A ++ (q ++ D)).toArray := by
    apply Array.ext_getElem?
    intro i
    rw [← h2.cell, List.getElem?_toArray]
    by_cases hi0 : i < o
    · rw [World.cell?_setCells_out b q o w ⟨b, i, none⟩ (fun _ _ => .inl hi0), h.cell, List.getElem?_toArray, List.getElem?_append_left (by omega), List.getElem?_append_left (by omega)]
    · rw [List.getElem?_append_right (by omega), hA]
      by_cases hi : i < o + q.length
      · have hlt : i - o < q.length := by omega
        have := hr (i - o) q[i - o] (List.getElem?_eq_getElem hlt)
        rw [show o + (i - o) = i by omega] at this
        rw [this, List.getElem?_append_left hlt, List.getElem?_eq_getElem hlt]
      · rw [World.cell?_setCells_out b q o w ⟨b, i, none⟩ (fun _ _ => .inr (by show o + q.length ≤ i; omega)), h.cell, List.getElem?_toArray, List.getElem?_append_right (by omega), hA,
          List.getElem?_append_right (by omega), List.getElem?_append_right (by omega), hq]
  exact this ▸ h2

/-- The store of a part that is an array or a struct. -/
theorem wpList_store_part {P : Program} {ops : Array Oper} {rest : List Oper} {op : Oper} {a : Act} {w : World} {Q : Exit → Act → World → Prop} (hgd : op.guard = none) (ty : TypeId) (x y : Operand) (ho : op.op = .store ty x y)
    (b : Nat) (ps : List (List Value)) (k : Nat) (p q : List Value) (hB : Blk w b (flatP ps)) (hk : ps[k]? = some p) (hx : a.eval x = .pointer (some ⟨b, offP ps k, none⟩)) (hy : a.eval y = .agg q.toArray)
    (hq : q.length = p.length) (hi : (P.info? ty).map (·.size) = some q.length) (h1 : ∀ v ∈ q, v.oneCell' = true)
    (h : ∀ w', Upd b w w' → Blk w' b (flatP (ps.set k q)) → wpList P ops Q rest (a.put op.dst undef) w') : wpList P ops Q (op :: rest) a w := by
  have hth : w.there b (offP ps k) q.toArray.size := by rw [List.size_toArray, hq]; exact hB.partThere hk
  refine wpList_store_mid hgd ty x y ho b (offP ps k) q.toArray hx hy hth (by simpa using hi) (all_oneCell_toArray h1) ?_
  obtain ⟨u, v⟩ := hB.setPart hk hq
  exact h _ u v

/-- The store of a part of one cell. -/
theorem wpList_store_part1 {P : Program} {ops : Array Oper} {rest : List Oper} {op : Oper} {a : Act} {w : World} {Q : Exit → Act → World → Prop} (hgd : op.guard = none) (ty : TypeId) (x y : Operand) (ho : op.op = .store ty x y)
    (b : Nat) (ps : List (List Value)) (k : Nat) (v u : Value) (hB : Blk w b (flatP ps)) (hk : ps[k]? = some [v]) (hx : a.eval x = .pointer (some ⟨b, offP ps k, none⟩)) (hy : a.eval y = u)
    (hi : (P.info? ty).map (·.size) = some 1) (hu : u.cells = #[u]) (h1 : u.oneCell' = true)
    (h : ∀ w', Upd b w w' → Blk w' b (flatP (ps.set k [u])) → wpList P ops Q rest (a.put op.dst undef) w') : wpList P ops Q (op :: rest) a w := by
  have hth := hB.partThere hk
  obtain ⟨g1, g2⟩ := hB.setPart (q := [u]) hk rfl
  have hr := run_storeCells_cells (P := P) b (offP ps k) [u] 0 w (fun j hj => by simpa using (hth j (by simpa using hj)).1) (fun j hj => by simpa using (hth j (by simpa using hj)).2) (fun z hz => by rw [List.mem_singleton.1 hz]; exact h1)
  refine wpList_plain hgd fun _ hK => ?_
  unfold Oper.wp execOp
  cases hq : P.info? ty with
  | none => simp [hq] at hi
  | some i =>
    have hs : i.size = 1 := by simpa [hq] using hi
    simp only [Nat.add_zero] at hr
    have hsv : (storeVar ty ⟨b, offP ps k, none⟩ u).run P w = .ok () (w.setCells b (offP ps k) [u]) := by
      simp [storeVar, sizeOf, typeInfo, hq, hu, hs, hr]
    simp only [ho, hx, hy, Instr.storeAt, Instr.sureAddr, Sem.run_bind, Sem.run_pure, Result.andThen_ok, hsv]
    exact hK _ _ (h _ g1 g2)

theorem flatP_size (ps : List (List Value)) : (flatP ps).size = ps.flatten.length := by simp [flatP]
theorem flatP_one {ps : List (List Value)} (h : ∀ p ∈ ps, ∀ v ∈ p, v.oneCell' = true) : ∀ v ∈ flatP ps, v.oneCell' = true := by
  intro v hv
  simp only [flatP, List.mem_toArray, List.mem_flatten] at hv
  obtain ⟨p, hp, hv⟩ := hv
  exact h p hp v hv

/-- The load of a part that is an array or a struct. -/
theorem wpList_load_part {P : Program} {ops : Array Oper} {rest : List Oper} {op : Oper} {a : Act} {w : World} {Q : Exit → Act → World → Prop} (ty : TypeId) (x : Operand) (ho : op.op = .load ty x)
    (b : Nat) (ps : List (List Value)) (k o : Nat) (p : List Value) (hB : Blk w b (flatP ps)) (hk : ps[k]? = some p) (hoff : offP ps k = o) (hx : a.eval x = .pointer (some ⟨b, o, none⟩)) (d : TypeDesc)
    (hu : P.underlying ty = some d) (hd : d.isRow = true) (hi : (P.info? ty).map (·.size) = some p.length) (hw : Region.wanted op (yielded ops a.tmps) = true)
    (h : wpList P ops Q rest (a.put op.dst (.agg p.toArray)) w) : wpList P ops Q (op :: rest) a w :=
  BigFrame.wpList_want hw fun _ hK => wp_load_mid ty x ho b o hx p d (hoff ▸ hB.part hk) hu hd hi (hK _ _ h)

theorem run_loadVar_1 {P : Program} (w : World) (ad : Addr) (ty : TypeId) (v : Value) (d : TypeDesc) (hc : w.cell? ad = some v) (hu : P.underlying ty = some d) (hd : d.isRow = false) : (loadVar ty ad).run P w = .ok v w := by
  have hagg : (isAgg ty).run P w = .ok false w := by
    unfold isAgg
    rw [Sem.run_bind, run_underlying hu w]
    cases d <;> simp_all
  simp [loadVar, Sem.run_bind, hagg, hc]

/-- The load of one cell, whatever it holds. -/
theorem wpList_load_1 {P : Program} {ops : Array Oper} {rest : List Oper} {op : Oper} {a : Act} {w : World} {Q : Exit → Act → World → Prop} (ty : TypeId) (x : Operand) (ho : op.op = .load ty x)
    (b o : Nat) (v : Value) (hc : w.cell? ⟨b, o, none⟩ = some v) (hx : a.eval x = .pointer (some ⟨b, o, none⟩)) (d : TypeDesc)
    (hu : P.underlying ty = some d) (hd : d.isRow = false) (hw : Region.wanted op (yielded ops a.tmps) = true)
    (h : wpList P ops Q rest (a.put op.dst v) w) : wpList P ops Q (op :: rest) a w :=
  BigFrame.wpList_want hw fun _ hK => by
    unfold Oper.wp execOp
    simp only [ho, hx, Instr.loadAt, Instr.sureAddr, Sem.run_bind, Sem.run_pure, Result.andThen_ok, run_loadVar_1 w ⟨b, o, none⟩ ty v d hc hu hd]
    exact hK _ _ h

theorem Blk.cellAt {w : World} {b : Nat} {ps : List (List Value)} (h : Blk w b (flatP ps)) {k o : Nat} {v : Value} (hk : ps[k]? = some [v]) (ho : offP ps k = o) : w.cell? ⟨b, o, none⟩ = some v := ho ▸ h.part1 hk
end

/-! RcD -/
section
set_option linter.unusedVariables false
open Go.RowKit

/-- A checkpoint. -/
structure CpD where
  n : Int
  r : List Int
def CpD.ok (c : CpD) : Prop := 0 ≤ c.n ∧ c.n ≤ 18446744073709551615 ∧ IsBytes 32 c.r
def bytesL (xs : List Int) : List Value := xs.map (Value.int .u8)
def CpD.cells (c : CpD) : List Value := Value.int .u64 c.n :: bytesL c.r
theorem CpD.cpV (c : CpD) : cpV c.n c.r = c.cells.toArray := rfl
theorem bytesL_V (xs : List Int) : bytesV xs = (bytesL xs).toArray := rfl
theorem bytesL_len {n : Nat} {xs : List Int} (h : IsBytes n xs) : (bytesL xs).length = n := by simp [bytesL, h.1]
theorem CpD.len {c : CpD} (h : c.ok) : c.cells.length = 33 := by simp [CpD.cells, bytesL_len h.2.2]
theorem bytesL_one (xs : List Int) : ∀ v ∈ bytesL xs, v.oneCell' = true := by
  intro v hv
  obtain ⟨x, _, rfl⟩ := List.mem_map.1 hv
  rfl
theorem CpD.one (c : CpD) : ∀ v ∈ c.cells, v.oneCell' = true := by
  intro v hv
  rcases List.mem_cons.1 hv with rfl | hv
  · rfl
  · exact bytesL_one _ v hv

def wideL (n : Int) : List Value := [.int .u64 (l0 n), .int .u64 (l1 n), .int .u64 (l2 n), .int .u64 (l3 n)]
theorem wideL_one (n : Int) : ∀ v ∈ wideL n, v.oneCell' = true := by
  intro v hv
  simp only [wideL, List.mem_cons, List.not_mem_nil, or_false] at hv
  rcases hv with rfl | rfl | rfl | rfl <;> rfl

/-- A block. -/
structure BkD where
  pj : CpD
  pf : CpD
  slot : Int
  root : List Int
  parent : List Int
  payload : List Int
  d : Int
  pd : Int
  j : CpD
  f : CpD
  t : Bool
def BkD.ok (x : BkD) : Prop := x.pj.ok ∧ x.pf.ok ∧ (0 ≤ x.slot ∧ x.slot ≤ 18446744073709551615) ∧ IsBytes 32 x.root ∧ IsBytes 32 x.parent ∧ IsBytes 32 x.payload ∧ W256 x.d ∧ W256 x.pd ∧ x.j.ok ∧ x.f.ok
def BkD.parts (x : BkD) : List (List Value) :=
  [x.pj.cells, x.pf.cells, [.int .u64 x.slot], bytesL x.root, bytesL x.parent, bytesL x.payload, wideL x.d, wideL x.pd, x.j.cells, x.f.cells, [.bool x.t]]

/-- An attestation; its list is the slice v. -/
structure AtD where
  slot : Int
  root : List Int
  target : CpD
  v : Value
def AtD.ok (x : AtD) : Prop := (0 ≤ x.slot ∧ x.slot ≤ 18446744073709551615) ∧ IsBytes 32 x.root ∧ x.target.ok
def AtD.parts (x : AtD) : List (List Value) := [[.int .u64 x.slot], bytesL x.root, x.target.cells, [x.v]]

/-- A claim. -/
structure ClD where
  source : Int
  target : Int
  root : List Int
  v : Value
def ClD.ok (x : ClD) : Prop := (0 ≤ x.source ∧ x.source ≤ 18446744073709551615) ∧ (0 ≤ x.target ∧ x.target ≤ 18446744073709551615) ∧ IsBytes 32 x.root
def ClD.parts (x : ClD) : List (List Value) := [[.int .u64 x.source], [.int .u64 x.target], bytesL x.root, [x.v]]
def ClD.cells (x : ClD) : List Value := x.parts.flatten
theorem ClD.len {x : ClD} (h : x.ok) : x.cells.length = 35 := by simp [ClD.cells, ClD.parts, bytesL_len h.2.2]

/-- A table. -/
structure TbD where
  cp : CpD
  v : Value
def TbD.parts (x : TbD) : List (List Value) := [x.cp.cells, [x.v]]

/-- A verdict. -/
structure VdD where
  tag : Int
  kind : Int
  latest : List Int
def VdD.ok (x : VdD) : Prop := (0 ≤ x.tag ∧ x.tag ≤ 18446744073709551615) ∧ (-9223372036854775808 ≤ x.kind ∧ x.kind ≤ 9223372036854775807) ∧ IsBytes 32 x.latest
def VdD.parts (x : VdD) : List (List Value) := [[.int .u64 x.tag], [.int .i64 x.kind], bytesL x.latest]

/-- A slice of ints. -/
def IntsV (w : World) (v : Value) (l : List Int) : Prop := Ints .i64 w v l ∧ ∀ x ∈ l, -9223372036854775808 ≤ x ∧ x ≤ 9223372036854775807
/-- A slice of balances. -/
def NumsV (w : World) (v : Value) (l : List Int) : Prop := Ints .u64 w v l ∧ ∀ x ∈ l, 0 ≤ x ∧ x ≤ 18446744073709551615
theorem IntsV.below {w w' : World} {v : Value} {l : List Int} (h : IntsV w v l) (hb : Below w.heap.size w w') : IntsV w' v l := ⟨h.1.below hb, h.2⟩
theorem NumsV.below {w w' : World} {v : Value} {l : List Int} (h : NumsV w v l) (hb : Below w.heap.size w w') : NumsV w' v l := ⟨h.1.below hb, h.2⟩
theorem getD_mem {l : List Int} {k : Nat} (hk : k < l.length) : l.getD k 0 ∈ l := by
  have e : l.getD k 0 = l[k] := by simp [List.getD, List.getElem?_eq_getElem hk]
  rw [e]; exact List.getElem_mem hk

/-! ### The encodings -/
def CpD.enc (c : CpD) : List Int := uenc c.n.toNat ++ c.r
def BkD.enc (x : BkD) : List Int :=
  uenc x.slot.toNat ++ (x.root ++ (x.parent ++ (x.payload ++ (bytesN x.d ++ (bytesN x.pd ++ (x.j.enc ++ (x.f.enc ++ (x.pj.enc ++ (x.pf.enc ++ [if x.t then 1 else 0])))))))))
def AtD.enc (x : AtD) (l : List Int) : List Int := uenc x.slot.toNat ++ (x.root ++ (x.target.enc ++ lenc l))
def ClD.enc (x : ClD) (l : List Int) : List Int := uenc x.source.toNat ++ (uenc x.target.toNat ++ (x.root ++ lenc l))
def TbD.enc (x : TbD) (l : List Int) : List Int := x.cp.enc ++ tenc l
def VdD.enc (x : VdD) : List Int := uenc x.tag.toNat ++ (uenc x.kind.toNat ++ x.latest)

theorem CpD.encl {c : CpD} (h : c.ok) : c.enc.length ≤ 42 := by
  have h1 := uenc_len10 (n := c.n.toNat) (by have := h.2.1; omega)
  have h2 := h.2.2.1
  simp only [CpD.enc, List.length_append]; omega

/-! ### What is read -/
noncomputable def numOf (xs : List Int) : Int := open Classical in if h : IsBytes 32 xs then Classical.choose (bytes_of_num h) else 0
theorem numOf_ok {xs : List Int} (h : IsBytes 32 xs) : W256 (numOf xs) ∧ bytesN (numOf xs) = xs := by
  unfold numOf
  rw [dif_pos h]
  exact Classical.choose_spec (bytes_of_num h)

def vCD (s : RS) : CpD := if cpE s.r s.e = 0 then ⟨cpN s.r s.e, wV (cpR1 s.r s.e) (cpE1 s.r s.e)⟩ else ⟨0, zeroR⟩
theorem vCD_eq (s : RS) : vC s = (vCD s).cells.toArray := by
  unfold vC cpX vCD
  split <;> rfl
theorem vCD_ok {s : RS} (h : byteL s.r) : (vCD s).ok := by
  unfold vCD
  split
  · have h1 := ruV_rng' (e := s.e) h (show (0 : Int) ≤ 18446744073709551615 by omega)
    exact ⟨h1.1, h1.2, wV_is (ruR_rng h)⟩
  · exact ⟨by show (0 : Int) ≤ 0; omega, by show (0 : Int) ≤ _; omega, zeroR_is⟩

theorem nW_byte {s : RS} (h : byteL s.r) : byteL (nW s).r := by
  unfold nW tkR
  split
  · exact h
  · split
    · exact h
    · exact fun x hx => h x (List.mem_of_mem_drop hx)
theorem nC_byte {s : RS} (h : byteL s.r) : byteL (nC s).r := by
  unfold nC cpR
  split
  · exact nW_byte (s := ⟨cpR1 s.r s.e, cpE1 s.r s.e⟩) (ruR_rng h)
  · exact h
theorem nB_byte {s : RS} (h : byteL s.r) : byteL (nB s).r := by
  unfold nB bR
  split
  · exact fun x hx => h x (List.mem_of_mem_drop hx)
  · exact h
theorem vW_is {s : RS} (h : byteL s.r) : IsBytes 32 (vW s) := wV_is h
theorem lsN_byte {s : RS} (h : byteL s.r) : byteL (lsN s).r := stK_byte (nU_byte h) _
/-- A block's parts are read one after another. -/
def bk1 (s : RS) : RS := nU mxU s
def bk2 (s : RS) : RS := nW (bk1 s)
def bk3 (s : RS) : RS := nW (bk2 s)
def bk4 (s : RS) : RS := nW (bk3 s)
def bk5 (s : RS) : RS := nW (bk4 s)
def bk6 (s : RS) : RS := nW (bk5 s)
def bk7 (s : RS) : RS := nC (bk6 s)
def bk8 (s : RS) : RS := nC (bk7 s)
def bk9 (s : RS) : RS := nC (bk8 s)
def bk10 (s : RS) : RS := nC (bk9 s)
def bk11 (s : RS) : RS := nB (bk10 s)
noncomputable def bkV (s : RS) : BkD :=
  { slot := vU mxU s, root := vW (bk1 s), parent := vW (bk2 s), payload := vW (bk3 s), d := numOf (vW (bk4 s)), pd := numOf (vW (bk5 s)),
    j := vCD (bk6 s), f := vCD (bk7 s), pj := vCD (bk8 s), pf := vCD (bk9 s), t := vB (bk10 s) }
end

/-! RcV -/
section
set_option linter.unusedVariables false
open Go.RowKit

theorem okAt_bad1 {l : List Int} {n : Int} {i : Nat} (h : l.getD i 0 < 0 ∨ n ≤ l.getD i 0) : okAt l n i = 3 := by unfold okAt; rw [if_pos h]
theorem okAt_bad2 {l : List Int} {n : Int} {i : Nat} (h : ¬ (l.getD i 0 < 0 ∨ n ≤ l.getD i 0)) (h2 : 0 < i ∧ l.getD i 0 ≤ l.getD (i - 1) 0) : okAt l n i = 8 := by unfold okAt; rw [if_neg h, if_pos h2]
theorem vl_here {l : List Int} {n : Int} {k : Nat} {e : Int} (hk : k < l.length) (h0 : vlGo l n (l.length - k) k = vlE l n) (he : okAt l n k = e) (hne : e ≠ 0) : vlE l n = e := by
  rw [← h0, vlGo_next hk, he, if_pos hne]
theorem vl_on {l : List Int} {n : Int} {k : Nat} (hk : k < l.length) (h0 : vlGo l n (l.length - k) k = vlE l n) (he : okAt l n k = 0) : vlGo l n (l.length - (k + 1)) (k + 1) = vlE l n := by
  rw [← h0, vlGo_next hk, he, if_neg (by simp)]

set_option maxRecDepth 100000 in
set_option maxHeartbeats 4000000 in
theorem vlist_any (v : Value) (l : List Int) (n : Int) (w : World) (h : IntsV w v l) (hn0 : -9223372036854775808 ≤ n) (hn : n ≤ 9223372036854775807) :
    Calls Try.prog 94 #[v, .int .i64 n] w fun e w' => e = .returned (.int .i64 (vlE l n)) ∧ w = w' := by
  obtain ⟨⟨a, len, cap, rfl, hl, hm, hr⟩, hrng⟩ := h
  have H := Lib.hid (fun k (hk : k < l.length) => hrng _ (getD_mem hk)); clear hrng
  unfold maxLen at hm
  have HE0 : Hid (len = 0 → vlE l n = 2) := fun h0 => by unfold vlE; rw [if_pos (by omega)]
  have HS : Hid (0 < len → vlGo l n (l.length - 0) 0 = vlE l n) := fun h0 => by unfold vlE; rw [if_neg (by omega)]; rfl
  have HL := Lib.hid hl; clear hl
  by_cases h0 : len = 0
  · have E := HE0.out h0
    subst h0
    rw [E]
    clear E
    go_enter Try.func94, Try.ntmps94
    go_wp2_with fail
    go_ret
    exact ⟨rfl, rfl⟩
  rcases hr with hr | ⟨b, off, rfl, hb, hc⟩
  · omega
  have HS1 := Lib.hid (HS.out (by omega)); clear HS HE0
  have hp : 0 < len := by omega
  obtain ⟨E, HE⟩ : ∃ E, Hid (vlE l n = E) := ⟨_, rfl⟩
  rw [HE.out]
  go_enter Try.func94, Try.ntmps94
  go_wp2_with fail
  go_loop [12] (fun i => ∃ k : Nat, k ≤ len ∧ i = .int .i64 k ∧ vlGo l n (l.length - k) k = vlE l n) (fun i => len - (intOf i).toNat)
  case atStart => exact ⟨0, Nat.zero_le _, rfl, HS1.out⟩
  case round =>
    obtain ⟨k, hk, rfl, hv⟩ := hrel
    have HV := Lib.hid hv; clear hv
    by_cases hlt : k < len
    · have hcell := hc k hlt
      have hx := H.out k (by rw [HL.out]; exact hlt)
      have HK1 : Hid (0 < k → w.cell? ⟨b, off + (k - 1), none⟩ = some (.int .i64 (l.getD (k - 1) 0))) := fun _ => hc (k - 1) (by omega)
      clear hc
      have HKL : Hid (k < l.length) := by show _ < _; rw [HL.out]; exact hlt
      by_cases hbad : l.getD k 0 < 0 ∨ n ≤ l.getD k 0
      · have HR := Lib.hid (vl_here HKL.out HV.out (okAt_bad1 hbad) (by omega))
        obtain ⟨x, HX⟩ : ∃ x, Hid (x = l.getD k 0) := ⟨_, rfl⟩
        rw [← HX.out] at hcell hx hbad
        by_cases hneg : x < 0
        · clear hbad
          go_wp2_with fail
          go_ret
          exact ⟨by rw [← HE.out, HR.out]; rfl, rfl⟩
        · have h1 : n ≤ x := by omega
          clear hbad
          go_wp2_with fail
          go_ret
          exact ⟨by rw [← HE.out, HR.out]; rfl, rfl⟩
      · by_cases hk0 : 0 < k
        · have hcell1 := HK1.out hk0
          by_cases hord : l.getD k 0 ≤ l.getD (k - 1) 0
          · have HR := Lib.hid (vl_here HKL.out HV.out (okAt_bad2 hbad ⟨hk0, hord⟩) (by omega))
            obtain ⟨x, HX⟩ : ∃ x, Hid (x = l.getD k 0) := ⟨_, rfl⟩
            obtain ⟨y, HY⟩ : ∃ y, Hid (y = l.getD (k - 1) 0) := ⟨_, rfl⟩
            rw [← HX.out] at hcell hx hbad hord
            rw [← HY.out] at hcell1 hord
            have h1 : ¬ x < 0 := by omega
            have h2 : x < n := by omega
            clear hbad
            have e1 : (k : Int) - 1 = ((k - 1 : Nat) : Int) := by omega
            go_wp2_with fail
            go_ret
            exact ⟨by rw [← HE.out, HR.out]; rfl, rfl⟩
          · have HR := Lib.hid (vl_on HKL.out HV.out (okAt_of (by omega) (by omega) (fun _ => by omega)))
            obtain ⟨x, HX⟩ : ∃ x, Hid (x = l.getD k 0) := ⟨_, rfl⟩
            obtain ⟨y, HY⟩ : ∃ y, Hid (y = l.getD (k - 1) 0) := ⟨_, rfl⟩
            rw [← HX.out] at hcell hx hbad hord
            rw [← HY.out] at hcell1 hord
            have h1 : ¬ x < 0 := by omega
            have h2 : x < n := by omega
            have h3 : y < x := by omega
            clear hbad hord
            have e1 : (k : Int) - 1 = ((k - 1 : Nat) : Int) := by omega
            go_wp2_with fail
            go_round
            case rel => exact ⟨k + 1, by omega, by go_num, HR.out⟩
            case measure => simp [intOf]; omega
        · obtain rfl : k = 0 := by omega
          have HR := Lib.hid (vl_on HKL.out HV.out (okAt_of (by omega) (by omega) (fun h => by omega)))
          obtain ⟨x, HX⟩ : ∃ x, Hid (x = l.getD 0 0) := ⟨_, rfl⟩
          rw [← HX.out, Nat.add_zero] at hcell
          rw [← HX.out] at hx hbad
          have h1 : ¬ x < 0 := by omega
          have h2 : x < n := by omega
          clear hbad
          go_wp2_with fail
          go_round
          case rel => exact ⟨1, by omega, by go_num, HR.out⟩
          case measure => simp [intOf]; omega
    · obtain rfl : k = len := by omega
      have HR : Hid (E = 0) := by
        show _ = _
        rw [← HE.out, ← HV.out, HL.out, Nat.sub_self]; rfl
      go_wp2_with fail
      go_ret
      exact ⟨by rw [HR.out]; rfl, rfl⟩

set_option maxRecDepth 100000 in
set_option maxHeartbeats 4000000 in
theorem rvlist_any (v : Value) (l : List Int) (n : Int) (w : World) (h : IntsV w v l) (hn0 : -9223372036854775808 ≤ n) (hn : n ≤ 9223372036854775807) :
    Calls Try.prog 51 #[v, .int .i64 n] w fun e w' => e = .returned (.int .i64 (vlE l n)) ∧ Below w.heap.size w w' := by
  obtain ⟨⟨a, len, cap, rfl, hl, hm, hr⟩, hrng⟩ := h
  have H := Lib.hid (fun k (hk : k < l.length) => hrng _ (getD_mem hk)); clear hrng
  unfold maxLen at hm
  have HE0 : Hid (len = 0 → vlE l n = 2) := fun h0 => by unfold vlE; rw [if_pos (by omega)]
  have HS : Hid (0 < len → vlGo l n (l.length - 0) 0 = vlE l n) := fun h0 => by unfold vlE; rw [if_neg (by omega)]; rfl
  have HL := Lib.hid hl; clear hl
  by_cases h0 : len = 0
  · have E := HE0.out h0
    subst h0
    rw [E]
    clear E
    go_enter Try.func51, Try.ntmps51
    go_wp2_with fail
    go_ret
    exact ⟨rfl, Below.refl _ _⟩
  rcases hr with hr | ⟨b, off, rfl, hb, hc⟩
  · omega
  have HS1 := Lib.hid (HS.out (by omega)); clear HS HE0
  have hp : 0 < len := by omega
  obtain ⟨E, HE⟩ : ∃ E, Hid (vlE l n = E) := ⟨_, rfl⟩
  rw [HE.out]
  have HC := Lib.hid hc; clear hc
  have hkb : ((len : Int) == 0) = false := by simp; omega
  go_enter Try.func51, Try.ntmps51
  go_wp2_with fail
  go_loopw [5] (fun i wr => ∃ k : Nat, k ≤ len ∧ i = .int .i64 k ∧ vlGo l n (l.length - k) k = vlE l n ∧ Below w.heap.size w wr) (fun i _ => len - (intOf i).toNat)
  case atStart => exact ⟨0, Nat.zero_le _, rfl, HS1.out, Below.refl _ _⟩
  case round =>
    obtain ⟨k, hk, rfl, hv, hbl⟩ := hrel
    have HV := Lib.hid hv; clear hv
    by_cases hlt : k < len
    · have hcell : wr.cell? ⟨b, off + k, none⟩ = some (.int .i64 (l.getD k 0)) := (hbl.cell (p := ⟨b, off + k, none⟩) hb).trans (HC.out k hlt)
      have hx := H.out k (by rw [HL.out]; exact hlt)
      have HK1 : Hid (0 < k → wr.cell? ⟨b, off + (k - 1), none⟩ = some (.int .i64 (l.getD (k - 1) 0))) := fun _ => (hbl.cell (p := ⟨b, off + (k - 1), none⟩) hb).trans (HC.out (k - 1) (by omega))
      have HKL : Hid (k < l.length) := by show _ < _; rw [HL.out]; exact hlt
      have HBL := Lib.hid hbl; clear hbl
      by_cases hbad : l.getD k 0 < 0 ∨ n ≤ l.getD k 0
      · have HR := Lib.hid (vl_here HKL.out HV.out (okAt_bad1 hbad) (by omega))
        obtain ⟨x, HX⟩ : ∃ x, Hid (x = l.getD k 0) := ⟨_, rfl⟩
        rw [← HX.out] at hcell hx hbad
        by_cases hneg : x < 0
        · clear hbad
          go_wp2_with fail
          go_ret
          exact ⟨by rw [← HE.out, HR.out]; rfl, HBL.out⟩
        · have h1 : n ≤ x := by omega
          clear hbad
          go_wp2_with fail
          go_ret
          exact ⟨by rw [← HE.out, HR.out]; rfl, HBL.out⟩
      · by_cases hk0 : 0 < k
        · have hcell1 := HK1.out hk0
          have hk1 : (0 : Int) < (k : Int) := by omega
          have hk2 : (0 : Int) ≤ ((k - 1 : Nat) : Int) := by omega
          by_cases hord : l.getD k 0 ≤ l.getD (k - 1) 0
          · have HR := Lib.hid (vl_here HKL.out HV.out (okAt_bad2 hbad ⟨hk0, hord⟩) (by omega))
            obtain ⟨x, HX⟩ : ∃ x, Hid (x = l.getD k 0) := ⟨_, rfl⟩
            obtain ⟨y, HY⟩ : ∃ y, Hid (y = l.getD (k - 1) 0) := ⟨_, rfl⟩
            rw [← HX.out] at hcell hx hbad hord
            rw [← HY.out] at hcell1 hord
            have h1 : ¬ x < 0 := by omega
            have h2 : x < n := by omega
            clear hbad
            have e1 : IntKind.i64.wrap ((k : Int) - 1) = ((k - 1 : Nat) : Int) := by rw [show (k : Int) - 1 = ((k - 1 : Nat) : Int) by omega]; exact IntWalk.i64_in _ (by omega)
            go_wp2_with fail
            go_quiet (fail)
            go_wp2_with fail
            go_ret
            exact ⟨by rw [← HE.out, HR.out]; rfl, Below.drewN HBL.out⟩
          · have HR := Lib.hid (vl_on HKL.out HV.out (okAt_of (by omega) (by omega) (fun _ => by omega)))
            obtain ⟨x, HX⟩ : ∃ x, Hid (x = l.getD k 0) := ⟨_, rfl⟩
            obtain ⟨y, HY⟩ : ∃ y, Hid (y = l.getD (k - 1) 0) := ⟨_, rfl⟩
            rw [← HX.out] at hcell hx hbad hord
            rw [← HY.out] at hcell1 hord
            have h1 : ¬ x < 0 := by omega
            have h2 : x < n := by omega
            have h3 : y < x := by omega
            clear hbad hord
            have e1 : IntKind.i64.wrap ((k : Int) - 1) = ((k - 1 : Nat) : Int) := by rw [show (k : Int) - 1 = ((k - 1 : Nat) : Int) by omega]; exact IntWalk.i64_in _ (by omega)
            go_wp2_with fail
            go_quiet (fail)
            clear e1
            go_wp2_with fail
            go_roundw
            case rel => exact ⟨k + 1, by omega, by go_num, HR.out, Below.drewN HBL.out⟩
            case measure => simp [intOf]; omega
        · obtain rfl : k = 0 := by omega
          have HR := Lib.hid (vl_on HKL.out HV.out (okAt_of (by omega) (by omega) (fun h => by omega)))
          obtain ⟨x, HX⟩ : ∃ x, Hid (x = l.getD 0 0) := ⟨_, rfl⟩
          rw [← HX.out, Nat.add_zero] at hcell
          rw [← HX.out] at hx hbad
          have h1 : ¬ x < 0 := by omega
          have h2 : x < n := by omega
          clear hbad
          go_wp2_with fail
          go_quiet (fail)
          go_wp2_with fail
          go_roundw
          case rel => exact ⟨1, by omega, by go_num, HR.out, Below.drewN HBL.out⟩
          case measure => simp [intOf]; omega
    · obtain rfl : k = len := by omega
      have HR : Hid (E = 0) := by
        show _ = _
        rw [← HE.out, ← HV.out, HL.out, Nat.sub_self]; rfl
      go_wp2_with fail
      go_ret
      exact ⟨by rw [HR.out]; rfl, hbl⟩

/-- The first error of these lists. -/
def vlsE : List (List Int) → Int
  | [] => 0
  | l :: r => if vlE l 1024 ≠ 0 then vlE l 1024 else vlsE r

theorem vls_drop {ls : List (List Int)} {k : Nat} (hk : k < ls.length) : vlsE (ls.drop k) = if vlE (ls.getD k []) 1024 ≠ 0 then vlE (ls.getD k []) 1024 else vlsE (ls.drop (k + 1)) := by
  rw [List.drop_eq_getElem_cons hk, vlsE]
  simp [List.getD, List.getElem?_eq_getElem hk]
theorem vlsE_one (l : List Int) : vlsE [l] = vlE l 1024 := by
  simp only [vlsE]; split <;> omega
theorem vlsE_two (l m : List Int) : vlsE [l, m] = if vlE l 1024 ≠ 0 then vlE l 1024 else vlE m 1024 := by
  rw [vlsE, vlsE_one]

/-- The lists that are handed to validateLists. -/
def Lists (w : World) (g m : Nat) (vs : Array Value) (ls : List (List Int)) : Prop := Blk w g vs ∧ vs.size = m ∧ ls.length = m ∧ ∀ k, k < m → IntsV w (vs.getD k undef) (ls.getD k [])

theorem Lists.cell {w : World} {g m : Nat} {vs : Array Value} {ls : List (List Int)} (h : Lists w g m vs ls) {k : Nat} (hk : k < m) : w.cell? ⟨g, k, none⟩ = some (vs.getD k undef) := by
  rw [h.1.cell]
  simp [Array.getD, h.2.1, hk]

theorem lists1 {w : World} {y1 : Value} {l1 : List Int} {t : TypeId} {n : Nat} (hn : n = w.heap.size) (h1 : IntsV w y1 l1) : Lists (w.alloc (.cells #[y1] t)) n 1 #[y1] [l1] := by
  subst hn
  have hb : Below w.heap.size w (w.alloc (.cells #[y1] t)) := (Below.refl _ w).alloc (Nat.le_refl _) _
  refine ⟨Blk.new rfl, rfl, rfl, fun k hk => ?_⟩
  match k, hk with
  | 0, _ => exact h1.below hb
theorem lists2 {w : World} {y1 y2 : Value} {l1 l2 : List Int} {t : TypeId} {n : Nat} (hn : n = w.heap.size) (h1 : IntsV w y1 l1) (h2 : IntsV w y2 l2) : Lists (w.alloc (.cells #[y1, y2] t)) n 2 #[y1, y2] [l1, l2] := by
  subst hn
  have hb : Below w.heap.size w (w.alloc (.cells #[y1, y2] t)) := (Below.refl _ w).alloc (Nat.le_refl _) _
  refine ⟨Blk.new rfl, rfl, rfl, fun k hk => ?_⟩
  match k, hk with
  | 0, _ => exact h1.below hb
  | 1, _ => exact h2.below hb

set_option maxRecDepth 100000 in
set_option maxHeartbeats 4000000 in
theorem vlists_any (g m : Nat) (vs : Array Value) (ls : List (List Int)) (w : World) (h : Lists w g m vs ls) (hm : m ≤ 1000) :
    Calls Try.prog 69 #[.slice (some ⟨g, 0, none⟩) m m] w fun e w' => e = .returned (.int .i64 (vlsE ls)) ∧ w = w' := by
  have HD : Hid (∀ k, k < m → vlsE (ls.drop k) = if vlE (ls.getD k []) 1024 ≠ 0 then vlE (ls.getD k []) 1024 else vlsE (ls.drop (k + 1))) := fun k hk => vls_drop (by rw [h.2.2.1]; exact hk)
  have HZ : Hid (vlsE (ls.drop m) = 0) := by show _ = _; rw [List.drop_eq_nil_of_le (by rw [h.2.2.1]; exact Nat.le_refl _)]; rfl
  have HP := Lib.hid h; clear h
  obtain ⟨E, HE⟩ : ∃ E, Hid (vlsE ls = E) := ⟨_, rfl⟩
  rw [HE.out]
  go_enter Try.func69, Try.ntmps69
  go_wp2_with fail
  go_loop [8] (fun i => ∃ k : Nat, k ≤ m ∧ i = .int .i64 k ∧ vlsE (ls.drop k) = vlsE ls) (fun i => m - (intOf i).toNat)
  case atStart => exact ⟨0, Nat.zero_le _, rfl, rfl⟩
  case round =>
    obtain ⟨k, hk, rfl, hv⟩ := hrel
    have HV := Lib.hid hv; clear hv
    by_cases hlt : k < m
    · have hcell := HP.out.cell hlt
      have hI := HP.out.2.2.2 k hlt
      have hd := HD.out k hlt
      rw [HV.out, HE.out] at hd
      have D := vlist_any (vs.getD k undef) (ls.getD k []) 1024 w hI (by omega) (by omega)
      obtain ⟨y, hy⟩ : ∃ y, vs.getD k undef = y := ⟨_, rfl⟩
      rw [hy] at hcell D
      clear hy hI
      generalize vlE (ls.getD k []) 1024 = e at *
      have HD1 := Lib.hid D; clear D
      by_cases he : e = 0
      · subst he
        rw [if_neg (by simp)] at hd
        have HN : Hid (vlsE (ls.drop (k + 1)) = vlsE ls) := by show _ = _; rw [← hd, HE.out]
        clear hd
        go_wp2_with (go_at_call 94; refine HD1.out.mono ?_; rintro en w1 ⟨rfl, rfl⟩)
        go_round
        case rel => exact ⟨k + 1, by omega, by go_num, HN.out⟩
        case measure => simp [intOf]; omega
      · rw [if_pos he] at hd
        have HN := Lib.hid hd; clear hd
        have hne : (e != 0) = true := by simpa using he
        go_wp2_with (go_at_call 94; refine HD1.out.mono ?_; rintro en w1 ⟨rfl, rfl⟩)
        go_ret
        exact ⟨by rw [HN.out]; rfl, rfl⟩
    · obtain rfl : k = m := by omega
      have HN : Hid (E = 0) := by show _ = _; rw [← HE.out, ← HV.out, HZ.out]
      go_wp2_with fail
      go_ret
      exact ⟨by rw [HN.out]; rfl, rfl⟩
end

/-! RcA -/
section
set_option linter.unusedVariables false
open Go.RowKit

theorem Own.mono {w : World} {B C : Nat} {v : Value} {xs : List Int} (h : Own w B v xs) (hC : C ≤ B) : Own w C v xs :=
  ⟨h.1, h.2.imp id fun ⟨g, cap, cur, e, hb, r⟩ => ⟨g, cap, cur, e, Nat.le_trans hC hb, r⟩⟩

/-- What was appended lies in a new row. -/
def AppN (w : World) (ys : List Int) (e : Ending) (w' : World) : Prop := ∃ v', e = .returned v' ∧ Own w' w.heap.size v' ys ∧ Below w.heap.size w w'

set_option maxHeartbeats 1000000 in
theorem aroot_own (v : Value) (bs : List Int) (xs : List Int) (w : World) (h : Byt w v bs) (hx : IsBytes 32 xs) (hb : bs.length ≤ 100000000000) :
    Calls Try.prog 65 #[v, .agg (bytesV xs)] w (AppN w (bs ++ xs)) := by
  obtain ⟨va, vl, vc, rfl⟩ := h.shape
  have HFL : Hid ([bs, xs].flatten.length ≤ 1000000000000) := by show _ ≤ _; simp [hx.1]; omega
  have hX0 : (bytesV xs).size = 32 := bytesV_size hx.1
  obtain ⟨X, HX⟩ : ∃ X, Hid (X = bytesV xs) := ⟨_, rfl⟩
  rw [← HX.out] at hX0 ⊢
  have P1 : Hid (Parts ((w.alloc (.cells X 24)).alloc (.cells #[.slice va vl vc, .slice (some ⟨w.heap.size, 0, none⟩) 32 32] 51)) (w.heap.size + 1) 2 #[.slice va vl vc, .slice (some ⟨w.heap.size, 0, none⟩) 32 32] [bs, xs]) :=
    parts2 (by simp) (h.alloc _) (byt_root hx (by rw [← HX.out]; exact Blk.new rfl))
  clear h
  go_enter Try.func65, Try.ntmps65
  go_wp2_with (go_at_call 46; refine (concat_own _ 2 _ [bs, xs] _ P1.out (by omega) HFL.out).mono ?_; rintro e w3 ⟨v3, rfl, hb3, hbl3⟩; have HB3 := Lib.hid hb3; clear hb3; have HBL3 := Lib.hid hbl3; clear hbl3)
  go_ret
  refine ⟨v3, rfl, ?_, ?_⟩
  · refine Own.mono (B := w.heap.size + 2) ?_ (by omega)
    simpa using HB3.out
  · exact (((Below.refl _ _).alloc (Nat.le_refl _) _).alloc (by simp) _).trans (HBL3.out.mono (by simp; omega))

set_option maxRecDepth 100000 in
set_option maxHeartbeats 4000000 in
theorem acheck_own (v : Value) (bs : List Int) (n : Int) (xs : List Int) (w : World) (h : Byt w v bs) (h0 : 0 ≤ n) (hn : n ≤ 18446744073709551615) (hx : IsBytes 32 xs) (hb : bs.length ≤ 10000000000) :
    Calls Try.prog 67 #[v, .agg (cpV n xs)] w (AppN w (bs ++ (uenc n.toNat ++ xs))) := by
  obtain ⟨va, vl, vc, rfl⟩ := h.shape
  have hX33 : (cpV n xs).size = 33 := cpV_size hx
  have hul := uenc_len10 (n := n.toNat) (by omega)
  have hlen2 : (bs ++ uenc n.toNat).length ≤ 100000000000 := by rw [List.length_append]; omega
  obtain ⟨X, HX⟩ : ∃ X, Hid (X = cpV n xs) := ⟨_, rfl⟩
  rw [← HX.out] at hX33 ⊢
  have hblk : Blk (w.alloc (.cells X 26)).drew w.heap.size X := (Blk.new rfl).drewN (n := 1)
  have hbl : Below w.heap.size w (w.alloc (.cells X 26)).drew := Below.drewN (n := 1) ((Below.refl w.heap.size w).alloc (Nat.le_refl _) _)
  have HD1 := Lib.hid (auint_any (.slice va vl vc) bs n _ (h.below hbl) h0 hn (by omega))
  have HBL := Lib.hid hbl; clear hbl
  have s0 : (w.alloc (.cells X 26)).drew.cell? ⟨w.heap.size, 0, none⟩ = some (.int .u64 n) := (cp_range (by rw [← HX.out]; exact hblk)).1
  have s1 : (w.alloc (.cells X 26)).drew.rangeAt w.heap.size 1 (xs.map (Value.int .u8)) := (cp_range (by rw [← HX.out]; exact hblk)).2
  have hBLT : w.heap.size < (w.alloc (.cells X 26)).drew.heap.size := by show _ < (w.alloc (.cells X 26)).heap.size; simp
  have HBK := Lib.hid hblk; clear hblk h
  have u25 : Try.prog.underlying 24 = some (.array 32 5) := Try.underlying24
  have i25 : (Try.prog.info? 24).map (·.size) = some (xs.map (Value.int .u8)).length := by rw [List.length_map, hx.1]; kernel_rfl
  have HXB := Lib.hid hx; clear hx
  obtain ⟨L, HL⟩ : ∃ L, xs.map (Value.int .u8) = L := ⟨_, rfl⟩
  have hLB : bytesV xs = L.toArray := by rw [← HL]; rfl
  have DR := fun v w h hb => aroot_own v (bs ++ uenc n.toNat) xs w h HXB.out hb
  rw [hLB] at DR
  have HDR := Lib.hid DR; clear DR hLB
  rw [HL] at s1 i25
  have HLE := Lib.hid HL; clear HL
  go_enter Try.func67, Try.ntmps67
  go_wp2_with fail
  go_region_held3 (fun u => u.cell? ⟨w.heap.size, 0, none⟩ = some (.int .u64 n) ∧ u.rangeAt w.heap.size 1 L)
    (first | assumption | (constructor <;> assumption))
    ((first
      | (go_at_call 26; refine HD1.out.mono ?_; rintro e w1 ⟨v1, rfl, hy1, hb1⟩
         obtain ⟨a1, l1, c1, rfl⟩ := hy1.shape
         have hr1 := cp_range (show Blk w1 w.heap.size (cpV n xs) from (HBK.out.call hb1).to HX.out)
         rw [HLE.out] at hr1
         have t0 := hr1.1
         have t1 := hr1.2
         have hss : (w1.cell? ⟨w.heap.size, 0, none⟩ = some (.int .u64 n) ∧ w1.rangeAt w.heap.size 1 L) := ⟨t0, t1⟩
         clear hr1
         have HBK1 := Lib.hid (HBK.out.call hb1)
         have HY1 := Lib.hid hy1; clear hy1
         have HB1 := Lib.hid hb1; clear hb1)
      | (go_at_call 65; refine (HDR.out _ _ HY1.out hlen2).mono ?_; rintro e w2 ⟨v2, rfl, hy2, hb2⟩
         have hr2 := cp_range (show Blk w2 w.heap.size (cpV n xs) from (HBK1.out.call hb2).to HX.out)
         rw [HLE.out] at hr2
         have hss2 : (w2.cell? ⟨w.heap.size, 0, none⟩ = some (.int .u64 n) ∧ w2.rangeAt w.heap.size 1 L) := hr2
         have t2 := hr2.1
         have t3 := hr2.2
         clear hr2
         have HY2 := Lib.hid hy2; clear hy2
         have HB2 := Lib.hid hb2; clear hb2)))
  go_wp2_with fail
  go_ret
  refine ⟨v2, rfl, by rw [← List.append_assoc]; exact HY2.out.mono (Nat.le_trans HBL.out.size HB1.out.size), ?_⟩
  exact (HBL.out.trans (HB1.out.mono (by have := HBL.out.size; omega))).trans (HB2.out.mono (by have := HBL.out.size; have := HB1.out.size; omega))

set_option maxHeartbeats 1000000 in
theorem anum_any (v : Value) (bs : List Int) (n : Int) (w : World) (B : Nat) (h : Own w B v bs) (hB : B ≤ w.heap.size) (h0 : 0 ≤ n) (hn : n ≤ 18446744073709551615) (hb : bs.length ≤ 100000000000) :
    Calls Try.prog 72 #[v, .int .u64 n] w (AppO w B v (bs ++ uenc n.toNat)) := by
  have H := Lib.hid h; clear h
  have h10 := uenc_len10 (n := n.toNat) (by omega)
  have HLEN : Hid (bs.length + (uenc n.toNat).length ≤ 140737488355328) := by show _ ≤ _; omega
  have D := fun w => auint_any (.slice none 0 0) [] n w (byt_nil _) h0 hn (by simp)
  rw [List.nil_append] at D
  have HD := Lib.hid D; clear D h10
  go_enter Try.func72, Try.ntmps72
  go_wp2_with (first
    | (go_at_call 26; refine (HD.out _).mono ?_; rintro e w1 ⟨v1, rfl, hy1, hb1⟩; obtain ⟨a1, l1, c1, rfl⟩ := hy1.shape; have HY1 := Lib.hid hy1; clear hy1; have HO1 := Lib.hid (H.out.call hb1); have hs1 := hb1.size; have HB1 := Lib.hid hb1; clear hb1)
    | ((with_reducible refine at_app _ _ ?_); refine wpList_appAt _ _ rfl rfl B _ _ rfl HO1.out _ _ rfl HY1.out HLEN.out (by omega) ?_; intro v2 w2 ho2 hg2 ha2))
  go_ret
  exact ⟨v2, rfl, ho2, Below.own (HB1.out.mono hB) hg2 HO1.out (Nat.le_refl _) (by omega), (Grew.below v HB1.out).trans (Grew.at hg2 ha2)⟩

def lst (l : List Int) (k : Nat) : Int := if k = 0 then 0 else l.getD (k - 1) 0 + 1
theorem gap_lst (l : List Int) (k : Nat) : gap l k = l.getD k 0 - lst l k := by
  unfold gap lst
  split
  · rename_i h; subst h; omega
  · omega
theorem lst_next (l : List Int) (k : Nat) : lst l (k + 1) = l.getD k 0 + 1 := by unfold lst; rw [if_neg (by omega)]; simp
theorem lst_rng {l : List Int} (h : vlE l 1024 = 0) {k : Nat} (hk : k < l.length) : 0 ≤ lst l k ∧ lst l k ≤ l.getD k 0 := by
  have h1 := (vl_good h).2 k hk
  unfold lst
  split
  · omega
  · rename_i h0
    have h2 := (vl_good h).2 (k - 1) (by omega)
    have := h1.2.2 (by omega)
    omega

theorem lenc_len {l : List Int} (h : vlE l 1024 = 0) {k : Nat} (hk : k ≤ l.length) (hl : l.length ≤ 1000000000) : (lencK l k).length ≤ 10 + 10 * k := by
  have h1 := uenc_len10 (n := l.length) (by omega)
  have h2 := seqK_len (f := gap l) (n := l.length) (fun i hi => by have := gap_good h hi; omega) k hk
  rw [lencK, List.length_append]; omega

/-- What stands at the loop's head of appendList. -/
def LI (w : World) (B : Nat) (v : Value) (bs l : List Int) (b m i : Value) (wr : World) : Prop :=
  ∃ k : Nat, k ≤ l.length ∧ i = .int .i64 k ∧ m = .int .i64 (lst l k) ∧ Own wr B b (bs ++ lencK l k) ∧ Below B w wr ∧ B ≤ wr.heap.size ∧ Grew w wr v b

set_option maxRecDepth 100000 in
set_option maxHeartbeats 4000000 in
theorem alist_any (v lv : Value) (bs l : List Int) (w : World) (B : Nat) (h : Own w B v bs) (hB : B ≤ w.heap.size) (hI : ∀ u, Below B w u → IntsV u lv l) (hv : vlE l 1024 = 0) (hl0 : l.length ≤ 1000000000) (hb : bs.length ≤ 10000000000) :
    Calls Try.prog 70 #[v, lv] w (AppO w B v (bs ++ lenc l)) := by
  have H := Lib.hid h; clear h
  have HI := Lib.hid hI
  obtain ⟨⟨a, len, cap, rfl, hl, hm, _⟩, _⟩ := hI w (Below.refl _ _)
  have HV := Lib.hid hv; clear hv hI
  have hll : len ≤ 1000000000 := by omega
  have HLL := Lib.hid hl0; clear hl0 hm
  have HL := Lib.hid hl; clear hl
  have D0 := anum_any v bs (len : Int) w B H.out hB (by omega) (by omega) (by omega)
  rw [Int.toNat_natCast] at D0
  have e0 : bs ++ uenc len = bs ++ lencK l 0 := by rw [← HL.out]; simp [lencK, seqK]
  rw [e0] at D0
  have HD0 := Lib.hid D0; clear D0 e0
  go_enter Try.func70, Try.ntmps70
  go_wp2_with (go_at_call 72; refine HD0.out.mono ?_; rintro e w1 ⟨v1, rfl, ho1, hb1, hg1⟩)
  go_loopw [0, 5, 15] (fun b m i wr => LI w B v bs l b m i wr) (fun _ _ i _ => len - (intOf i).toNat)
  case atStart => exact ⟨0, Nat.zero_le _, rfl, rfl, ho1, hb1, Nat.le_trans hB hb1.size, hg1⟩
  case round =>
    obtain ⟨k, hk, rfl, rfl, ho, hbl, hBr, hgr⟩ := hrel
    rw [HL.out] at hk
    have HO := Lib.hid ho; clear ho
    have HGR := Lib.hid hgr; clear hgr
    by_cases hlt : k < len
    · obtain ⟨⟨_, _, _, e', _, _, hr⟩, _⟩ := HI.out wr hbl
      cases e'
      rcases hr with hr | ⟨b, off, rfl, hbb, hc⟩
      · omega
      have hcell := hc k hlt
      clear hc
      have hkl : k < l.length := by rw [HL.out]; exact hlt
      have hx := (vl_good HV.out).2 k hkl
      have hy := lst_rng HV.out hkl
      have E1 : Hid (lst l (k + 1) = l.getD k 0 + 1) := lst_next l k
      have HKL := Lib.hid hkl; clear hkl
      have hln := lenc_len HV.out (k := k) (by rw [HL.out]; omega) HLL.out
      have D := fun b u h hB => anum_any b (bs ++ lencK l k) (gap l k) u B h hB (by rw [gap_lst]; omega) (by rw [gap_lst]; omega) (by rw [List.length_append]; omega)
      rw [List.append_assoc, ← lencK_next, gap_lst] at D
      have hbl1 := hbl
      have HBL := Lib.hid hbl; clear hbl hbl1 hln
      obtain ⟨x, HX⟩ : ∃ x, Hid (x = l.getD k 0) := ⟨_, rfl⟩
      obtain ⟨y, HY⟩ : ∃ y, Hid (y = lst l k) := ⟨_, rfl⟩
      rw [← HX.out, ← HY.out] at D
      rw [← HX.out] at hcell E1
      rw [← HX.out, ← HY.out] at hy
      have hx0 : 0 ≤ x := by omega
      have hx1 : x < 1024 := by rw [HX.out]; exact hx.2.1
      rw [← HY.out]
      clear hx
      have HD := Lib.hid D; clear D
      have h1 : 0 ≤ x - y := by omega
      go_wp2_with (go_at_call 72; refine (HD.out _ _ HO.out hBr).mono ?_; rintro e w2 ⟨v2, rfl, ho2, hb2, hg2⟩; have HO2 := Lib.hid ho2; clear ho2; have HB2 := Lib.hid hb2; clear hb2; have HG2 := Lib.hid hg2; clear hg2)
      go_roundw
      case rel => exact ⟨k + 1, by rw [HL.out]; omega, by go_num, by rw [E1.out], HO2.out, HBL.out.trans HB2.out, Nat.le_trans hBr HB2.out.size, HGR.out.trans HG2.out⟩
      case measure => simp [intOf]; omega
    · obtain rfl : k = len := by omega
      go_wp2_with fail
      go_ret
      exact ⟨_, rfl, by unfold lenc; rw [HL.out]; exact HO.out, hbl, HGR.out⟩
end

/-! RcE -/
section
set_option linter.unusedVariables false
open Go.RowKit

set_option maxRecDepth 100000 in
set_option maxHeartbeats 4000000 in
theorem aclaim_any (v : Value) (bs : List Int) (s t : Int) (r : List Int) (lv : Value) (l : List Int) (w : World) (h : Byt w v bs) (hs : 0 ≤ s ∧ s ≤ 18446744073709551615) (ht : 0 ≤ t ∧ t ≤ 18446744073709551615) (hr : IsBytes 32 r) (hI : IntsV w lv l) (hv : vlE l 1024 = 0) (hl : l.length ≤ 1000000000) (hb : bs.length ≤ 1000000000) :
    Calls Try.prog 71 #[v, .agg (flatP [[.int .u64 s], [.int .u64 t], bytesL r, [lv]])] w (AppN w (bs ++ (uenc s.toNat ++ (uenc t.toNat ++ (r ++ lenc l))))) := by
  obtain ⟨va, vl, vc, rfl⟩ := h.shape
  obtain ⟨lva, lvl, lvc, rfl⟩ : ∃ a l c, lv = .slice a l c := by obtain ⟨⟨a, l, c, e, _⟩, _⟩ := hI; exact ⟨a, l, c, e⟩
  have h32 := bytesL_len hr
  have l1 := uenc_len10 (n := s.toNat) (by omega)
  have l2 := uenc_len10 (n := t.toNat) (by omega)
  have l3 := hr.1
  obtain ⟨ps, hps⟩ : ∃ ps, ps = [[Value.int .u64 s], [Value.int .u64 t], bytesL r, [Value.slice lva lvl lvc]] := ⟨_, rfl⟩
  rw [← hps]
  have o0 : Hid (offP ps 0 = 0) := rfl
  have o1 : Hid (offP ps 1 = 1) := by show _ = _; rw [hps]; rfl
  have o2 : Hid (offP ps 2 = 2) := by show _ = _; rw [hps]; rfl
  have o3 : Hid (offP ps 3 = 34) := by show _ = _; rw [hps]; simp [offP, h32]
  have q0 : Hid (ps[0]? = some [Value.int .u64 s]) := by show _ = _; rw [hps]; rfl
  have q1 : Hid (ps[1]? = some [Value.int .u64 t]) := by show _ = _; rw [hps]; rfl
  have q2 : Hid (ps[2]? = some (bytesL r)) := by show _ = _; rw [hps]; rfl
  have q3 : Hid (ps[3]? = some [Value.slice lva lvl lvc]) := by show _ = _; rw [hps]; rfl
  have hX0 : (flatP ps).size = 35 := by rw [flatP_size, hps]; simp [h32]
  clear hps
  obtain ⟨X, HX⟩ : ∃ X, Hid (flatP ps = X) := ⟨_, rfl⟩
  rw [HX.out] at hX0 ⊢
  have B0 : Hid (Blk (w.alloc (.cells X 37)) w.heap.size (flatP ps)) := Blk.to (Blk.new rfl) HX.out.symm
  have hba := (Below.refl w.heap.size w).alloc (Nat.le_refl _) (.cells X 37)
  have D1 := Lib.hid (auint_any (.slice va vl vc) bs s _ (h.below hba) hs.1 hs.2 (by omega))
  have D2 := Lib.hid (fun v u h => auint_any v (bs ++ uenc s.toNat) t u h ht.1 ht.2 (by rw [List.length_append]; omega))
  have D3 : Hid (∀ v u, Byt u v (bs ++ uenc s.toNat ++ uenc t.toNat) → Calls Try.prog 65 #[v, .agg (bytesL r).toArray] u (AppN u (bs ++ uenc s.toNat ++ uenc t.toNat ++ r))) := fun v u h => aroot_own v _ r u h hr (by simp only [List.length_append]; omega)
  have D4 := Lib.hid (fun v u (h : Own u w.heap.size v (bs ++ uenc s.toNat ++ uenc t.toNat ++ r)) (hb : Below w.heap.size w u) => alist_any v (.slice lva lvl lvc) (bs ++ uenc s.toNat ++ uenc t.toNat ++ r) l u w.heap.size h hb.size (fun u' hb' => hI.below (hb.trans hb')) hv hl (by simp only [List.length_append]; omega))
  have HE : Hid (bs ++ uenc s.toNat ++ uenc t.toNat ++ r ++ lenc l = bs ++ (uenc s.toNat ++ (uenc t.toNat ++ (r ++ lenc l)))) := by show _ = _; simp
  have HBA := Lib.hid hba; clear hba h hI hv hl l1 l2 l3 hr
  have hi32 : (Try.prog.info? 24).map (·.size) = some (bytesL r).length := by rw [h32]; kernel_rfl
  have HI32 := Lib.hid hi32; clear hi32 h32
  go_enter Try.func71, Try.ntmps71
  go_wp2_with (first
    | ((with_reducible refine at_load (.tmp 6) ?_); refine wpList_load_1 22 (.tmp 6) rfl w.heap.size 0 (.int .u64 s) (B0.out.cellAt q0.out o0.out) rfl _ Try.underlying22 rfl rfl ?_)
    | (go_at_call_of 26 s; refine D1.out.mono ?_; rintro e w1 ⟨v1, rfl, hy1, hb1⟩; obtain ⟨a1, l1, c1, rfl⟩ := hy1.shape; have HY1 := Lib.hid hy1; clear hy1; have K1 := Lib.hid (B0.out.call hb1); have HB1 := Lib.hid (HBA.out.trans (hb1.mono HBA.out.size)); clear hb1)
    | ((with_reducible refine at_load (.tmp 10) ?_); refine wpList_load_1 22 (.tmp 10) rfl w.heap.size 1 (.int .u64 t) (K1.out.cellAt q1.out o1.out) rfl _ Try.underlying22 rfl rfl ?_)
    | (go_at_call_of 26 t; refine (D2.out _ _ HY1.out).mono ?_; rintro e w2 ⟨v2, rfl, hy2, hb2⟩; obtain ⟨a2, l2, c2, rfl⟩ := hy2.shape; have HY2 := Lib.hid hy2; clear hy2; have K2 := Lib.hid (K1.out.call hb2); have HB2 := Lib.hid (HB1.out.trans (hb2.mono HB1.out.size)); clear hb2)
    | ((with_reducible refine at_load (.tmp 14) ?_); refine wpList_load_part 24 (.tmp 14) rfl w.heap.size ps 2 2 (bytesL r) K2.out q2.out o2.out rfl _ Try.underlying24 rfl HI32.out rfl ?_)
    | (go_at_call 65; refine (D3.out _ _ HY2.out).mono ?_; rintro e w3 ⟨v3, rfl, ho3, hb3⟩; obtain ⟨a3, l3, c3, rfl⟩ := ho3.shape; have HB3 := Lib.hid (HB2.out.trans (hb3.mono HB2.out.size)); have HO3 := Lib.hid (ho3.mono HB2.out.size); clear ho3; have K3 := Lib.hid (K2.out.call hb3); clear hb3)
    | ((with_reducible refine at_load (.tmp 18) ?_); refine wpList_load_1 33 (.tmp 18) rfl w.heap.size 34 (.slice lva lvl lvc) (K3.out.cellAt q3.out o3.out) rfl _ Try.underlying33 rfl rfl ?_)
    | (go_at_call 70; refine (D4.out _ _ HO3.out HB3.out).mono ?_; rintro e w4 ⟨v4, rfl, ho4, hb4, hg4⟩; have HO4 := Lib.hid ho4; clear ho4; have HB4 := Lib.hid hb4; clear hb4 hg4))
  go_ret
  exact ⟨v4, rfl, by rw [← HE.out]; exact HO4.out, HB3.out.trans HB4.out⟩

/-- What an Encode function promises: its bytes, or its error. -/
def EncR (w : World) (E : Int) (ys : List Int) (e : Ending) (w' : World) : Prop := ∃ v', e = .returned (.tuple #[v', .int .i64 E]) ∧ Byt w' v' (if E = 0 then ys else []) ∧ Below w.heap.size w w'

set_option maxRecDepth 100000 in
set_option maxHeartbeats 4000000 in
theorem eatt_any (s : Int) (r : List Int) (c : CpD) (lv : Value) (l : List Int) (w : World) (hs : 0 ≤ s ∧ s ≤ 18446744073709551615) (hr : IsBytes 32 r) (hc : c.ok) (hI : IntsV w lv l) (hl : l.length ≤ 1000000000) :
    Calls Try.prog 38 #[.agg (flatP [[.int .u64 s], bytesL r, c.cells, [lv]])] w (EncR w (vlE l 1024) (uenc s.toNat ++ (r ++ (c.enc ++ lenc l)))) := by
  obtain ⟨lva, lvl, lvc, rfl⟩ : ∃ a l c, lv = .slice a l c := by obtain ⟨⟨a, l, c, e, _⟩, _⟩ := hI; exact ⟨a, l, c, e⟩
  have h32 := bytesL_len hr
  have h33 := CpD.len hc
  have l1 := uenc_len10 (n := s.toNat) (by omega)
  have l2 := CpD.encl hc
  have l3 := hr.1
  obtain ⟨ps, hps⟩ : ∃ ps, ps = [[Value.int .u64 s], bytesL r, c.cells, [Value.slice lva lvl lvc]] := ⟨_, rfl⟩
  rw [← hps]
  have o0 : Hid (offP ps 0 = 0) := rfl
  have o1 : Hid (offP ps 1 = 1) := by show _ = _; rw [hps]; rfl
  have o2 : Hid (offP ps 2 = 33) := by show _ = _; rw [hps]; simp [offP, h32]
  have o3 : Hid (offP ps 3 = 66) := by show _ = _; rw [hps]; simp [offP, h32, h33]
  have q0 : Hid (ps[0]? = some [Value.int .u64 s]) := by show _ = _; rw [hps]; rfl
  have q1 : Hid (ps[1]? = some (bytesL r)) := by show _ = _; rw [hps]; rfl
  have q2 : Hid (ps[2]? = some c.cells) := by show _ = _; rw [hps]; rfl
  have q3 : Hid (ps[3]? = some [Value.slice lva lvl lvc]) := by show _ = _; rw [hps]; rfl
  have hX0 : (flatP ps).size = 67 := by rw [flatP_size, hps]; simp [h32, h33]
  clear hps
  obtain ⟨X, HX⟩ : ∃ X, Hid (flatP ps = X) := ⟨_, rfl⟩
  rw [HX.out] at hX0 ⊢
  have B0 : Hid (Blk (w.alloc (.cells X 35)) w.heap.size (flatP ps)) := Blk.to (Blk.new rfl) HX.out.symm
  have hba := (Below.refl w.heap.size w).alloc (Nat.le_refl _) (.cells X 35)
  have DV := vlists_any (w.heap.size + 1) 1 _ _ _ (lists1 (t := 33) (n := w.heap.size + 1) (by simp) (hI.below hba)) (by omega)
  rw [vlsE_one] at DV
  have HDV := Lib.hid DV; clear DV
  have D1 := Lib.hid (fun u => auint_any (.slice none 0 0) [] s u (byt_nil _) hs.1 hs.2 (by simp))
  have D2 : Hid (∀ v u, Byt u v ([] ++ uenc s.toNat) → Calls Try.prog 65 #[v, .agg (bytesL r).toArray] u (App u ([] ++ uenc s.toNat ++ r))) := fun v u h => aroot_any v _ r u h hr (by simp only [List.length_append, List.length_nil]; omega)
  have D3 : Hid (∀ v u, Byt u v ([] ++ uenc s.toNat ++ r) → Calls Try.prog 67 #[v, .agg c.cells.toArray] u (AppN u ([] ++ uenc s.toNat ++ r ++ (uenc c.n.toNat ++ c.r)))) := fun v u h => acheck_own v _ c.n c.r u h hc.1 hc.2.1 hc.2.2 (by simp only [List.length_append, List.length_nil]; omega)
  have D4 := Lib.hid (fun (hv : vlE l 1024 = 0) v u (h : Own u w.heap.size v ([] ++ uenc s.toNat ++ r ++ (uenc c.n.toNat ++ c.r))) (hb : Below w.heap.size w u) => alist_any v (.slice lva lvl lvc) _ l u w.heap.size h hb.size (fun u' hb' => hI.below (hb.trans hb')) hv hl (by simp only [List.length_append, List.length_nil]; unfold CpD.enc at l2; rw [List.length_append] at l2; omega))
  have HE : Hid ([] ++ uenc s.toNat ++ r ++ (uenc c.n.toNat ++ c.r) ++ lenc l = uenc s.toNat ++ (r ++ (c.enc ++ lenc l))) := by show _ = _; simp [CpD.enc]
  have HLE : Hid (∀ h : vlE l 1024 = 0, ([] ++ uenc s.toNat ++ r ++ (uenc c.n.toNat ++ c.r) ++ lenc l).length ≤ 140737488355328) := fun h => by
    have := lenc_len h (Nat.le_refl _) hl
    simp only [List.length_append, List.length_nil]; unfold CpD.enc at l2; rw [List.length_append] at l2; unfold lenc; omega
  have HBY : Hid (∀ x ∈ [] ++ uenc s.toNat ++ r ++ (uenc c.n.toNat ++ c.r) ++ lenc l, 0 ≤ x ∧ x ≤ 255) := by
    intro x hx
    simp only [List.mem_append, List.nil_append, lenc, lencK] at hx
    rcases hx with ((hx | hx) | hx | hx) | hx | hx
    · exact uenc_byte _ x hx
    · exact isb_rng hr x hx
    · exact uenc_byte _ x hx
    · exact isb_rng hc.2.2 x hx
    · exact uenc_byte _ x hx
    · exact seqK_byte _ _ x hx
  have HBA := Lib.hid hba; clear hba hI hl l1 l2 l3 hr hc hs
  have HI32 : Hid ((Try.prog.info? 24).map (·.size) = some (bytesL r).length) := by show _ = _; rw [h32]; kernel_rfl
  have HI33 : Hid ((Try.prog.info? 26).map (·.size) = some c.cells.length) := by show _ = _; rw [h33]; kernel_rfl
  clear h32 h33
  obtain ⟨E, hE⟩ : ∃ E, vlE l 1024 = E := ⟨_, rfl⟩
  rw [hE] at HDV D4 HLE ⊢
  clear hE
  by_cases hE0 : E = 0
  case neg =>
    have hne : (E != 0) = true := by simpa using hE0
    go_enter Try.func38, Try.ntmps38
    go_wp2_with (first
      | ((with_reducible refine at_load (.tmp 6) ?_); refine wpList_load_1 33 (.tmp 6) rfl w.heap.size 66 (.slice lva lvl lvc) (B0.out.cellAt q3.out o3.out) rfl _ Try.underlying33 rfl rfl ?_)
      | (go_at_call 69; refine HDV.out.mono ?_; rintro e w1 ⟨rfl, rfl⟩))
    go_ret2
    exact ⟨_, rfl, by rw [if_neg hE0]; exact byt_nil _, HBA.out.alloc (by simp) _⟩
  case pos =>
    subst hE0
    have HD4 := Lib.hid (D4.out rfl); clear D4
    have HLE1 := Lib.hid (HLE.out rfl); clear HLE
    have HBA2 := Lib.hid (HBA.out.alloc (by simp) (.cells #[Value.slice lva lvl lvc] 33))
    have K0 := Lib.hid (B0.out.alloc (.cells #[Value.slice lva lvl lvc] 33))
    go_enter Try.func38, Try.ntmps38
    go_wp2_with (first
      | ((with_reducible refine at_load (.tmp 6) ?_); refine wpList_load_1 33 (.tmp 6) rfl w.heap.size 66 (.slice lva lvl lvc) (B0.out.cellAt q3.out o3.out) rfl _ Try.underlying33 rfl rfl ?_)
      | (go_at_call 69; refine HDV.out.mono ?_; rintro e w0 ⟨rfl, rfl⟩)
      | ((with_reducible refine at_load (.tmp 13) ?_); refine wpList_load_1 22 (.tmp 13) rfl w.heap.size 0 (.int .u64 s) (K0.out.cellAt q0.out o0.out) rfl _ Try.underlying22 rfl rfl ?_)
      | (go_at_call 26; refine (D1.out _).mono ?_; rintro e w1 ⟨v1, rfl, hy1, hb1⟩; obtain ⟨a1, l1, c1, rfl⟩ := hy1.shape; have HY1 := Lib.hid hy1; clear hy1; have K1 := Lib.hid (K0.out.call hb1); have HB1 := Lib.hid (HBA2.out.trans (hb1.mono HBA2.out.size)); clear hb1)
      | ((with_reducible refine at_load (.tmp 17) ?_); refine wpList_load_part 24 (.tmp 17) rfl w.heap.size ps 1 1 (bytesL r) K1.out q1.out o1.out rfl _ Try.underlying24 rfl HI32.out rfl ?_)
      | (go_at_call 65; refine (D2.out _ _ HY1.out).mono ?_; rintro e w2 ⟨v2, rfl, hy2, hb2⟩; obtain ⟨a2, l2, c2, rfl⟩ := hy2.shape; have HY2 := Lib.hid hy2; clear hy2; have K2 := Lib.hid (K1.out.call hb2); have HB2 := Lib.hid (HB1.out.trans (hb2.mono HB1.out.size)); clear hb2)
      | ((with_reducible refine at_load (.tmp 21) ?_); refine wpList_load_part 26 (.tmp 21) rfl w.heap.size ps 2 33 c.cells K2.out q2.out o2.out rfl _ Try.underlying26 rfl HI33.out rfl ?_)
      | (go_at_call 67; refine (D3.out _ _ HY2.out).mono ?_; rintro e w3 ⟨v3, rfl, ho3, hb3⟩; obtain ⟨a3, l3, c3, rfl⟩ := ho3.shape; have HB3 := Lib.hid (HB2.out.trans (hb3.mono HB2.out.size)); have HO3 := Lib.hid (ho3.mono HB2.out.size); clear ho3; have K3 := Lib.hid (K2.out.call hb3); clear hb3)
      | ((with_reducible refine at_load (.tmp 25) ?_); refine wpList_load_1 33 (.tmp 25) rfl w.heap.size 66 (.slice lva lvl lvc) (K3.out.cellAt q3.out o3.out) rfl _ Try.underlying33 rfl rfl ?_)
      | (go_at_call 70; refine (HD4.out _ _ HO3.out HB3.out).mono ?_; rintro e w4 ⟨v4, rfl, ho4, hb4, hg4⟩; have HO4 := Lib.hid ho4; clear ho4; have HB4 := Lib.hid hb4; clear hb4 hg4))
    go_ret2
    refine ⟨v4, rfl, ?_, HB3.out.trans HB4.out⟩
    rw [if_pos rfl, ← HE.out]
    exact HO4.out.byt (Nat.le_trans HLE1.out (by unfold maxLen; omega)) HBY.out
end

/-! RcR -/
section
set_option linter.unusedVariables false
open Go.RowKit
variable {lo : Nat}

/-- A block before the reader's bytes is written: the reader stays. -/
theorem Rdr.upd {w w' : World} {g b : Nat} {rest : List Int} {e : Int} (h : Rdr lo w g rest e) (hU : Upd b w w') (hb : b < lo) (hg : b ≠ g) : Rdr lo w' g rest e := by
  obtain ⟨a, l, c, hB, hY, hF⟩ := h
  refine ⟨a, l, c, hU.blk hB hg.symm, ⟨?_, hY.rng, hY.fits⟩, hF⟩
  obtain ⟨a', l', c', e', hl, hm, hr⟩ := hY.ints
  cases e'
  refine ⟨_, _, _, rfl, hl, hm, ?_⟩
  rcases hr with h0 | ⟨d, off, rfl, hlt, hc⟩
  · exact .inl h0
  · by_cases h0 : l = 0
    · exact .inl h0
    · have hlo := (hF _ rfl (by omega)).1
      have hne : d ≠ b := by simp only at hlo; omega
      refine .inr ⟨d, off, rfl, by rw [hU.size]; exact hlt, fun i hi => ?_⟩
      rw [show w'.cell? ⟨d, off + i, none⟩ = w.cell? ⟨d, off + i, none⟩ by simp only [World.cell?, hU.block d hne]]
      exact hc i hi

theorem take_all2 {w : World} {b : Nat} {vs : List Value} {o : Nat} : Upd b w (w.setCells b o vs) := by
  induction vs generalizing o w with
  | nil => exact ⟨rfl, rfl, rfl, rfl, fun _ _ => rfl⟩
  | cons v r ih =>
    have h3 := ih (w := w.setCell ⟨b, o, none⟩ v) (o := o + 1)
    exact ⟨h3.os, h3.tape, h3.output, by rw [World.setCells, h3.size]; simp [World.setCell], fun k hk => by
      show (World.setCells (w.setCell ⟨b, o, none⟩ v) b (o + 1) r).heap[k]? = _
      rw [h3.block k hk, Below.heap_setCell _ _ _ _ hk]⟩

theorem Rdr.bytes {w : World} {g : Nat} {rest : List Int} {e : Int} (h : Rdr lo w g rest e) : byteL rest := by
  obtain ⟨a, l, c, _, hY, _⟩ := h; exact hY.rng

set_option maxRecDepth 100000 in
set_option maxHeartbeats 2000000 in
theorem nrd_any (v : Value) (bs : List Int) (w : World) (h : Byt w v bs) (hb : bs.length ≤ 20604) :
    Calls Try.prog 97 #[v] w fun e w' => ∃ g, e = .returned (.agg #[.pointer (some ⟨g, 0, none⟩), .int .i64 (bs.length : Nat)]) ∧ Rdr w.heap.size w' g bs 0 ∧ w.heap.size < g ∧ Below w.heap.size w w' := by
  obtain ⟨a, l, c, e, hl, hm, _⟩ := h.ints
  subst e
  have hfits := (h.fits _ _ _ rfl)
  unfold maxLen at hfits
  rw [hl] at hb
  have hmin : min (l : Int) 20604 = (l : Int) := by omega
  have hba := (Below.refl w.heap.size w).alloc (Nat.le_refl _) (.cells #[.pointer none, .int .i64 0] 141)
  have D := newr_any (.slice a l c) bs _ (h.below hba) (by omega)
  have hsz : (w.alloc (.cells #[.pointer none, .int .i64 0] 141)).heap.size = w.heap.size + 1 := by simp
  rw [hsz] at D
  have HSZ := Lib.hid hsz; clear hsz
  have HD := Lib.hid D; clear D
  have HBA := Lib.hid hba; clear hba h hm
  have B0 : Hid (Blk (w.alloc (.cells #[.pointer none, .int .i64 0] 141)) w.heap.size #[.pointer none, .int .i64 0]) := Blk.new rfl
  rw [hl]
  clear hl
  have hb' : (l : Int) ≤ 20604 := by omega
  go_enter Try.func97, Try.ntmps97
  go_wp2_with (go_at_call 75; refine HD.out.mono ?_; rintro e w1 ⟨g, rfl, hr1, hg1, hb1⟩; have HB1 := Lib.hid (B0.out.below hb1 (by omega)); have k0 := HB1.out.cell 0; have k1 := HB1.out.cell 1; have k2 := HB1.out.free; have HR1 := Lib.hid hr1; clear hr1; have HBL := Lib.hid hb1; clear hb1)
  have u1 : Upd w.heap.size w1 (w1.setCells w.heap.size 0 [.pointer (some ⟨g, 0, none⟩), .int .i64 (l : Int)]) := take_all2
  have hB5 := (HB1.out.setCell (j := 0) (v := .pointer (some ⟨g, 0, none⟩))).setCell (j := 1) (v := .int .i64 (l : Int))
  have hB6 : Blk ((w1.setCell ⟨w.heap.size, 0, none⟩ (.pointer (some ⟨g, 0, none⟩))).setCell ⟨w.heap.size, 1, none⟩ (.int .i64 (l : Int))) w.heap.size #[.pointer (some ⟨g, 0, none⟩), .int .i64 (l : Int)] := by simpa using hB5
  refine bodyPost_ret (res_cellR rfl rfl hB6 Try.underlying141 rfl (by kernel_rfl)) rfl ⟨g, rfl, ?_, by omega, ?_⟩
  · obtain ⟨ra, rl, rc, rB, rY, rF⟩ := HR1.out.upd u1 (by omega) (by omega)
    exact ⟨ra, rl, rc, rB, rY, fun x hx h0 => ⟨by have := (rF x hx h0).1; omega, (rF x hx h0).2⟩⟩
  · exact ((HBA.out.trans (HBL.out.mono (by omega))).setCell (Nat.le_refl _) _).setCell (Nat.le_refl _) _

set_option maxRecDepth 100000 in
set_option maxHeartbeats 2000000 in
theorem num_any (g : Nat) (size : Int) (rest : List Int) (e : Int) (w : World) (h : Rdr lo w g rest e) :
    Calls Try.prog 98 #[.agg #[.pointer (some ⟨g, 0, none⟩), .int .i64 size]] w (Reads lo w g (.int .u64 (ruV rest e 18446744073709551615)) (ruR rest e 18446744073709551615) (ruE rest e 18446744073709551615)) := by
  have hba := (Below.refl w.heap.size w).alloc (Nat.le_refl _) (.cells #[.pointer (some ⟨g, 0, none⟩), .int .i64 size] 141)
  have D := Lib.hid (uint_any g rest e 18446744073709551615 _ (h.below hba) (by omega) (by omega))
  have HBA := Lib.hid hba; clear hba h
  obtain ⟨n, hn⟩ : ∃ n, ruV rest e 18446744073709551615 = n := ⟨_, rfl⟩
  rw [hn] at D ⊢
  clear hn
  go_enter Try.func98, Try.ntmps98
  go_wp2_with (go_at_call 76; refine D.out.mono ?_; rintro en w1 ⟨rfl, hr1, hg1⟩; have HR1 := Lib.hid hr1; clear hr1; have HG1 := Lib.hid hg1; clear hg1)
  go_ret
  exact ⟨rfl, HR1.out, (grownBy_of_below HBA.out).trans HG1.out⟩

/-! ### A row that is made and filled -/
/-- make([]T, n) of integers. -/
theorem wpList_make_ints {ops : Array Oper} {rest : List Oper} {o : Oper} {a : Act} {w : World} {Q : Exit → Act → World → Prop} (hg : o.guard = none) (l : Operand) (t e : TypeId) (k : IntKind) (hop : o.op = Op.makeSlice t l l)
    (hu : Try.prog.underlying t = some (.slice e)) (hi : (Try.prog.info? e).map (fun i => (i.zero, i.size, i.bytes)) = some (some (.int k 0), 1, 8)) (kl : IntKind) (n : Nat) (hl : a.eval l = .int kl (n : Int)) (hn : n ≤ 1000000)
    (hK : ∀ w', Below w.heap.size w w' → w'.heap.size = w.heap.size + 1 → Blk w' w.heap.size (Array.replicate n (.int k 0)) → wpList Try.prog ops Q rest (a.put o.dst (.slice (some ⟨w.heap.size, 0, none⟩) n n)) w') : wpList Try.prog ops Q (o :: rest) a w := by
  obtain ⟨i0, hi0, hz0, hz1, hz2⟩ := info_parts hi
  refine wpList_plain hg fun _ hK' => ?_
  have hr := run_make (P := Try.prog) w t e i0 (.int k 0) hu hi0 hz0 kl kl n n (by omega) (by omega) (by rw [hz2]; omega) (by omega)
  simp only [Int.toNat_natCast, hz1, Nat.mul_one] at hr
  have hm : madeCells (Value.int k 0).cells n = Array.replicate n (.int k 0) := by
    apply Array.toList_inj.1
    rw [show (Value.int k 0).cells = #[Value.int k 0] from rfl, toList_madeCells_one]
    simp
  rw [hm] at hr
  unfold Oper.wp
  simp only [execOp, hop, hl, Sem.run_bind, hr, Result.andThen, Sem.run_pure]
  exact hK' _ _ (hK _ ((Below.refl _ w).alloc (Nat.le_refl _) _) (by simp) (Blk.new rfl))

theorem at_makeS {P : Program} {ops : Array Oper} {Q : Exit → Act → World → Prop} {dst : Option Tmp} {t ty' : TypeId} (x : Operand) {y : Operand} {pos : String} {aft : Array Edge} {g : Option (Nat × Bool)} {rest : List Oper} {a : Act} {w : World}
    (h : wpList P ops Q (⟨dst, .makeSlice t x y, ty', pos, aft, g⟩ :: rest) a w) : wpList P ops Q (⟨dst, .makeSlice t x y, ty', pos, aft, g⟩ :: rest) a w := h

/-- A row of n numbers, of which the first k have been written. -/
def rowK (kd : IntKind) (f : Nat → Int) (n k : Nat) : Array Value := ((List.range n).map fun i => if i < k then Value.int kd (f i) else .int kd 0).toArray
theorem rowK_zero (kd : IntKind) (f : Nat → Int) (n : Nat) : Array.replicate n (Value.int kd 0) = rowK kd f n 0 := by
  apply Array.ext_getElem?
  intro i
  simp only [rowK, Nat.not_lt_zero, if_false]
  by_cases hi : i < n
  · simp [hi]
  · rw [Array.getElem?_eq_none (by simp; omega), Array.getElem?_eq_none (by simp; omega)]
theorem rowK_at {kd : IntKind} {f : Nat → Int} {n k i : Nat} (hi : i < n) : (rowK kd f n k)[i]? = some (if i < k then .int kd (f i) else .int kd 0) := by
  simp [rowK, hi]
theorem rowK_set {kd : IntKind} {f : Nat → Int} {n k : Nat} (hk : k < n) : (rowK kd f n k).setIfInBounds k (.int kd (f k)) = rowK kd f n (k + 1) := by
  apply Array.ext_getElem?
  intro i
  rw [Array.getElem?_setIfInBounds]
  by_cases hik : k = i
  · subst hik
    rw [if_pos rfl, if_pos (by simp [rowK]; exact hk), rowK_at hk, if_pos (by omega)]
  · rw [if_neg hik]
    by_cases hi : i < n
    · rw [rowK_at hi, rowK_at hi]
      by_cases h1 : i < k
      · rw [if_pos h1, if_pos (by omega)]
      · rw [if_neg h1, if_neg (by omega)]
    · rw [Array.getElem?_eq_none (by simp [rowK]; omega), Array.getElem?_eq_none (by simp [rowK]; omega)]
theorem rowK_ints {kd : IntKind} {f : Nat → Int} {n b c : Nat} {w : World} (h : Blk w b (rowK kd f n n)) (hn : n ≤ maxLen) : Ints kd w (.slice (some ⟨b, 0, none⟩) n c) ((List.range n).map f) := by
  refine ⟨_, _, _, rfl, by simp, hn, .inr ⟨b, 0, rfl, h.lt, fun i hi => ?_⟩⟩
  rw [Nat.zero_add, h.cell, rowK_at hi, if_pos hi]
  simp [List.getD, hi]

/-- What a method promises that reads a list. -/
def RdL (lo : Nat) (k : IntKind) (w : World) (g : Nat) (l : List Int) (s : RS) (en : Ending) (w' : World) : Prop :=
  ∃ v', en = .returned v' ∧ Ints k w' v' l ∧ (∀ x a b, v' = .slice (some x) a b → w.heap.size ≤ x.block) ∧ Rdr lo w' g s.r s.e ∧ w.grownBy w' (some g)

def lstE (v : Nat → Int) (k : Nat) : Int := if k = 0 then 0 else elK v (k - 1) + 1
theorem elK_lst (v : Nat → Int) : ∀ k, elK v k = lstE v k + v k
  | 0 => by simp [elK, lstE]
  | k + 1 => by rw [elK, lstE, if_neg (by omega)]; simp
theorem lstE_next (v : Nat → Int) (k : Nat) : lstE v (k + 1) = elK v k + 1 := by rw [lstE, if_neg (by omega)]; simp

/-- What stands at the loop's head of list. -/
def RI (lo : Nat) (w : World) (g b bx n : Nat) (P : Value) (size : Int) (s1 : RS) (m i : Value) (wr : World) : Prop :=
  ∃ k : Nat, k ≤ n ∧ i = .int .i64 k ∧ m = .int .i64 (lstE (fun i => vU 1024 (stK 1024 s1 i)) k) ∧ Blk wr b (rowK .i64 (elK fun i => vU 1024 (stK 1024 s1 i)) n k) ∧ Rdr lo wr g (stK 1024 s1 k).r (stK 1024 s1 k).e ∧
    Blk wr bx #[P, .int .i64 size] ∧ w.grownBy wr (some g)

theorem grownBy_keep {w w1 w2 : World} {g b : Nat} (h1 : w.grownBy w1 (some g)) (h2 : Upd b w1 w2) (hb : w.heap.size ≤ b) : w.grownBy w2 (some g) :=
  ⟨h2.os.trans h1.os, h2.tape.trans h1.tape, h2.output.trans h1.output, by rw [h2.size]; exact h1.size, fun k hk hne => (h2.block k (by omega)).trans (h1.block k hk hne)⟩

/-- A block on or above the reader is written: the reader stays. -/
theorem Rdr.updHi {w w' : World} {g b : Nat} {rest : List Int} {e : Int} (h : Rdr lo w g rest e) (hU : Upd b w w') (hg : g < b) : Rdr lo w' g rest e :=
  h.belowN (N := b) (hU.below (Below.refl b w) (Nat.le_refl _)) hg

theorem upd_set {w : World} {b j : Nat} {v : Value} : Upd b w (w.setCell ⟨b, j, none⟩ v) := take_all2 (vs := [v]) (o := j)

set_option maxRecDepth 100000 in
set_option maxHeartbeats 4000000 in
theorem rlist_any (g : Nat) (size : Int) (s : RS) (w : World) (h : Rdr lo w g s.r s.e) :
    Calls Try.prog 104 #[.agg #[.pointer (some ⟨g, 0, none⟩), .int .i64 size]] w (RdL lo .i64 w g (lsV s) (lsN s)) := by
  have hg := h.lt
  have hby := h.bytes
  have hba := (Below.refl w.heap.size w).alloc (Nat.le_refl _) (.cells #[.pointer (some ⟨g, 0, none⟩), .int .i64 size] 141)
  have B0 : Hid (Blk (w.alloc (.cells #[.pointer (some ⟨g, 0, none⟩), .int .i64 size] 141)) w.heap.size #[.pointer (some ⟨g, 0, none⟩), .int .i64 size]) := Blk.new rfl
  have D := uint_any g s.r s.e 1024 _ (h.below hba) (by omega) (by omega)
  have HBA := Lib.hid hba; clear hba h
  have hn := vU_rng (m := 1024) hby (by omega)
  obtain ⟨n, hnn⟩ : ∃ n : Nat, Hid ((vU 1024 s).toNat = n) := ⟨_, rfl⟩
  have hn1 : n ≤ 1024 := by rw [← hnn.out]; omega
  have e1 : ruV s.r s.e 1024 = (n : Int) := by rw [← hnn.out, Int.toNat_of_nonneg hn.1]; rfl
  rw [e1] at D
  have HD := Lib.hid D; clear D e1 hn
  have HV : Hid (lsV s = (List.range n).map (elK fun i => vU 1024 (stK 1024 (nU 1024 s) i))) := by show _ = _; unfold lsV; rw [hnn.out]
  have HN : Hid (lsN s = stK 1024 (nU 1024 s) n) := by show _ = _; unfold lsN; rw [hnn.out]
  have HBY := Lib.hid (nU_byte (m := 1024) hby); clear hby
  have es : (⟨ruR s.r s.e 1024, ruE s.r s.e 1024⟩ : RS) = nU 1024 s := rfl
  obtain ⟨s1, hs1⟩ : ∃ s1, nU 1024 s = s1 := ⟨_, rfl⟩
  rw [hs1] at HV HN HBY es
  have er : ruR s.r s.e 1024 = s1.r := congrArg RS.r es
  have ee : ruE s.r s.e 1024 = s1.e := congrArg RS.e es
  rw [er, ee] at HD
  clear er ee es hs1
  rw [HV.out, HN.out]
  clear hnn HV HN
  have hw1 : Hid (w.heap.size + 1 = (w.alloc (.cells #[.pointer (some ⟨g, 0, none⟩), .int .i64 size] 141)).heap.size) := by show _ = _; simp
  go_enter Try.func104, Try.ntmps104
  go_wp2_with (first
    | (go_at_call 76; refine HD.out.mono ?_; rintro en w1 ⟨rfl, hr1, hg1⟩; have HR1 := Lib.hid hr1; clear hr1; have HB1 := Lib.hid (B0.out.grown hg1 (by simp; omega)); have HS1 := Lib.hid (Nat.le_trans (Nat.le_of_eq hw1.out) hg1.size); have HG1 := Lib.hid ((grownBy_of_below HBA.out).trans hg1); clear hg1)
    | ((with_reducible refine at_makeS (.tmp 8) ?_); refine wpList_make_ints rfl (.tmp 8) 33 3 .i64 rfl Try.underlying33 (by kernel_rfl) .u64 n rfl (by omega) ?_; intro w2 hb2 hz2 hk2; have HR2 := Lib.hid (HR1.out.below hb2); have HB2 := Lib.hid (HB1.out.call hb2); have HG2 := Lib.hid (HG1.out.trans (grownBy_of_below (row := some g) hb2)); have HK2 := Lib.hid hk2; clear hk2 hb2; have HZ2 := Lib.hid hz2; clear hz2))
  go_loopw [4, 12] (fun m i wr => RI lo w g w1.heap.size w.heap.size n (.pointer (some ⟨g, 0, none⟩)) size s1 m i wr) (fun _ i _ => n - (intOf i).toNat)
  case atStart => exact ⟨0, Nat.zero_le _, rfl, rfl, HK2.out.to (rowK_zero _ _ _), HR2.out, HB2.out, HG2.out⟩
  case round =>
    obtain ⟨k, hk, rfl, rfl, hrow, hrd, hbx, hgr⟩ := hrel
    have hs1 := HS1.out
    have hel := elK_rng (v := fun i => vU 1024 (stK 1024 s1 i)) (m := 1024) (fun i => vU_rng (stK_byte HBY.out i) (by omega)) (by omega)
    by_cases hlt : k < n
    · have hx := vU_rng (m := 1024) (stK_byte (m := 1024) HBY.out k) (by omega)
      have E1 : elK (fun i => vU 1024 (stK 1024 s1 i)) k = lstE (fun i => vU 1024 (stK 1024 s1 i)) k + vU 1024 (stK 1024 s1 k) := elK_lst _ k
      have E2 := Lib.hid (lstE_next (fun i => vU 1024 (stK 1024 s1 i)) k)
      have hek := hel k
      have D := uint_any g (stK 1024 s1 k).r (stK 1024 s1 k).e 1024 wr hrd (by omega) (by omega)
      have hset := rowK_set (kd := .i64) (f := elK fun i => vU 1024 (stK 1024 s1 i)) hlt
      have es : nU 1024 (stK 1024 s1 k) = stK 1024 s1 (k + 1) := rfl
      change Calls _ _ _ _ (Reads lo wr g (.int .u64 (vU 1024 (stK 1024 s1 k))) (nU 1024 (stK 1024 s1 k)).r (nU 1024 (stK 1024 s1 k)).e) at D
      rw [es] at D
      clear es
      rw [E1] at hset hek
      have E3 : lstE (fun i => vU 1024 (stK 1024 s1 i)) (k + 1) = lstE (fun i => vU 1024 (stK 1024 s1 i)) k + vU 1024 (stK 1024 s1 k) + 1 := by rw [E2.out, E1]
      have hexp : (1024 + 1) * ((k : Int) + 1) ≤ 1100000 := by omega
      have hy0 : 0 ≤ lstE (fun i => vU 1024 (stK 1024 s1 i)) k := by
        unfold lstE; split
        · omega
        · have := (hel (k - 1)).1; omega
      clear E1 E2
      obtain ⟨x, HX⟩ : ∃ x, Hid (vU 1024 (stK 1024 s1 k) = x) := ⟨_, rfl⟩
      obtain ⟨y, HY⟩ : ∃ y, Hid (lstE (fun i => vU 1024 (stK 1024 s1 i)) k = y) := ⟨_, rfl⟩
      rw [HX.out] at hset hek E3 hx D
      rw [HY.out] at hset hek E3 hy0
      rw [HY.out]
      have hyx1 : y + x ≤ 1100000 := by omega
      have HSET := Lib.hid hset; clear hset
      have HE3 := Lib.hid E3; clear E3
      clear hel hexp hek
      have HD1 := Lib.hid D; clear D
      have k0 := hbx.cell 0
      have k1 := hbx.free
      have HROW := Lib.hid hrow; clear hrow
      have HBX := Lib.hid hbx; clear hbx
      have HGR := Lib.hid hgr; clear hgr
      have hnb : w1.heap.size ≠ g := by omega
      have hnx : w.heap.size ≠ g := by omega
      have HCELL : Hid ((rowK IntKind.i64 (elK fun i => vU 1024 (stK 1024 s1 i)) n k)[k]? = some (.int .i64 0)) := by show _ = _; rw [rowK_at hlt, if_neg (by omega)]
      have HCELL2 : Hid ((rowK IntKind.i64 (elK fun i => vU 1024 (stK 1024 s1 i)) n (k + 1))[k]? = some (.int .i64 (y + x))) := by show _ = _; rw [← HSET.out]; rw [Array.getElem?_setIfInBounds, if_pos rfl, if_pos (by simp [rowK]; exact hlt)]
      go_wp2_with (go_at_call 76; refine HD1.out.mono ?_; rintro en w4 ⟨rfl, hr4, hg4⟩; have HR4 := Lib.hid hr4; clear hr4; have HROW4 := Lib.hid (HROW.out.grown hg4 (by simpa using hnb)); have HBX4 := Lib.hid (HBX.out.grown hg4 (by simpa using hnx)); have HG4 := Lib.hid (HGR.out.trans hg4); clear hg4; have j0 := HBX4.out.cell 0; have c0 := (HROW4.out.cell k).trans HCELL.out; have c1 := HROW4.out.free)
      have hrow5 := HROW4.out.setCell (j := k) (v := .int .i64 (y + x))
      rw [HSET.out] at hrow5
      refine ⟨⟨k + 1, by omega, by go_num, by rw [HE3.out], hrow5, HR4.out.updHi upd_set (by omega), HBX4.out.setCell_other (by omega), grownBy_keep HG4.out upd_set (by omega)⟩, by simp [intOf]; omega⟩
    · obtain rfl : k = n := by omega
      go_wp2_with fail
      go_ret
      exact ⟨_, rfl, rowK_ints hrow (by unfold maxLen; omega), fun x a b e => by cases e; simp only; omega, hrd, hgr⟩
end

/-! Held4 -/
section
set_option linter.unusedVariables false
open Go.RowKit

/-- A load of an array or a struct is taken first. -/
theorem held_load {P : Program} {ops : Array Oper} {Q : Exit → Act → World → Prop} {S : World → Prop} (i : Nat) {oi : Oper} {fuel : Nat} {listed : Array Bool} {a : Act} {w : World} (hi : ops[i]? = some oi)
    (hs : Region.noSelect ops = true) (hf : Region.free .any ops listed i = true) (hr : (Region.ready .any ops listed).contains i = true)
    (hQ : ∀ v c a w, Q (.panic c) (a.put oi.dst v) w → Q (.panic c) a w) (hw : Region.wanted oi (yielded ops a.tmps) = true) (ty : TypeId) (x : Operand) (ho : oi.op = .load ty x) (b off : Nat) (hx : a.eval x = .pointer (some ⟨b, off, none⟩)) (cs : List Value) (d : TypeDesc)
    (hc : ∀ u, S u → u.rangeAt b off cs) (hu : P.underlying ty = some d) (hd : d.isRow = true) (hin : (P.info? ty).map (·.size) = some cs.length) (hS : S w)
    (h : wpAnyH P .any ops Q S fuel (listed.setIfInBounds i true) (a.put oi.dst (.agg cs.toArray)) w) : wpAnyH P .any ops Q S (fuel + 1) listed a w :=
  wpAnyH_take hi hs hf hr (hQ _) (yieldsIf_load_mid hw ty x ho b off hx cs d hc hu hd hin) hS h

/-- A load of one cell is taken first. -/
theorem held_load1 {P : Program} {ops : Array Oper} {Q : Exit → Act → World → Prop} {S : World → Prop} (i : Nat) {oi : Oper} {fuel : Nat} {listed : Array Bool} {a : Act} {w : World} (hi : ops[i]? = some oi)
    (hs : Region.noSelect ops = true) (hf : Region.free .any ops listed i = true) (hr : (Region.ready .any ops listed).contains i = true)
    (hQ : ∀ v c a w, Q (.panic c) (a.put oi.dst v) w → Q (.panic c) a w) (hw : Region.wanted oi (yielded ops a.tmps) = true) (ty : TypeId) (x : Operand) (ho : oi.op = .load ty x) (b off : Nat) (hx : a.eval x = .pointer (some ⟨b, off, none⟩)) (v : Value) (d : TypeDesc)
    (hc : ∀ u, S u → u.cell? ⟨b, off, none⟩ = some v) (hu : P.underlying ty = some d) (hd : d.isRow = false) (hS : S w)
    (h : wpAnyH P .any ops Q S fuel (listed.setIfInBounds i true) (a.put oi.dst v) w) : wpAnyH P .any ops Q S (fuel + 1) listed a w :=
  wpAnyH_take hi hs hf hr (hQ _) (.inl ⟨hw, fun u hu' => by
    unfold execOp
    simp only [ho, hx, Instr.loadAt, Instr.sureAddr, Sem.run_bind, Sem.run_pure, Result.andThen_ok, run_loadVar_1 u ⟨b, off, none⟩ ty v d (hc u hu') hu hd]⟩) hS h

/-- The store of a whole variable, carried out. -/
theorem wp_store_blk {P : Program} {op : Oper} {a : Act} {w : World} {K : Act → World → Prop} {Q : Exit → Act → World → Prop} (ty : TypeId) (x y : Operand) (ho : op.op = .store ty x y)
    (b : Nat) (cs' : Array Value) (hx : a.eval x = .pointer (some ⟨b, 0, none⟩)) (hy : a.eval y = .agg cs') (cs : Array Value) (hB : Blk w b cs)
    (hs : cs.size = cs'.size) (hi : (P.info? ty).map (·.size) = some cs'.size) (h1 : ∀ v ∈ cs', v.oneCell' = true)
    (h : ∀ w', Upd b w w' → Blk w' b cs' → K (a.put op.dst undef) w') : op.wp P a w K Q := by
  have hth : w.there b 0 cs'.size := by rw [← hs]; exact hB.isThere
  refine wp_store_mid ty x y ho b 0 cs' hx hy hth hi (Array.all_eq_true_iff_forall_mem.2 h1) ?_
  obtain ⟨c, h2, h3, h4⟩ := setCells_blk (w := w) (b := b) cs'.toList 0 cs hB
  refine h _ h4 ?_
  have hr := World.rangeAt_setCells_same w b 0 cs'.toList (by simpa using hth)
  have : c = cs' := by
    apply Array.ext_getElem?
    intro i
    by_cases hi : i < cs'.size
    · have := hr i cs'[i] (by simp [hi])
      rw [Nat.zero_add, h2.cell] at this
      rw [this]; simp [hi]
    · rw [Array.getElem?_eq_none (by omega), Array.getElem?_eq_none (by omega)]
  exact this ▸ h2

theorem Below.rng {N : Nat} {w u : World} {b o : Nat} {cs : List Value} (h : Below N w u) (hb : b < N) (hr : w.rangeAt b o cs) : u.rangeAt b o cs := fun j v hv => by
  rw [h.cell (p := ⟨b, o + j, none⟩) hb]; exact hr j v hv
end

/-! RcF -/
section
set_option linter.unusedVariables false
set_option linter.unusedSimpArgs false
open Go.RowKit
variable {lo : Nat}

def zCp : CpD := ⟨0, zeroR⟩
def zBk : BkD := ⟨zCp, zCp, 0, zeroR, zeroR, zeroR, 0, 0, zCp, zCp, false⟩
def zAt : AtD := ⟨0, zeroR, zCp, .slice none 0 0⟩
def zCl : ClD := ⟨0, 0, zeroR, .slice none 0 0⟩
def zTb : TbD := ⟨zCp, .slice none 0 0⟩
def zVd : VdD := ⟨0, 0, zeroR⟩

/-- finish: its error, its value, its length. -/
def finE (e : Int) (enc : Bool) : Int := if e ≠ 0 then e else if enc then 0 else 2
def finX (e : Int) (enc : Bool) (X Z : Array Value) : Array Value := if finE e enc = 0 then X else Z
def finU (e : Int) (enc : Bool) (n : Int) : Int := if finE e enc = 0 then n else 0
def Fin (w : World) (X : Array Value) (n e : Int) (en : Ending) (w' : World) : Prop := en = .returned (.tuple #[.agg X, .int .i64 n, .int .i64 e]) ∧ Below w.heap.size w w'

set_option maxRecDepth 100000 in
set_option maxHeartbeats 4000000 in
theorem fin_blk (g : Nat) (size : Nat) (rest : List Int) (e : Int) (X : Array Value) (enc : Bool) (w : World) (h : Rdr lo w g rest e) (hX : X.size = 238) (hX1 : ∀ v ∈ X, v.oneCell' = true) (hs : rest.length ≤ size) (hs1 : size ≤ 100000000) :
    Calls Try.prog 103 #[.agg #[.pointer (some ⟨g, 0, none⟩), .int .i64 size], .agg X, .bool enc] w (Fin w (finX e enc X (flatP (zBk.parts))) (finU e enc ((size : Int) - rest.length)) (finE e enc)) := by
  obtain ⟨L, rfl⟩ : ∃ L : List Value, X = L.toArray := ⟨X.toList, by simp⟩
  obtain ⟨Z, hZ⟩ : ∃ Z, Z = flatP (zBk.parts) := ⟨_, rfl⟩
  have hsz : Z.size = 238 := by rw [hZ]; rfl
  obtain ⟨hzz, hst⟩ := zero_array (P := Try.prog) (t := 32) (n := 238) Z (by rw [hZ]; kernel_rfl) hsz (by rw [hZ]; kernel_rfl)
  have HZ1 : Hid (∀ v ∈ Z, v.oneCell' = true) := fun v hv => (Array.all_eq_true_iff_forall_mem.1 (show Z.all (·.oneCell') = true by rw [hZ]; kernel_rfl)) v hv
  rw [← hZ]
  clear hZ
  have hba := (((Below.refl w.heap.size w).alloc (Nat.le_refl _) (.cells #[.pointer (some ⟨g, 0, none⟩), .int .i64 size] 141)).alloc (by simp) (.cells L.toArray 32)).alloc (by simp; omega) (.cells Z 32)
  have hR0 := h.below hba
  have DE := Lib.hid (err_any g rest e _ hR0)
  have HR0 := Lib.hid hR0; clear hR0 h
  have B0 : Hid (Blk (((w.alloc (.cells #[.pointer (some ⟨g, 0, none⟩), .int .i64 size] 141)).alloc (.cells L.toArray 32)).alloc (.cells Z 32)) w.heap.size #[.pointer (some ⟨g, 0, none⟩), .int .i64 size]) := ((Blk.new rfl).alloc _).alloc _
  have B1 : Hid (Blk (((w.alloc (.cells #[.pointer (some ⟨g, 0, none⟩), .int .i64 size] 141)).alloc (.cells L.toArray 32)).alloc (.cells Z 32)) (w.heap.size + 1) L.toArray) := (Blk.new (by simp)).alloc _
  have B2 : Hid (Blk (((w.alloc (.cells #[.pointer (some ⟨g, 0, none⟩), .int .i64 size] 141)).alloc (.cells L.toArray 32)).alloc (.cells Z 32)) (w.heap.size + 2) Z) := Blk.new (by simp)
  have HBA := Lib.hid hba; clear hba
  have hiX : (Try.prog.info? 32).map (·.size) = some L.toArray.size := by rw [hX]; kernel_rfl
  have HIX := Lib.hid hiX
  have HIZ : Hid ((Try.prog.info? 32).map (·.size) = some Z.size) := by show _ = _; rw [hsz]; kernel_rfl
  unfold finX finU finE
  clear hiX
  by_cases he : e = 0
  case neg =>
    have hne : (e != 0) = true := by simpa using he
    have heq : (e == 0) = false := by simpa using he
    simp only [ne_eq, he, not_false_eq_true, if_true, if_false]
    clear he
    have B4 : Hid (Blk ((((w.alloc (.cells #[.pointer (some ⟨g, 0, none⟩), .int .i64 size] 141)).alloc (.cells L.toArray 32)).alloc (.cells Z 32)).alloc (.cells Z 32)) (w.heap.size + 3) Z) := Blk.new (by simp)
    have B5 := Lib.hid (B2.out.alloc (.cells Z 32))
    go_enter Try.func103, Try.ntmps103
    go_wp2_with (first
      | (go_at_call 78; refine DE.out.mono ?_; rintro en w1 ⟨rfl, rfl⟩)
      | ((with_reducible refine at_load (.tmp 10) ?_); refine wpList_load_g 32 (.tmp 10) rfl (w.heap.size + 3) rfl Z _ B4.out Try.underlying32 rfl HIZ.out rfl ?_)
      | ((with_reducible refine at_store (.tmp 6) ?_); refine wpList_store_blk rfl 32 (.tmp 6) _ rfl (w.heap.size + 2) Z rfl rfl Z B5.out rfl HIZ.out HZ1.out ?_; intro w6 U6 B6))
    refine bodyPost_ret (res_cell_tmp2 rfl rfl rfl rfl B6 Try.underlying32 rfl HIZ.out) rfl ⟨rfl, ?_⟩
    exact U6.below (HBA.out.alloc (by simp; omega) _) (by omega)
  case pos =>
    subst he
    simp only [ne_eq, not_true_eq_false, if_false]
    cases enc
    case false =>
      simp only [Bool.false_eq_true, if_false, show ((2 : Int) = 0) = False by simp]
      have B4 : Hid (Blk ((((w.alloc (.cells #[.pointer (some ⟨g, 0, none⟩), .int .i64 size] 141)).alloc (.cells L.toArray 32)).alloc (.cells Z 32)).alloc (.cells Z 32)) (w.heap.size + 3) Z) := Blk.new (by simp)
      have B5 := Lib.hid (B2.out.alloc (.cells Z 32))
      go_enter Try.func103, Try.ntmps103
      go_wp2_with (first
        | (go_at_call 78; refine DE.out.mono ?_; rintro en w1 ⟨rfl, rfl⟩)
        | ((with_reducible refine at_load (.tmp 10) ?_); refine wpList_load_g 32 (.tmp 10) rfl (w.heap.size + 3) rfl Z _ B4.out Try.underlying32 rfl HIZ.out rfl ?_)
        | ((with_reducible refine at_store (.tmp 6) ?_); refine wpList_store_blk rfl 32 (.tmp 6) _ rfl (w.heap.size + 2) Z rfl rfl Z B5.out rfl HIZ.out HZ1.out ?_; intro w6 U6 B6))
      refine bodyPost_ret (res_cell_tmp2 rfl rfl rfl rfl B6 Try.underlying32 rfl HIZ.out) rfl ⟨rfl, ?_⟩
      exact U6.below (HBA.out.alloc (by simp; omega) _) (by omega)
    case true =>
      simp only [if_true]
      go_enter Try.func103, Try.ntmps103
      go_wp2_with (go_at_call 78; refine DE.out.mono ?_; rintro en w1 ⟨rfl, rfl⟩)
      clear DE hzz hst
      obtain ⟨u, hu⟩ : ∃ u, (((w.alloc (.cells #[.pointer (some ⟨g, 0, none⟩), .int .i64 size] 141)).alloc (.cells L.toArray 32)).alloc (.cells Z 32)) = u := ⟨_, rfl⟩
      rw [hu] at B0 B1 B2 HR0 HBA ⊢
      clear hu
      have HX := HR0.out.drew
      have HBX := Below.drewN (n := 1) HBA.out
      change Below w.heap.size w u.drew at HBX
      have b0 : Blk u.drew w.heap.size #[.pointer (some ⟨g, 0, none⟩), .int .i64 size] := B0.out
      have b1 : Blk u.drew (w.heap.size + 1) L.toArray := B1.out
      have b2 : Blk u.drew (w.heap.size + 2) Z := B2.out
      obtain ⟨x, hx⟩ : ∃ x, u.drew = x := ⟨_, rfl⟩
      rw [hx] at HX HBX b0 b1 b2
      refine wp_region_held_drew (S := fun u' => Below (w.heap.size + 2) x u') (by kernel_rfl) (by rw [hx]; exact Below.refl _ _) (fun _ => ?_)
      rw [hx]
      clear hx
      have r1 : x.rangeAt (w.heap.size + 1) 0 L := by simpa using b1.range
      have k0 := b0.cell 0
      have k1 := b0.cell 1
      have hsub : IntKind.i64.wrap ((size : Int) - (rest.length : Nat)) = (size : Int) - (rest.length : Nat) := IntWalk.i64_in _ (by omega)
      have HSUB := Lib.hid hsub; clear hsub
      (try simp only [Act.put, List.setIfInBounds_toArray, List.set_cons_zero, List.set_cons_succ])
      refine held_load 0 rfl (by kernel_rfl) (by kernel_rfl) (by kernel_rfl) (fun _ _ _ _ h => h) rfl 32 (.tmp 4) rfl (w.heap.size + 1) 0 rfl L _ (fun u' hu => Below.rng hu (by omega) r1) Try.underlying32 rfl (by simpa using HIX.out) (Below.refl _ _) ?_
      (try simp only [Act.put, List.setIfInBounds_toArray, List.set_cons_zero, List.set_cons_succ])
      refine wpAnyH_take (i := 1) (v := .pointer (some ⟨w.heap.size, 1, none⟩)) rfl (by kernel_rfl) (by kernel_rfl) (by kernel_rfl) (fun _ _ _ h => h) (Or.inl ⟨by rfl, fun wz hz => ?_⟩) (Below.refl _ _) ?_
      · go_simp
      (try simp only [Act.put, List.setIfInBounds_toArray, List.set_cons_zero, List.set_cons_succ])
      refine held_load1 2 rfl (by kernel_rfl) (by kernel_rfl) (by kernel_rfl) (fun _ _ _ _ h => h) rfl 3 (.tmp 25) rfl w.heap.size 1 rfl _ _ (fun u' hu => (hu.cell (p := ⟨w.heap.size, 1, none⟩) (by simp only; omega)).trans k1) Try.underlying3 rfl (Below.refl _ _) ?_
      (try simp only [Act.put, List.setIfInBounds_toArray, List.set_cons_zero, List.set_cons_succ])
      refine wpAnyH_take (i := 3) (v := .pointer (some ⟨w.heap.size, 0, none⟩)) rfl (by kernel_rfl) (by kernel_rfl) (by kernel_rfl) (fun _ _ _ h => h) (Or.inl ⟨by rfl, fun wz hz => ?_⟩) (Below.refl _ _) ?_
      · go_simp
      (try simp only [Act.put, List.setIfInBounds_toArray, List.set_cons_zero, List.set_cons_succ])
      refine held_load1 4 rfl (by kernel_rfl) (by kernel_rfl) (by kernel_rfl) (fun _ _ _ _ h => h) rfl 119 (.tmp 27) rfl w.heap.size 0 rfl _ _ (fun u' hu => (hu.cell (p := ⟨w.heap.size, 0, none⟩) (by simp only; omega)).trans k0) Try.underlying119 rfl (Below.refl _ _) ?_
      (try simp only [Act.put, List.setIfInBounds_toArray, List.set_cons_zero, List.set_cons_succ])
      refine wpAnyH_ready (rs := [5]) (by kernel_rfl) (by simp) ?_
      refine AllReadyH.cons rfl (fun K hK => ?_) AllReadyH.nil
      go_simp
      refine (rest_any g rest 0 _ HX).mono ?_
      rintro e wa ⟨rfl, rfl⟩
      refine hK.out _ _ (Below.refl _ _) (fun _ => ?_)
      clear hK K
      (try simp only [Act.put, List.setIfInBounds_toArray, List.set_cons_zero, List.set_cons_succ])
      refine wpAnyH_take (i := 6) (v := .int .i64 ((size : Int) - (rest.length : Nat))) rfl (by kernel_rfl) (by kernel_rfl) (by kernel_rfl) (fun _ _ _ h => h) (Or.inl ⟨by rfl, fun wz hz => ?_⟩) (Below.refl _ _) ?_
      · have hsub := HSUB.out
        go_simp
      (try simp only [Act.put, List.setIfInBounds_toArray, List.set_cons_zero, List.set_cons_succ])
      refine wpAnyH_ready (rs := [7]) (by kernel_rfl) (by simp) ?_
      refine AllReadyH.cons rfl (fun K hK => ?_) AllReadyH.nil
      rw [if_pos (by rfl)]
      refine wp_store_blk 32 (.tmp 6) (.tmp 24) rfl (w.heap.size + 2) L.toArray rfl rfl Z b2 (by rw [hsz, hX]) HIX.out hX1 ?_
      intro w6 U6 B6
      refine hK.out _ _ (U6.below (Below.refl _ _) (Nat.le_refl _)) (fun _ => ?_)
      clear hK K
      (try simp only [Act.put, List.setIfInBounds_toArray, List.set_cons_zero, List.set_cons_succ])
      refine wpAnyH_ready (rs := [8]) (by kernel_rfl) (by simp) ?_
      refine AllReadyH.cons rfl (fun K hK => ?_) AllReadyH.nil
      go_simp
      refine hK.out _ _ (U6.below (Below.refl _ _) (Nat.le_refl _)) (fun _ => ?_)
      clear hK K
      (try simp only [Act.put, List.setIfInBounds_toArray, List.set_cons_zero, List.set_cons_succ])
      refine wpAnyH_ready (rs := [9]) (by kernel_rfl) (by simp) ?_
      refine AllReadyH.cons rfl (fun K hK => ?_) AllReadyH.nil
      go_simp
      refine hK.out _ _ (U6.below (Below.refl _ _) (Nat.le_refl _)) (fun _ => ?_)
      clear hK K
      (try simp only [Act.put, List.setIfInBounds_toArray, List.set_cons_zero, List.set_cons_succ])
      refine wpAnyH_done (by kernel_rfl) ?_ _
      go_wp2_with fail
      refine bodyPost_ret (res_cell_tmp2 rfl rfl rfl rfl B6 Try.underlying32 rfl HIX.out) rfl ⟨rfl, ?_⟩
      exact U6.below HBX (by omega)

set_option maxRecDepth 100000 in
set_option maxHeartbeats 4000000 in
theorem fin_att (g : Nat) (size : Nat) (rest : List Int) (e : Int) (X : Array Value) (enc : Bool) (w : World) (h : Rdr lo w g rest e) (hX : X.size = 67) (hX1 : ∀ v ∈ X, v.oneCell' = true) (hs : rest.length ≤ size) (hs1 : size ≤ 100000000) :
    Calls Try.prog 105 #[.agg #[.pointer (some ⟨g, 0, none⟩), .int .i64 size], .agg X, .bool enc] w (Fin w (finX e enc X (flatP (zAt.parts))) (finU e enc ((size : Int) - rest.length)) (finE e enc)) := by
  obtain ⟨L, rfl⟩ : ∃ L : List Value, X = L.toArray := ⟨X.toList, by simp⟩
  obtain ⟨Z, hZ⟩ : ∃ Z, Z = flatP (zAt.parts) := ⟨_, rfl⟩
  have hsz : Z.size = 67 := by rw [hZ]; rfl
  obtain ⟨hzz, hst⟩ := zero_array (P := Try.prog) (t := 35) (n := 67) Z (by rw [hZ]; kernel_rfl) hsz (by rw [hZ]; kernel_rfl)
  have HZ1 : Hid (∀ v ∈ Z, v.oneCell' = true) := fun v hv => (Array.all_eq_true_iff_forall_mem.1 (show Z.all (·.oneCell') = true by rw [hZ]; kernel_rfl)) v hv
  rw [← hZ]
  clear hZ
  have hba := (((Below.refl w.heap.size w).alloc (Nat.le_refl _) (.cells #[.pointer (some ⟨g, 0, none⟩), .int .i64 size] 141)).alloc (by simp) (.cells L.toArray 35)).alloc (by simp; omega) (.cells Z 35)
  have hR0 := h.below hba
  have DE := Lib.hid (err_any g rest e _ hR0)
  have HR0 := Lib.hid hR0; clear hR0 h
  have B0 : Hid (Blk (((w.alloc (.cells #[.pointer (some ⟨g, 0, none⟩), .int .i64 size] 141)).alloc (.cells L.toArray 35)).alloc (.cells Z 35)) w.heap.size #[.pointer (some ⟨g, 0, none⟩), .int .i64 size]) := ((Blk.new rfl).alloc _).alloc _
  have B1 : Hid (Blk (((w.alloc (.cells #[.pointer (some ⟨g, 0, none⟩), .int .i64 size] 141)).alloc (.cells L.toArray 35)).alloc (.cells Z 35)) (w.heap.size + 1) L.toArray) := (Blk.new (by simp)).alloc _
  have B2 : Hid (Blk (((w.alloc (.cells #[.pointer (some ⟨g, 0, none⟩), .int .i64 size] 141)).alloc (.cells L.toArray 35)).alloc (.cells Z 35)) (w.heap.size + 2) Z) := Blk.new (by simp)
  have HBA := Lib.hid hba; clear hba
  have hiX : (Try.prog.info? 35).map (·.size) = some L.toArray.size := by rw [hX]; kernel_rfl
  have HIX := Lib.hid hiX
  have HIZ : Hid ((Try.prog.info? 35).map (·.size) = some Z.size) := by show _ = _; rw [hsz]; kernel_rfl
  unfold finX finU finE
  clear hiX
  by_cases he : e = 0
  case neg =>
    have hne : (e != 0) = true := by simpa using he
    have heq : (e == 0) = false := by simpa using he
    simp only [ne_eq, he, not_false_eq_true, if_true, if_false]
    clear he
    have B4 : Hid (Blk ((((w.alloc (.cells #[.pointer (some ⟨g, 0, none⟩), .int .i64 size] 141)).alloc (.cells L.toArray 35)).alloc (.cells Z 35)).alloc (.cells Z 35)) (w.heap.size + 3) Z) := Blk.new (by simp)
    have B5 := Lib.hid (B2.out.alloc (.cells Z 35))
    go_enter Try.func105, Try.ntmps105
    go_wp2_with (first
      | (go_at_call 78; refine DE.out.mono ?_; rintro en w1 ⟨rfl, rfl⟩)
      | ((with_reducible refine at_load (.tmp 10) ?_); refine wpList_load_g 35 (.tmp 10) rfl (w.heap.size + 3) rfl Z _ B4.out Try.underlying35 rfl HIZ.out rfl ?_)
      | ((with_reducible refine at_store (.tmp 6) ?_); refine wpList_store_blk rfl 35 (.tmp 6) _ rfl (w.heap.size + 2) Z rfl rfl Z B5.out rfl HIZ.out HZ1.out ?_; intro w6 U6 B6))
    refine bodyPost_ret (res_cell_tmp2 rfl rfl rfl rfl B6 Try.underlying35 rfl HIZ.out) rfl ⟨rfl, ?_⟩
    exact U6.below (HBA.out.alloc (by simp; omega) _) (by omega)
  case pos =>
    subst he
    simp only [ne_eq, not_true_eq_false, if_false]
    cases enc
    case false =>
      simp only [Bool.false_eq_true, if_false, show ((2 : Int) = 0) = False by simp]
      have B4 : Hid (Blk ((((w.alloc (.cells #[.pointer (some ⟨g, 0, none⟩), .int .i64 size] 141)).alloc (.cells L.toArray 35)).alloc (.cells Z 35)).alloc (.cells Z 35)) (w.heap.size + 3) Z) := Blk.new (by simp)
      have B5 := Lib.hid (B2.out.alloc (.cells Z 35))
      go_enter Try.func105, Try.ntmps105
      go_wp2_with (first
        | (go_at_call 78; refine DE.out.mono ?_; rintro en w1 ⟨rfl, rfl⟩)
        | ((with_reducible refine at_load (.tmp 10) ?_); refine wpList_load_g 35 (.tmp 10) rfl (w.heap.size + 3) rfl Z _ B4.out Try.underlying35 rfl HIZ.out rfl ?_)
        | ((with_reducible refine at_store (.tmp 6) ?_); refine wpList_store_blk rfl 35 (.tmp 6) _ rfl (w.heap.size + 2) Z rfl rfl Z B5.out rfl HIZ.out HZ1.out ?_; intro w6 U6 B6))
      refine bodyPost_ret (res_cell_tmp2 rfl rfl rfl rfl B6 Try.underlying35 rfl HIZ.out) rfl ⟨rfl, ?_⟩
      exact U6.below (HBA.out.alloc (by simp; omega) _) (by omega)
    case true =>
      simp only [if_true]
      go_enter Try.func105, Try.ntmps105
      go_wp2_with (go_at_call 78; refine DE.out.mono ?_; rintro en w1 ⟨rfl, rfl⟩)
      clear DE hzz hst
      obtain ⟨u, hu⟩ : ∃ u, (((w.alloc (.cells #[.pointer (some ⟨g, 0, none⟩), .int .i64 size] 141)).alloc (.cells L.toArray 35)).alloc (.cells Z 35)) = u := ⟨_, rfl⟩
      rw [hu] at B0 B1 B2 HR0 HBA ⊢
      clear hu
      have HX := HR0.out.drew
      have HBX := Below.drewN (n := 1) HBA.out
      change Below w.heap.size w u.drew at HBX
      have b0 : Blk u.drew w.heap.size #[.pointer (some ⟨g, 0, none⟩), .int .i64 size] := B0.out
      have b1 : Blk u.drew (w.heap.size + 1) L.toArray := B1.out
      have b2 : Blk u.drew (w.heap.size + 2) Z := B2.out
      obtain ⟨x, hx⟩ : ∃ x, u.drew = x := ⟨_, rfl⟩
      rw [hx] at HX HBX b0 b1 b2
      refine wp_region_held_drew (S := fun u' => Below (w.heap.size + 2) x u') (by kernel_rfl) (by rw [hx]; exact Below.refl _ _) (fun _ => ?_)
      rw [hx]
      clear hx
      have r1 : x.rangeAt (w.heap.size + 1) 0 L := by simpa using b1.range
      have k0 := b0.cell 0
      have k1 := b0.cell 1
      have hsub : IntKind.i64.wrap ((size : Int) - (rest.length : Nat)) = (size : Int) - (rest.length : Nat) := IntWalk.i64_in _ (by omega)
      have HSUB := Lib.hid hsub; clear hsub
      (try simp only [Act.put, List.setIfInBounds_toArray, List.set_cons_zero, List.set_cons_succ])
      refine held_load 0 rfl (by kernel_rfl) (by kernel_rfl) (by kernel_rfl) (fun _ _ _ _ h => h) rfl 35 (.tmp 4) rfl (w.heap.size + 1) 0 rfl L _ (fun u' hu => Below.rng hu (by omega) r1) Try.underlying35 rfl (by simpa using HIX.out) (Below.refl _ _) ?_
      (try simp only [Act.put, List.setIfInBounds_toArray, List.set_cons_zero, List.set_cons_succ])
      refine wpAnyH_take (i := 1) (v := .pointer (some ⟨w.heap.size, 1, none⟩)) rfl (by kernel_rfl) (by kernel_rfl) (by kernel_rfl) (fun _ _ _ h => h) (Or.inl ⟨by rfl, fun wz hz => ?_⟩) (Below.refl _ _) ?_
      · go_simp
      (try simp only [Act.put, List.setIfInBounds_toArray, List.set_cons_zero, List.set_cons_succ])
      refine held_load1 2 rfl (by kernel_rfl) (by kernel_rfl) (by kernel_rfl) (fun _ _ _ _ h => h) rfl 3 (.tmp 25) rfl w.heap.size 1 rfl _ _ (fun u' hu => (hu.cell (p := ⟨w.heap.size, 1, none⟩) (by simp only; omega)).trans k1) Try.underlying3 rfl (Below.refl _ _) ?_
      (try simp only [Act.put, List.setIfInBounds_toArray, List.set_cons_zero, List.set_cons_succ])
      refine wpAnyH_take (i := 3) (v := .pointer (some ⟨w.heap.size, 0, none⟩)) rfl (by kernel_rfl) (by kernel_rfl) (by kernel_rfl) (fun _ _ _ h => h) (Or.inl ⟨by rfl, fun wz hz => ?_⟩) (Below.refl _ _) ?_
      · go_simp
      (try simp only [Act.put, List.setIfInBounds_toArray, List.set_cons_zero, List.set_cons_succ])
      refine held_load1 4 rfl (by kernel_rfl) (by kernel_rfl) (by kernel_rfl) (fun _ _ _ _ h => h) rfl 119 (.tmp 27) rfl w.heap.size 0 rfl _ _ (fun u' hu => (hu.cell (p := ⟨w.heap.size, 0, none⟩) (by simp only; omega)).trans k0) Try.underlying119 rfl (Below.refl _ _) ?_
      (try simp only [Act.put, List.setIfInBounds_toArray, List.set_cons_zero, List.set_cons_succ])
      refine wpAnyH_ready (rs := [5]) (by kernel_rfl) (by simp) ?_
      refine AllReadyH.cons rfl (fun K hK => ?_) AllReadyH.nil
      go_simp
      refine (rest_any g rest 0 _ HX).mono ?_
      rintro e wa ⟨rfl, rfl⟩
      refine hK.out _ _ (Below.refl _ _) (fun _ => ?_)
      clear hK K
      (try simp only [Act.put, List.setIfInBounds_toArray, List.set_cons_zero, List.set_cons_succ])
      refine wpAnyH_take (i := 6) (v := .int .i64 ((size : Int) - (rest.length : Nat))) rfl (by kernel_rfl) (by kernel_rfl) (by kernel_rfl) (fun _ _ _ h => h) (Or.inl ⟨by rfl, fun wz hz => ?_⟩) (Below.refl _ _) ?_
      · have hsub := HSUB.out
        go_simp
      (try simp only [Act.put, List.setIfInBounds_toArray, List.set_cons_zero, List.set_cons_succ])
      refine wpAnyH_ready (rs := [7]) (by kernel_rfl) (by simp) ?_
      refine AllReadyH.cons rfl (fun K hK => ?_) AllReadyH.nil
      rw [if_pos (by rfl)]
      refine wp_store_blk 35 (.tmp 6) (.tmp 24) rfl (w.heap.size + 2) L.toArray rfl rfl Z b2 (by rw [hsz, hX]) HIX.out hX1 ?_
      intro w6 U6 B6
      refine hK.out _ _ (U6.below (Below.refl _ _) (Nat.le_refl _)) (fun _ => ?_)
      clear hK K
      (try simp only [Act.put, List.setIfInBounds_toArray, List.set_cons_zero, List.set_cons_succ])
      refine wpAnyH_ready (rs := [8]) (by kernel_rfl) (by simp) ?_
      refine AllReadyH.cons rfl (fun K hK => ?_) AllReadyH.nil
      go_simp
      refine hK.out _ _ (U6.below (Below.refl _ _) (Nat.le_refl _)) (fun _ => ?_)
      clear hK K
      (try simp only [Act.put, List.setIfInBounds_toArray, List.set_cons_zero, List.set_cons_succ])
      refine wpAnyH_ready (rs := [9]) (by kernel_rfl) (by simp) ?_
      refine AllReadyH.cons rfl (fun K hK => ?_) AllReadyH.nil
      go_simp
      refine hK.out _ _ (U6.below (Below.refl _ _) (Nat.le_refl _)) (fun _ => ?_)
      clear hK K
      (try simp only [Act.put, List.setIfInBounds_toArray, List.set_cons_zero, List.set_cons_succ])
      refine wpAnyH_done (by kernel_rfl) ?_ _
      go_wp2_with fail
      refine bodyPost_ret (res_cell_tmp2 rfl rfl rfl rfl B6 Try.underlying35 rfl HIX.out) rfl ⟨rfl, ?_⟩
      exact U6.below HBX (by omega)

set_option maxRecDepth 100000 in
set_option maxHeartbeats 4000000 in
theorem fin_sla (g : Nat) (size : Nat) (rest : List Int) (e : Int) (X : Array Value) (enc : Bool) (w : World) (h : Rdr lo w g rest e) (hX : X.size = 70) (hX1 : ∀ v ∈ X, v.oneCell' = true) (hs : rest.length ≤ size) (hs1 : size ≤ 100000000) :
    Calls Try.prog 107 #[.agg #[.pointer (some ⟨g, 0, none⟩), .int .i64 size], .agg X, .bool enc] w (Fin w (finX e enc X (flatP ([zCl.cells, zCl.cells]))) (finU e enc ((size : Int) - rest.length)) (finE e enc)) := by
  obtain ⟨L, rfl⟩ : ∃ L : List Value, X = L.toArray := ⟨X.toList, by simp⟩
  obtain ⟨Z, hZ⟩ : ∃ Z, Z = flatP ([zCl.cells, zCl.cells]) := ⟨_, rfl⟩
  have hsz : Z.size = 70 := by rw [hZ]; rfl
  obtain ⟨hzz, hst⟩ := zero_array (P := Try.prog) (t := 39) (n := 70) Z (by rw [hZ]; kernel_rfl) hsz (by rw [hZ]; kernel_rfl)
  have HZ1 : Hid (∀ v ∈ Z, v.oneCell' = true) := fun v hv => (Array.all_eq_true_iff_forall_mem.1 (show Z.all (·.oneCell') = true by rw [hZ]; kernel_rfl)) v hv
  rw [← hZ]
  clear hZ
  have hba := (((Below.refl w.heap.size w).alloc (Nat.le_refl _) (.cells #[.pointer (some ⟨g, 0, none⟩), .int .i64 size] 141)).alloc (by simp) (.cells L.toArray 39)).alloc (by simp; omega) (.cells Z 39)
  have hR0 := h.below hba
  have DE := Lib.hid (err_any g rest e _ hR0)
  have HR0 := Lib.hid hR0; clear hR0 h
  have B0 : Hid (Blk (((w.alloc (.cells #[.pointer (some ⟨g, 0, none⟩), .int .i64 size] 141)).alloc (.cells L.toArray 39)).alloc (.cells Z 39)) w.heap.size #[.pointer (some ⟨g, 0, none⟩), .int .i64 size]) := ((Blk.new rfl).alloc _).alloc _
  have B1 : Hid (Blk (((w.alloc (.cells #[.pointer (some ⟨g, 0, none⟩), .int .i64 size] 141)).alloc (.cells L.toArray 39)).alloc (.cells Z 39)) (w.heap.size + 1) L.toArray) := (Blk.new (by simp)).alloc _
  have B2 : Hid (Blk (((w.alloc (.cells #[.pointer (some ⟨g, 0, none⟩), .int .i64 size] 141)).alloc (.cells L.toArray 39)).alloc (.cells Z 39)) (w.heap.size + 2) Z) := Blk.new (by simp)
  have HBA := Lib.hid hba; clear hba
  have hiX : (Try.prog.info? 39).map (·.size) = some L.toArray.size := by rw [hX]; kernel_rfl
  have HIX := Lib.hid hiX
  have HIZ : Hid ((Try.prog.info? 39).map (·.size) = some Z.size) := by show _ = _; rw [hsz]; kernel_rfl
  unfold finX finU finE
  clear hiX
  by_cases he : e = 0
  case neg =>
    have hne : (e != 0) = true := by simpa using he
    have heq : (e == 0) = false := by simpa using he
    simp only [ne_eq, he, not_false_eq_true, if_true, if_false]
    clear he
    have B4 : Hid (Blk ((((w.alloc (.cells #[.pointer (some ⟨g, 0, none⟩), .int .i64 size] 141)).alloc (.cells L.toArray 39)).alloc (.cells Z 39)).alloc (.cells Z 39)) (w.heap.size + 3) Z) := Blk.new (by simp)
    have B5 := Lib.hid (B2.out.alloc (.cells Z 39))
    go_enter Try.func107, Try.ntmps107
    go_wp2_with (first
      | (go_at_call 78; refine DE.out.mono ?_; rintro en w1 ⟨rfl, rfl⟩)
      | ((with_reducible refine at_load (.tmp 10) ?_); refine wpList_load_g 39 (.tmp 10) rfl (w.heap.size + 3) rfl Z _ B4.out Try.underlying39 rfl HIZ.out rfl ?_)
      | ((with_reducible refine at_store (.tmp 6) ?_); refine wpList_store_blk rfl 39 (.tmp 6) _ rfl (w.heap.size + 2) Z rfl rfl Z B5.out rfl HIZ.out HZ1.out ?_; intro w6 U6 B6))
    refine bodyPost_ret (res_cell_tmp2 rfl rfl rfl rfl B6 Try.underlying39 rfl HIZ.out) rfl ⟨rfl, ?_⟩
    exact U6.below (HBA.out.alloc (by simp; omega) _) (by omega)
  case pos =>
    subst he
    simp only [ne_eq, not_true_eq_false, if_false]
    cases enc
    case false =>
      simp only [Bool.false_eq_true, if_false, show ((2 : Int) = 0) = False by simp]
      have B4 : Hid (Blk ((((w.alloc (.cells #[.pointer (some ⟨g, 0, none⟩), .int .i64 size] 141)).alloc (.cells L.toArray 39)).alloc (.cells Z 39)).alloc (.cells Z 39)) (w.heap.size + 3) Z) := Blk.new (by simp)
      have B5 := Lib.hid (B2.out.alloc (.cells Z 39))
      go_enter Try.func107, Try.ntmps107
      go_wp2_with (first
        | (go_at_call 78; refine DE.out.mono ?_; rintro en w1 ⟨rfl, rfl⟩)
        | ((with_reducible refine at_load (.tmp 10) ?_); refine wpList_load_g 39 (.tmp 10) rfl (w.heap.size + 3) rfl Z _ B4.out Try.underlying39 rfl HIZ.out rfl ?_)
        | ((with_reducible refine at_store (.tmp 6) ?_); refine wpList_store_blk rfl 39 (.tmp 6) _ rfl (w.heap.size + 2) Z rfl rfl Z B5.out rfl HIZ.out HZ1.out ?_; intro w6 U6 B6))
      refine bodyPost_ret (res_cell_tmp2 rfl rfl rfl rfl B6 Try.underlying39 rfl HIZ.out) rfl ⟨rfl, ?_⟩
      exact U6.below (HBA.out.alloc (by simp; omega) _) (by omega)
    case true =>
      simp only [if_true]
      go_enter Try.func107, Try.ntmps107
      go_wp2_with (go_at_call 78; refine DE.out.mono ?_; rintro en w1 ⟨rfl, rfl⟩)
      clear DE hzz hst
      obtain ⟨u, hu⟩ : ∃ u, (((w.alloc (.cells #[.pointer (some ⟨g, 0, none⟩), .int .i64 size] 141)).alloc (.cells L.toArray 39)).alloc (.cells Z 39)) = u := ⟨_, rfl⟩
      rw [hu] at B0 B1 B2 HR0 HBA ⊢
      clear hu
      have HX := HR0.out.drew
      have HBX := Below.drewN (n := 1) HBA.out
      change Below w.heap.size w u.drew at HBX
      have b0 : Blk u.drew w.heap.size #[.pointer (some ⟨g, 0, none⟩), .int .i64 size] := B0.out
      have b1 : Blk u.drew (w.heap.size + 1) L.toArray := B1.out
      have b2 : Blk u.drew (w.heap.size + 2) Z := B2.out
      obtain ⟨x, hx⟩ : ∃ x, u.drew = x := ⟨_, rfl⟩
      rw [hx] at HX HBX b0 b1 b2
      refine wp_region_held_drew (S := fun u' => Below (w.heap.size + 2) x u') (by kernel_rfl) (by rw [hx]; exact Below.refl _ _) (fun _ => ?_)
      rw [hx]
      clear hx
      have r1 : x.rangeAt (w.heap.size + 1) 0 L := by simpa using b1.range
      have k0 := b0.cell 0
      have k1 := b0.cell 1
      have hsub : IntKind.i64.wrap ((size : Int) - (rest.length : Nat)) = (size : Int) - (rest.length : Nat) := IntWalk.i64_in _ (by omega)
      have HSUB := Lib.hid hsub; clear hsub
      (try simp only [Act.put, List.setIfInBounds_toArray, List.set_cons_zero, List.set_cons_succ])
      refine held_load 0 rfl (by kernel_rfl) (by kernel_rfl) (by kernel_rfl) (fun _ _ _ _ h => h) rfl 39 (.tmp 4) rfl (w.heap.size + 1) 0 rfl L _ (fun u' hu => Below.rng hu (by omega) r1) Try.underlying39 rfl (by simpa using HIX.out) (Below.refl _ _) ?_
      (try simp only [Act.put, List.setIfInBounds_toArray, List.set_cons_zero, List.set_cons_succ])
      refine wpAnyH_take (i := 1) (v := .pointer (some ⟨w.heap.size, 1, none⟩)) rfl (by kernel_rfl) (by kernel_rfl) (by kernel_rfl) (fun _ _ _ h => h) (Or.inl ⟨by rfl, fun wz hz => ?_⟩) (Below.refl _ _) ?_
      · go_simp
      (try simp only [Act.put, List.setIfInBounds_toArray, List.set_cons_zero, List.set_cons_succ])
      refine held_load1 2 rfl (by kernel_rfl) (by kernel_rfl) (by kernel_rfl) (fun _ _ _ _ h => h) rfl 3 (.tmp 25) rfl w.heap.size 1 rfl _ _ (fun u' hu => (hu.cell (p := ⟨w.heap.size, 1, none⟩) (by simp only; omega)).trans k1) Try.underlying3 rfl (Below.refl _ _) ?_
      (try simp only [Act.put, List.setIfInBounds_toArray, List.set_cons_zero, List.set_cons_succ])
      refine wpAnyH_take (i := 3) (v := .pointer (some ⟨w.heap.size, 0, none⟩)) rfl (by kernel_rfl) (by kernel_rfl) (by kernel_rfl) (fun _ _ _ h => h) (Or.inl ⟨by rfl, fun wz hz => ?_⟩) (Below.refl _ _) ?_
      · go_simp
      (try simp only [Act.put, List.setIfInBounds_toArray, List.set_cons_zero, List.set_cons_succ])
      refine held_load1 4 rfl (by kernel_rfl) (by kernel_rfl) (by kernel_rfl) (fun _ _ _ _ h => h) rfl 119 (.tmp 27) rfl w.heap.size 0 rfl _ _ (fun u' hu => (hu.cell (p := ⟨w.heap.size, 0, none⟩) (by simp only; omega)).trans k0) Try.underlying119 rfl (Below.refl _ _) ?_
      (try simp only [Act.put, List.setIfInBounds_toArray, List.set_cons_zero, List.set_cons_succ])
      refine wpAnyH_ready (rs := [5]) (by kernel_rfl) (by simp) ?_
      refine AllReadyH.cons rfl (fun K hK => ?_) AllReadyH.nil
      go_simp
      refine (rest_any g rest 0 _ HX).mono ?_
      rintro e wa ⟨rfl, rfl⟩
      refine hK.out _ _ (Below.refl _ _) (fun _ => ?_)
      clear hK K
      (try simp only [Act.put, List.setIfInBounds_toArray, List.set_cons_zero, List.set_cons_succ])
      refine wpAnyH_take (i := 6) (v := .int .i64 ((size : Int) - (rest.length : Nat))) rfl (by kernel_rfl) (by kernel_rfl) (by kernel_rfl) (fun _ _ _ h => h) (Or.inl ⟨by rfl, fun wz hz => ?_⟩) (Below.refl _ _) ?_
      · have hsub := HSUB.out
        go_simp
      (try simp only [Act.put, List.setIfInBounds_toArray, List.set_cons_zero, List.set_cons_succ])
      refine wpAnyH_ready (rs := [7]) (by kernel_rfl) (by simp) ?_
      refine AllReadyH.cons rfl (fun K hK => ?_) AllReadyH.nil
      rw [if_pos (by rfl)]
      refine wp_store_blk 39 (.tmp 6) (.tmp 24) rfl (w.heap.size + 2) L.toArray rfl rfl Z b2 (by rw [hsz, hX]) HIX.out hX1 ?_
      intro w6 U6 B6
      refine hK.out _ _ (U6.below (Below.refl _ _) (Nat.le_refl _)) (fun _ => ?_)
      clear hK K
      (try simp only [Act.put, List.setIfInBounds_toArray, List.set_cons_zero, List.set_cons_succ])
      refine wpAnyH_ready (rs := [8]) (by kernel_rfl) (by simp) ?_
      refine AllReadyH.cons rfl (fun K hK => ?_) AllReadyH.nil
      go_simp
      refine hK.out _ _ (U6.below (Below.refl _ _) (Nat.le_refl _)) (fun _ => ?_)
      clear hK K
      (try simp only [Act.put, List.setIfInBounds_toArray, List.set_cons_zero, List.set_cons_succ])
      refine wpAnyH_ready (rs := [9]) (by kernel_rfl) (by simp) ?_
      refine AllReadyH.cons rfl (fun K hK => ?_) AllReadyH.nil
      go_simp
      refine hK.out _ _ (U6.below (Below.refl _ _) (Nat.le_refl _)) (fun _ => ?_)
      clear hK K
      (try simp only [Act.put, List.setIfInBounds_toArray, List.set_cons_zero, List.set_cons_succ])
      refine wpAnyH_done (by kernel_rfl) ?_ _
      go_wp2_with fail
      refine bodyPost_ret (res_cell_tmp2 rfl rfl rfl rfl B6 Try.underlying39 rfl HIX.out) rfl ⟨rfl, ?_⟩
      exact U6.below HBX (by omega)

set_option maxRecDepth 100000 in
set_option maxHeartbeats 4000000 in
theorem fin_tab (g : Nat) (size : Nat) (rest : List Int) (e : Int) (X : Array Value) (enc : Bool) (w : World) (h : Rdr lo w g rest e) (hX : X.size = 34) (hX1 : ∀ v ∈ X, v.oneCell' = true) (hs : rest.length ≤ size) (hs1 : size ≤ 100000000) :
    Calls Try.prog 108 #[.agg #[.pointer (some ⟨g, 0, none⟩), .int .i64 size], .agg X, .bool enc] w (Fin w (finX e enc X (flatP (zTb.parts))) (finU e enc ((size : Int) - rest.length)) (finE e enc)) := by
  obtain ⟨L, rfl⟩ : ∃ L : List Value, X = L.toArray := ⟨X.toList, by simp⟩
  obtain ⟨Z, hZ⟩ : ∃ Z, Z = flatP (zTb.parts) := ⟨_, rfl⟩
  have hsz : Z.size = 34 := by rw [hZ]; rfl
  obtain ⟨hzz, hst⟩ := zero_array (P := Try.prog) (t := 42) (n := 34) Z (by rw [hZ]; kernel_rfl) hsz (by rw [hZ]; kernel_rfl)
  have HZ1 : Hid (∀ v ∈ Z, v.oneCell' = true) := fun v hv => (Array.all_eq_true_iff_forall_mem.1 (show Z.all (·.oneCell') = true by rw [hZ]; kernel_rfl)) v hv
  rw [← hZ]
  clear hZ
  have hba := (((Below.refl w.heap.size w).alloc (Nat.le_refl _) (.cells #[.pointer (some ⟨g, 0, none⟩), .int .i64 size] 141)).alloc (by simp) (.cells L.toArray 42)).alloc (by simp; omega) (.cells Z 42)
  have hR0 := h.below hba
  have DE := Lib.hid (err_any g rest e _ hR0)
  have HR0 := Lib.hid hR0; clear hR0 h
  have B0 : Hid (Blk (((w.alloc (.cells #[.pointer (some ⟨g, 0, none⟩), .int .i64 size] 141)).alloc (.cells L.toArray 42)).alloc (.cells Z 42)) w.heap.size #[.pointer (some ⟨g, 0, none⟩), .int .i64 size]) := ((Blk.new rfl).alloc _).alloc _
  have B1 : Hid (Blk (((w.alloc (.cells #[.pointer (some ⟨g, 0, none⟩), .int .i64 size] 141)).alloc (.cells L.toArray 42)).alloc (.cells Z 42)) (w.heap.size + 1) L.toArray) := (Blk.new (by simp)).alloc _
  have B2 : Hid (Blk (((w.alloc (.cells #[.pointer (some ⟨g, 0, none⟩), .int .i64 size] 141)).alloc (.cells L.toArray 42)).alloc (.cells Z 42)) (w.heap.size + 2) Z) := Blk.new (by simp)
  have HBA := Lib.hid hba; clear hba
  have hiX : (Try.prog.info? 42).map (·.size) = some L.toArray.size := by rw [hX]; kernel_rfl
  have HIX := Lib.hid hiX
  have HIZ : Hid ((Try.prog.info? 42).map (·.size) = some Z.size) := by show _ = _; rw [hsz]; kernel_rfl
  unfold finX finU finE
  clear hiX
  by_cases he : e = 0
  case neg =>
    have hne : (e != 0) = true := by simpa using he
    have heq : (e == 0) = false := by simpa using he
    simp only [ne_eq, he, not_false_eq_true, if_true, if_false]
    clear he
    have B4 : Hid (Blk ((((w.alloc (.cells #[.pointer (some ⟨g, 0, none⟩), .int .i64 size] 141)).alloc (.cells L.toArray 42)).alloc (.cells Z 42)).alloc (.cells Z 42)) (w.heap.size + 3) Z) := Blk.new (by simp)
    have B5 := Lib.hid (B2.out.alloc (.cells Z 42))
    go_enter Try.func108, Try.ntmps108
    go_wp2_with (first
      | (go_at_call 78; refine DE.out.mono ?_; rintro en w1 ⟨rfl, rfl⟩)
      | ((with_reducible refine at_load (.tmp 10) ?_); refine wpList_load_g 42 (.tmp 10) rfl (w.heap.size + 3) rfl Z _ B4.out Try.underlying42 rfl HIZ.out rfl ?_)
      | ((with_reducible refine at_store (.tmp 6) ?_); refine wpList_store_blk rfl 42 (.tmp 6) _ rfl (w.heap.size + 2) Z rfl rfl Z B5.out rfl HIZ.out HZ1.out ?_; intro w6 U6 B6))
    refine bodyPost_ret (res_cell_tmp2 rfl rfl rfl rfl B6 Try.underlying42 rfl HIZ.out) rfl ⟨rfl, ?_⟩
    exact U6.below (HBA.out.alloc (by simp; omega) _) (by omega)
  case pos =>
    subst he
    simp only [ne_eq, not_true_eq_false, if_false]
    cases enc
    case false =>
      simp only [Bool.false_eq_true, if_false, show ((2 : Int) = 0) = False by simp]
      have B4 : Hid (Blk ((((w.alloc (.cells #[.pointer (some ⟨g, 0, none⟩), .int .i64 size] 141)).alloc (.cells L.toArray 42)).alloc (.cells Z 42)).alloc (.cells Z 42)) (w.heap.size + 3) Z) := Blk.new (by simp)
      have B5 := Lib.hid (B2.out.alloc (.cells Z 42))
      go_enter Try.func108, Try.ntmps108
      go_wp2_with (first
        | (go_at_call 78; refine DE.out.mono ?_; rintro en w1 ⟨rfl, rfl⟩)
        | ((with_reducible refine at_load (.tmp 10) ?_); refine wpList_load_g 42 (.tmp 10) rfl (w.heap.size + 3) rfl Z _ B4.out Try.underlying42 rfl HIZ.out rfl ?_)
        | ((with_reducible refine at_store (.tmp 6) ?_); refine wpList_store_blk rfl 42 (.tmp 6) _ rfl (w.heap.size + 2) Z rfl rfl Z B5.out rfl HIZ.out HZ1.out ?_; intro w6 U6 B6))
      refine bodyPost_ret (res_cell_tmp2 rfl rfl rfl rfl B6 Try.underlying42 rfl HIZ.out) rfl ⟨rfl, ?_⟩
      exact U6.below (HBA.out.alloc (by simp; omega) _) (by omega)
    case true =>
      simp only [if_true]
      go_enter Try.func108, Try.ntmps108
      go_wp2_with (go_at_call 78; refine DE.out.mono ?_; rintro en w1 ⟨rfl, rfl⟩)
      clear DE hzz hst
      obtain ⟨u, hu⟩ : ∃ u, (((w.alloc (.cells #[.pointer (some ⟨g, 0, none⟩), .int .i64 size] 141)).alloc (.cells L.toArray 42)).alloc (.cells Z 42)) = u := ⟨_, rfl⟩
      rw [hu] at B0 B1 B2 HR0 HBA ⊢
      clear hu
      have HX := HR0.out.drew
      have HBX := Below.drewN (n := 1) HBA.out
      change Below w.heap.size w u.drew at HBX
      have b0 : Blk u.drew w.heap.size #[.pointer (some ⟨g, 0, none⟩), .int .i64 size] := B0.out
      have b1 : Blk u.drew (w.heap.size + 1) L.toArray := B1.out
      have b2 : Blk u.drew (w.heap.size + 2) Z := B2.out
      obtain ⟨x, hx⟩ : ∃ x, u.drew = x := ⟨_, rfl⟩
      rw [hx] at HX HBX b0 b1 b2
      refine wp_region_held_drew (S := fun u' => Below (w.heap.size + 2) x u') (by kernel_rfl) (by rw [hx]; exact Below.refl _ _) (fun _ => ?_)
      rw [hx]
      clear hx
      have r1 : x.rangeAt (w.heap.size + 1) 0 L := by simpa using b1.range
      have k0 := b0.cell 0
      have k1 := b0.cell 1
      have hsub : IntKind.i64.wrap ((size : Int) - (rest.length : Nat)) = (size : Int) - (rest.length : Nat) := IntWalk.i64_in _ (by omega)
      have HSUB := Lib.hid hsub; clear hsub
      (try simp only [Act.put, List.setIfInBounds_toArray, List.set_cons_zero, List.set_cons_succ])
      refine held_load 0 rfl (by kernel_rfl) (by kernel_rfl) (by kernel_rfl) (fun _ _ _ _ h => h) rfl 42 (.tmp 4) rfl (w.heap.size + 1) 0 rfl L _ (fun u' hu => Below.rng hu (by omega) r1) Try.underlying42 rfl (by simpa using HIX.out) (Below.refl _ _) ?_
      (try simp only [Act.put, List.setIfInBounds_toArray, List.set_cons_zero, List.set_cons_succ])
      refine wpAnyH_take (i := 1) (v := .pointer (some ⟨w.heap.size, 1, none⟩)) rfl (by kernel_rfl) (by kernel_rfl) (by kernel_rfl) (fun _ _ _ h => h) (Or.inl ⟨by rfl, fun wz hz => ?_⟩) (Below.refl _ _) ?_
      · go_simp
      (try simp only [Act.put, List.setIfInBounds_toArray, List.set_cons_zero, List.set_cons_succ])
      refine held_load1 2 rfl (by kernel_rfl) (by kernel_rfl) (by kernel_rfl) (fun _ _ _ _ h => h) rfl 3 (.tmp 25) rfl w.heap.size 1 rfl _ _ (fun u' hu => (hu.cell (p := ⟨w.heap.size, 1, none⟩) (by simp only; omega)).trans k1) Try.underlying3 rfl (Below.refl _ _) ?_
      (try simp only [Act.put, List.setIfInBounds_toArray, List.set_cons_zero, List.set_cons_succ])
      refine wpAnyH_take (i := 3) (v := .pointer (some ⟨w.heap.size, 0, none⟩)) rfl (by kernel_rfl) (by kernel_rfl) (by kernel_rfl) (fun _ _ _ h => h) (Or.inl ⟨by rfl, fun wz hz => ?_⟩) (Below.refl _ _) ?_
      · go_simp
      (try simp only [Act.put, List.setIfInBounds_toArray, List.set_cons_zero, List.set_cons_succ])
      refine held_load1 4 rfl (by kernel_rfl) (by kernel_rfl) (by kernel_rfl) (fun _ _ _ _ h => h) rfl 119 (.tmp 27) rfl w.heap.size 0 rfl _ _ (fun u' hu => (hu.cell (p := ⟨w.heap.size, 0, none⟩) (by simp only; omega)).trans k0) Try.underlying119 rfl (Below.refl _ _) ?_
      (try simp only [Act.put, List.setIfInBounds_toArray, List.set_cons_zero, List.set_cons_succ])
      refine wpAnyH_ready (rs := [5]) (by kernel_rfl) (by simp) ?_
      refine AllReadyH.cons rfl (fun K hK => ?_) AllReadyH.nil
      go_simp
      refine (rest_any g rest 0 _ HX).mono ?_
      rintro e wa ⟨rfl, rfl⟩
      refine hK.out _ _ (Below.refl _ _) (fun _ => ?_)
      clear hK K
      (try simp only [Act.put, List.setIfInBounds_toArray, List.set_cons_zero, List.set_cons_succ])
      refine wpAnyH_take (i := 6) (v := .int .i64 ((size : Int) - (rest.length : Nat))) rfl (by kernel_rfl) (by kernel_rfl) (by kernel_rfl) (fun _ _ _ h => h) (Or.inl ⟨by rfl, fun wz hz => ?_⟩) (Below.refl _ _) ?_
      · have hsub := HSUB.out
        go_simp
      (try simp only [Act.put, List.setIfInBounds_toArray, List.set_cons_zero, List.set_cons_succ])
      refine wpAnyH_ready (rs := [7]) (by kernel_rfl) (by simp) ?_
      refine AllReadyH.cons rfl (fun K hK => ?_) AllReadyH.nil
      rw [if_pos (by rfl)]
      refine wp_store_blk 42 (.tmp 6) (.tmp 24) rfl (w.heap.size + 2) L.toArray rfl rfl Z b2 (by rw [hsz, hX]) HIX.out hX1 ?_
      intro w6 U6 B6
      refine hK.out _ _ (U6.below (Below.refl _ _) (Nat.le_refl _)) (fun _ => ?_)
      clear hK K
      (try simp only [Act.put, List.setIfInBounds_toArray, List.set_cons_zero, List.set_cons_succ])
      refine wpAnyH_ready (rs := [8]) (by kernel_rfl) (by simp) ?_
      refine AllReadyH.cons rfl (fun K hK => ?_) AllReadyH.nil
      go_simp
      refine hK.out _ _ (U6.below (Below.refl _ _) (Nat.le_refl _)) (fun _ => ?_)
      clear hK K
      (try simp only [Act.put, List.setIfInBounds_toArray, List.set_cons_zero, List.set_cons_succ])
      refine wpAnyH_ready (rs := [9]) (by kernel_rfl) (by simp) ?_
      refine AllReadyH.cons rfl (fun K hK => ?_) AllReadyH.nil
      go_simp
      refine hK.out _ _ (U6.below (Below.refl _ _) (Nat.le_refl _)) (fun _ => ?_)
      clear hK K
      (try simp only [Act.put, List.setIfInBounds_toArray, List.set_cons_zero, List.set_cons_succ])
      refine wpAnyH_done (by kernel_rfl) ?_ _
      go_wp2_with fail
      refine bodyPost_ret (res_cell_tmp2 rfl rfl rfl rfl B6 Try.underlying42 rfl HIX.out) rfl ⟨rfl, ?_⟩
      exact U6.below HBX (by omega)

set_option maxRecDepth 100000 in
set_option maxHeartbeats 4000000 in
theorem fin_ver (g : Nat) (size : Nat) (rest : List Int) (e : Int) (X : Array Value) (enc : Bool) (w : World) (h : Rdr lo w g rest e) (hX : X.size = 34) (hX1 : ∀ v ∈ X, v.oneCell' = true) (hs : rest.length ≤ size) (hs1 : size ≤ 100000000) :
    Calls Try.prog 109 #[.agg #[.pointer (some ⟨g, 0, none⟩), .int .i64 size], .agg X, .bool enc] w (Fin w (finX e enc X (flatP (zVd.parts))) (finU e enc ((size : Int) - rest.length)) (finE e enc)) := by
  obtain ⟨L, rfl⟩ : ∃ L : List Value, X = L.toArray := ⟨X.toList, by simp⟩
  obtain ⟨Z, hZ⟩ : ∃ Z, Z = flatP (zVd.parts) := ⟨_, rfl⟩
  have hsz : Z.size = 34 := by rw [hZ]; rfl
  obtain ⟨hzz, hst⟩ := zero_array (P := Try.prog) (t := 46) (n := 34) Z (by rw [hZ]; kernel_rfl) hsz (by rw [hZ]; kernel_rfl)
  have HZ1 : Hid (∀ v ∈ Z, v.oneCell' = true) := fun v hv => (Array.all_eq_true_iff_forall_mem.1 (show Z.all (·.oneCell') = true by rw [hZ]; kernel_rfl)) v hv
  rw [← hZ]
  clear hZ
  have hba := (((Below.refl w.heap.size w).alloc (Nat.le_refl _) (.cells #[.pointer (some ⟨g, 0, none⟩), .int .i64 size] 141)).alloc (by simp) (.cells L.toArray 46)).alloc (by simp; omega) (.cells Z 46)
  have hR0 := h.below hba
  have DE := Lib.hid (err_any g rest e _ hR0)
  have HR0 := Lib.hid hR0; clear hR0 h
  have B0 : Hid (Blk (((w.alloc (.cells #[.pointer (some ⟨g, 0, none⟩), .int .i64 size] 141)).alloc (.cells L.toArray 46)).alloc (.cells Z 46)) w.heap.size #[.pointer (some ⟨g, 0, none⟩), .int .i64 size]) := ((Blk.new rfl).alloc _).alloc _
  have B1 : Hid (Blk (((w.alloc (.cells #[.pointer (some ⟨g, 0, none⟩), .int .i64 size] 141)).alloc (.cells L.toArray 46)).alloc (.cells Z 46)) (w.heap.size + 1) L.toArray) := (Blk.new (by simp)).alloc _
  have B2 : Hid (Blk (((w.alloc (.cells #[.pointer (some ⟨g, 0, none⟩), .int .i64 size] 141)).alloc (.cells L.toArray 46)).alloc (.cells Z 46)) (w.heap.size + 2) Z) := Blk.new (by simp)
  have HBA := Lib.hid hba; clear hba
  have hiX : (Try.prog.info? 46).map (·.size) = some L.toArray.size := by rw [hX]; kernel_rfl
  have HIX := Lib.hid hiX
  have HIZ : Hid ((Try.prog.info? 46).map (·.size) = some Z.size) := by show _ = _; rw [hsz]; kernel_rfl
  unfold finX finU finE
  clear hiX
  by_cases he : e = 0
  case neg =>
    have hne : (e != 0) = true := by simpa using he
    have heq : (e == 0) = false := by simpa using he
    simp only [ne_eq, he, not_false_eq_true, if_true, if_false]
    clear he
    have B4 : Hid (Blk ((((w.alloc (.cells #[.pointer (some ⟨g, 0, none⟩), .int .i64 size] 141)).alloc (.cells L.toArray 46)).alloc (.cells Z 46)).alloc (.cells Z 46)) (w.heap.size + 3) Z) := Blk.new (by simp)
    have B5 := Lib.hid (B2.out.alloc (.cells Z 46))
    go_enter Try.func109, Try.ntmps109
    go_wp2_with (first
      | (go_at_call 78; refine DE.out.mono ?_; rintro en w1 ⟨rfl, rfl⟩)
      | ((with_reducible refine at_load (.tmp 10) ?_); refine wpList_load_g 46 (.tmp 10) rfl (w.heap.size + 3) rfl Z _ B4.out Try.underlying46 rfl HIZ.out rfl ?_)
      | ((with_reducible refine at_store (.tmp 6) ?_); refine wpList_store_blk rfl 46 (.tmp 6) _ rfl (w.heap.size + 2) Z rfl rfl Z B5.out rfl HIZ.out HZ1.out ?_; intro w6 U6 B6))
    refine bodyPost_ret (res_cell_tmp2 rfl rfl rfl rfl B6 Try.underlying46 rfl HIZ.out) rfl ⟨rfl, ?_⟩
    exact U6.below (HBA.out.alloc (by simp; omega) _) (by omega)
  case pos =>
    subst he
    simp only [ne_eq, not_true_eq_false, if_false]
    cases enc
    case false =>
      simp only [Bool.false_eq_true, if_false, show ((2 : Int) = 0) = False by simp]
      have B4 : Hid (Blk ((((w.alloc (.cells #[.pointer (some ⟨g, 0, none⟩), .int .i64 size] 141)).alloc (.cells L.toArray 46)).alloc (.cells Z 46)).alloc (.cells Z 46)) (w.heap.size + 3) Z) := Blk.new (by simp)
      have B5 := Lib.hid (B2.out.alloc (.cells Z 46))
      go_enter Try.func109, Try.ntmps109
      go_wp2_with (first
        | (go_at_call 78; refine DE.out.mono ?_; rintro en w1 ⟨rfl, rfl⟩)
        | ((with_reducible refine at_load (.tmp 10) ?_); refine wpList_load_g 46 (.tmp 10) rfl (w.heap.size + 3) rfl Z _ B4.out Try.underlying46 rfl HIZ.out rfl ?_)
        | ((with_reducible refine at_store (.tmp 6) ?_); refine wpList_store_blk rfl 46 (.tmp 6) _ rfl (w.heap.size + 2) Z rfl rfl Z B5.out rfl HIZ.out HZ1.out ?_; intro w6 U6 B6))
      refine bodyPost_ret (res_cell_tmp2 rfl rfl rfl rfl B6 Try.underlying46 rfl HIZ.out) rfl ⟨rfl, ?_⟩
      exact U6.below (HBA.out.alloc (by simp; omega) _) (by omega)
    case true =>
      simp only [if_true]
      go_enter Try.func109, Try.ntmps109
      go_wp2_with (go_at_call 78; refine DE.out.mono ?_; rintro en w1 ⟨rfl, rfl⟩)
      clear DE hzz hst
      obtain ⟨u, hu⟩ : ∃ u, (((w.alloc (.cells #[.pointer (some ⟨g, 0, none⟩), .int .i64 size] 141)).alloc (.cells L.toArray 46)).alloc (.cells Z 46)) = u := ⟨_, rfl⟩
      rw [hu] at B0 B1 B2 HR0 HBA ⊢
      clear hu
      have HX := HR0.out.drew
      have HBX := Below.drewN (n := 1) HBA.out
      change Below w.heap.size w u.drew at HBX
      have b0 : Blk u.drew w.heap.size #[.pointer (some ⟨g, 0, none⟩), .int .i64 size] := B0.out
      have b1 : Blk u.drew (w.heap.size + 1) L.toArray := B1.out
      have b2 : Blk u.drew (w.heap.size + 2) Z := B2.out
      obtain ⟨x, hx⟩ : ∃ x, u.drew = x := ⟨_, rfl⟩
      rw [hx] at HX HBX b0 b1 b2
      refine wp_region_held_drew (S := fun u' => Below (w.heap.size + 2) x u') (by kernel_rfl) (by rw [hx]; exact Below.refl _ _) (fun _ => ?_)
      rw [hx]
      clear hx
      have r1 : x.rangeAt (w.heap.size + 1) 0 L := by simpa using b1.range
      have k0 := b0.cell 0
      have k1 := b0.cell 1
      have hsub : IntKind.i64.wrap ((size : Int) - (rest.length : Nat)) = (size : Int) - (rest.length : Nat) := IntWalk.i64_in _ (by omega)
      have HSUB := Lib.hid hsub; clear hsub
      (try simp only [Act.put, List.setIfInBounds_toArray, List.set_cons_zero, List.set_cons_succ])
      refine held_load 0 rfl (by kernel_rfl) (by kernel_rfl) (by kernel_rfl) (fun _ _ _ _ h => h) rfl 46 (.tmp 4) rfl (w.heap.size + 1) 0 rfl L _ (fun u' hu => Below.rng hu (by omega) r1) Try.underlying46 rfl (by simpa using HIX.out) (Below.refl _ _) ?_
      (try simp only [Act.put, List.setIfInBounds_toArray, List.set_cons_zero, List.set_cons_succ])
      refine wpAnyH_take (i := 1) (v := .pointer (some ⟨w.heap.size, 1, none⟩)) rfl (by kernel_rfl) (by kernel_rfl) (by kernel_rfl) (fun _ _ _ h => h) (Or.inl ⟨by rfl, fun wz hz => ?_⟩) (Below.refl _ _) ?_
      · go_simp
      (try simp only [Act.put, List.setIfInBounds_toArray, List.set_cons_zero, List.set_cons_succ])
      refine held_load1 2 rfl (by kernel_rfl) (by kernel_rfl) (by kernel_rfl) (fun _ _ _ _ h => h) rfl 3 (.tmp 25) rfl w.heap.size 1 rfl _ _ (fun u' hu => (hu.cell (p := ⟨w.heap.size, 1, none⟩) (by simp only; omega)).trans k1) Try.underlying3 rfl (Below.refl _ _) ?_
      (try simp only [Act.put, List.setIfInBounds_toArray, List.set_cons_zero, List.set_cons_succ])
      refine wpAnyH_take (i := 3) (v := .pointer (some ⟨w.heap.size, 0, none⟩)) rfl (by kernel_rfl) (by kernel_rfl) (by kernel_rfl) (fun _ _ _ h => h) (Or.inl ⟨by rfl, fun wz hz => ?_⟩) (Below.refl _ _) ?_
      · go_simp
      (try simp only [Act.put, List.setIfInBounds_toArray, List.set_cons_zero, List.set_cons_succ])
      refine held_load1 4 rfl (by kernel_rfl) (by kernel_rfl) (by kernel_rfl) (fun _ _ _ _ h => h) rfl 119 (.tmp 27) rfl w.heap.size 0 rfl _ _ (fun u' hu => (hu.cell (p := ⟨w.heap.size, 0, none⟩) (by simp only; omega)).trans k0) Try.underlying119 rfl (Below.refl _ _) ?_
      (try simp only [Act.put, List.setIfInBounds_toArray, List.set_cons_zero, List.set_cons_succ])
      refine wpAnyH_ready (rs := [5]) (by kernel_rfl) (by simp) ?_
      refine AllReadyH.cons rfl (fun K hK => ?_) AllReadyH.nil
      go_simp
      refine (rest_any g rest 0 _ HX).mono ?_
      rintro e wa ⟨rfl, rfl⟩
      refine hK.out _ _ (Below.refl _ _) (fun _ => ?_)
      clear hK K
      (try simp only [Act.put, List.setIfInBounds_toArray, List.set_cons_zero, List.set_cons_succ])
      refine wpAnyH_take (i := 6) (v := .int .i64 ((size : Int) - (rest.length : Nat))) rfl (by kernel_rfl) (by kernel_rfl) (by kernel_rfl) (fun _ _ _ h => h) (Or.inl ⟨by rfl, fun wz hz => ?_⟩) (Below.refl _ _) ?_
      · have hsub := HSUB.out
        go_simp
      (try simp only [Act.put, List.setIfInBounds_toArray, List.set_cons_zero, List.set_cons_succ])
      refine wpAnyH_ready (rs := [7]) (by kernel_rfl) (by simp) ?_
      refine AllReadyH.cons rfl (fun K hK => ?_) AllReadyH.nil
      rw [if_pos (by rfl)]
      refine wp_store_blk 46 (.tmp 6) (.tmp 24) rfl (w.heap.size + 2) L.toArray rfl rfl Z b2 (by rw [hsz, hX]) HIX.out hX1 ?_
      intro w6 U6 B6
      refine hK.out _ _ (U6.below (Below.refl _ _) (Nat.le_refl _)) (fun _ => ?_)
      clear hK K
      (try simp only [Act.put, List.setIfInBounds_toArray, List.set_cons_zero, List.set_cons_succ])
      refine wpAnyH_ready (rs := [8]) (by kernel_rfl) (by simp) ?_
      refine AllReadyH.cons rfl (fun K hK => ?_) AllReadyH.nil
      go_simp
      refine hK.out _ _ (U6.below (Below.refl _ _) (Nat.le_refl _)) (fun _ => ?_)
      clear hK K
      (try simp only [Act.put, List.setIfInBounds_toArray, List.set_cons_zero, List.set_cons_succ])
      refine wpAnyH_ready (rs := [9]) (by kernel_rfl) (by simp) ?_
      refine AllReadyH.cons rfl (fun K hK => ?_) AllReadyH.nil
      go_simp
      refine hK.out _ _ (U6.below (Below.refl _ _) (Nat.le_refl _)) (fun _ => ?_)
      clear hK K
      (try simp only [Act.put, List.setIfInBounds_toArray, List.set_cons_zero, List.set_cons_succ])
      refine wpAnyH_done (by kernel_rfl) ?_ _
      go_wp2_with fail
      refine bodyPost_ret (res_cell_tmp2 rfl rfl rfl rfl B6 Try.underlying46 rfl HIX.out) rfl ⟨rfl, ?_⟩
      exact U6.below HBX (by omega)
end

/-! RcS -/
section
set_option linter.unusedVariables false
open Go.RowKit

theorem offP_lens {ps : List (List Value)} {ls : List Nat} (h : ps.map List.length = ls) (k : Nat) : offP ps k = (ls.take k).sum := by
  subst h
  unfold offP
  rw [List.length_flatten, List.map_take]

/-- Block g holds the reader (its bytes from block lo on), block gr the variable of type reader, block hx the record, whose parts have these lengths; since w0 only g and new blocks have changed. -/
structure DS (lo g gr hx : Nat) (size : Int) (ls : List Nat) (w0 w : World) (ps : List (List Value)) (s : RS) : Prop where
  rd : Rdr lo w g s.r s.e
  rv : Blk w gr #[.pointer (some ⟨g, 0, none⟩), .int .i64 size]
  xv : Blk w hx (flatP ps)
  len : ps.map List.length = ls
  gro : w0.grownBy w (some g)
  hx0 : w0.heap.size ≤ hx
  gr0 : w0.heap.size ≤ gr
  xg : hx ≠ g
  xr : hx ≠ gr
  rg : gr ≠ g
  sep : hx < lo ∨ g < hx

section
variable {lo g gr hx : Nat} {size : Int} {ls : List Nat} {w0 w w' : World} {ps : List (List Value)} {s : RS}

theorem DS.read (h : DS lo g gr hx size ls w0 w ps s) {s' : RS} (hr : Rdr lo w' g s'.r s'.e) (hg : w.grownBy w' (some g)) : DS lo g gr hx size ls w0 w' ps s' :=
  ⟨hr, h.rv.grown hg (by simpa using h.rg), h.xv.grown hg (by simpa using h.xg), h.len, h.gro.trans hg, h.hx0, h.gr0, h.xg, h.xr, h.rg, h.sep⟩

theorem DS.below (h : DS lo g gr hx size ls w0 w ps s) (hb : Below w.heap.size w w') : DS lo g gr hx size ls w0 w' ps s :=
  ⟨h.rd.below hb, h.rv.call hb, h.xv.call hb, h.len, h.gro.trans (grownBy_of_below hb), h.hx0, h.gr0, h.xg, h.xr, h.rg, h.sep⟩

theorem DS.put (h : DS lo g gr hx size ls w0 w ps s) {ps' : List (List Value)} (hU : Upd hx w w') (hB : Blk w' hx (flatP ps')) (hl : ps'.map List.length = ls) : DS lo g gr hx size ls w0 w' ps' s :=
  ⟨h.sep.elim (fun h1 => h.rd.upd hU h1 h.xg) (fun h1 => h.rd.updHi hU h1), hU.blk h.rv h.xr.symm, hB, hl, grownBy_keep h.gro hU h.hx0, h.hx0, h.gr0, h.xg, h.xr, h.rg, h.sep⟩

theorem set_lens {k : Nat} {q : List Value} (h : ps.map List.length = ls) (hk : ls[k]? = some q.length) : (ps.set k q).map List.length = ls := by
  subst h
  rw [List.map_set]
  obtain ⟨hk1, hk2⟩ := List.getElem?_eq_some_iff.1 hk
  rw [← hk2, List.set_getElem_self]

theorem DS.partLen (h : DS lo g gr hx size ls w0 w ps s) {k n : Nat} (hk : ls[k]? = some n) : ∃ p, ps[k]? = some p ∧ p.length = n := by
  have := h.len
  subst this
  rw [List.getElem?_map] at hk
  cases hp : ps[k]? with
  | none => rw [hp] at hk; cases hk
  | some p => rw [hp] at hk; exact ⟨p, rfl, by simpa using hk⟩

/-- A part that is an array or a struct is stored. -/
theorem wpList_store_ds {P : Program} {ops : Array Oper} {rest : List Oper} {op : Oper} {a : Act} {Q : Exit → Act → World → Prop} (hgd : op.guard = none) (ty : TypeId) (x y : Operand) (ho : op.op = .store ty x y)
    (h : DS lo g gr hx size ls w0 w ps s) (k o : Nat) (q : List Value) (hk : ls[k]? = some q.length) (hof : (ls.take k).sum = o) (hx' : a.eval x = .pointer (some ⟨hx, o, none⟩)) (hy : a.eval y = .agg q.toArray)
    (hi : (P.info? ty).map (·.size) = some q.length) (h1 : ∀ v ∈ q, v.oneCell' = true)
    (hK : ∀ w', Upd hx w w' → DS lo g gr hx size ls w0 w' (ps.set k q) s → wpList P ops Q rest (a.put op.dst undef) w') : wpList P ops Q (op :: rest) a w := by
  obtain ⟨p, hp, hpl⟩ := h.partLen hk
  refine wpList_store_part hgd ty x y ho hx ps k p q h.xv hp (by rw [offP_lens h.len, hof]; exact hx') hy hpl.symm hi h1 fun w' hU hB => hK w' hU (h.put hU hB (set_lens h.len hk))

/-- A part of one cell is stored. -/
theorem wpList_store_ds1 {P : Program} {ops : Array Oper} {rest : List Oper} {op : Oper} {a : Act} {Q : Exit → Act → World → Prop} (hgd : op.guard = none) (ty : TypeId) (x y : Operand) (ho : op.op = .store ty x y)
    (h : DS lo g gr hx size ls w0 w ps s) (k o : Nat) (u : Value) (hk : ls[k]? = some 1) (hof : (ls.take k).sum = o) (hx' : a.eval x = .pointer (some ⟨hx, o, none⟩)) (hy : a.eval y = u)
    (hi : (P.info? ty).map (·.size) = some 1) (hu : u.cells = #[u]) (h1 : u.oneCell' = true)
    (hK : ∀ w', Upd hx w w' → DS lo g gr hx size ls w0 w' (ps.set k [u]) s → wpList P ops Q rest (a.put op.dst undef) w') : wpList P ops Q (op :: rest) a w := by
  obtain ⟨p, hp, hpl⟩ := h.partLen hk
  obtain ⟨v, rfl⟩ := List.length_eq_one_iff.1 hpl
  refine wpList_store_part1 hgd ty x y ho hx ps k v u h.xv hp (by rw [offP_lens h.len, hof]; exact hx') hy hi hu h1 fun w' hU hB => hK w' hU (h.put hU hB (set_lens h.len hk))

/-- A part as it lies in memory. -/
theorem DS.cell1 (h : DS lo g gr hx size ls w0 w ps s) (k o : Nat) {v : Value} (hk : ps[k]? = some [v]) (hof : (ls.take k).sum = o) : w.cell? ⟨hx, o, none⟩ = some v := by
  have := h.xv.part1 hk
  rwa [offP_lens h.len, hof] at this

/-- The beginning: x is made, the reader comes, its variable is made. -/
theorem DS.start {T : TypeId} {w1 w2 : World} {bs : List Int} {t' : TypeId} (hr : Rdr (w0.heap.size + 1) w1 g bs 0) (hg : w0.heap.size + 1 < g) (hb : Below (w0.heap.size + 1) (w0.alloc (.cells (flatP ps) T)) w1) (hl : ps.map List.length = ls)
    (hU : Upd w1.heap.size (w1.alloc (.cells #[.pointer none, .int .i64 0] t')) w2) (hB : Blk w2 w1.heap.size #[.pointer (some ⟨g, 0, none⟩), .int .i64 size]) : DS (w0.heap.size + 1) g w1.heap.size w0.heap.size size ls w0 w2 ps ⟨bs, 0⟩ := by
  have hglt := hr.lt
  have hs := hb.size
  have hs0 : (w0.alloc (.cells (flatP ps) T)).heap.size = w0.heap.size + 1 := by simp
  have x0 : Blk (w0.alloc (.cells (flatP ps) T)) w0.heap.size (flatP ps) := Blk.new rfl
  have x1 := x0.below hb (by omega)
  have ha : Below w1.heap.size w1 w2 := hU.below ((Below.refl _ w1).alloc (Nat.le_refl _) _) (Nat.le_refl _)
  have hb0 : Below w0.heap.size w0 w1 := ((Below.refl _ w0).alloc (Nat.le_refl _) _).trans (hb.mono (by omega))
  exact ⟨hr.below ha, hB, x1.call ha, hl, grownBy_of_below (hb0.trans (ha.mono (by omega))), Nat.le_refl _, by omega, by omega, by omega, by omega, .inl (by omega)⟩

theorem DS.bel (h : DS lo g gr hx size ls w0 w ps s) (hg : w0.heap.size ≤ g) : Below w0.heap.size w0 w := grownBy_below h.gro hg (Nat.le_refl _)
end

theorem Ints.upd {k : IntKind} {w w' : World} {v : Value} {l : List Int} {b : Nat} (h : Ints k w v l) (hU : Upd b w w') (hne : ∀ x a c, v = .slice (some x) a c → x.block ≠ b) : Ints k w' v l := by
  obtain ⟨a, len, cap, rfl, hl, hm, hr⟩ := h
  refine ⟨a, len, cap, rfl, hl, hm, ?_⟩
  rcases hr with h0 | ⟨d, off, rfl, hlt, hc⟩
  · exact .inl h0
  · have hd := hne _ _ _ rfl
    refine .inr ⟨d, off, rfl, by rw [hU.size]; exact hlt, fun i hi => ?_⟩
    rw [show w'.cell? ⟨d, off + i, none⟩ = w.cell? ⟨d, off + i, none⟩ by simp only [World.cell?, hU.block d hd]]
    exact hc i hi

theorem Ints.grown {k : IntKind} {w w' : World} {v : Value} {l : List Int} {g : Nat} (h : Ints k w v l) (hg : w.grownBy w' (some g)) (hne : ∀ x a c, v = .slice (some x) a c → x.block ≠ g) : Ints k w' v l := by
  obtain ⟨a, len, cap, rfl, hl, hm, hr⟩ := h
  refine ⟨a, len, cap, rfl, hl, hm, ?_⟩
  rcases hr with h0 | ⟨d, off, rfl, hlt, hc⟩
  · exact .inl h0
  · have hd := hne _ _ _ rfl
    refine .inr ⟨d, off, rfl, Nat.lt_of_lt_of_le hlt hg.size, fun i hi => ?_⟩
    rw [hg.cell_far ⟨d, off + i, none⟩ hlt (by simpa using hd)]
    exact hc i hi
end

end Go.Proofs.Ytmnojgdfbhdkhaa
