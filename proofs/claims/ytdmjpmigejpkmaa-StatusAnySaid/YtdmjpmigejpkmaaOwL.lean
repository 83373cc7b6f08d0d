/- Rows of numbers of the call's own: several numbers are appended; parts of a slice of numbers. -/
import Derived.Test.YtdmjpmigejpkmaaOwK
set_option linter.unusedVariables false

set_option linter.unusedSimpArgs false
namespace Go.Proofs.Ytdmjpmigejpkmaa
open Go.RowKit

theorem oneK (k : IntKind) (m : List Int) : ∀ v ∈ m.map (Value.int k), v.oneCell' = true := by
  intro v hv
  obtain ⟨x, _, rfl⟩ := List.mem_map.1 hv
  rfl

/-- Several numbers are appended. -/
theorem run_appK {k : IntKind} {t e : TypeId} {bytes : Nat} (ty : TypeId) (hinfo : (Try.prog.info? e).map (fun i => (i.zero, i.size, i.bytes)) = some (some (.int k 0), 1, bytes)) (hby : bytes ≤ 8) (ht : Try.prog.underlying t = some (.slice e))
    (w : World) (B : Nat) (v : Value) (xs : List Int) (hown : OwnK k e w B v xs) (y : Value) (m : List Int) (hy : Ints k w y m) (h47 : xs.length + m.length ≤ 1000000000000) (hB : B ≤ w.heap.size) :
    ∃ v' w', (Builtin.append_ #[t, t] ty #[v, y]).run Try.prog w = .ok v' w' ∧ OwnK k e w' B v' (xs ++ m) ∧ w.grownBy w' v.ownBlock ∧ (v'.ownBlock = v.ownBlock ∨ v'.ownBlock = some w.heap.size) := by
  obtain ⟨i0, hi, hz0, hz1, hz2⟩ := info_parts hinfo
  obtain ⟨a, len, cap, rfl, hl, hm, hr⟩ := hy
  rcases a with _ | a
  · rcases hr with rfl | ⟨b, off, e, _⟩
    · obtain rfl : m = [] := List.eq_nil_of_length_eq_zero hl
      exact ⟨v, w, run_app_nil w t ty e i0 1 ht hi v _ _ hown cap, by simpa using hown, World.grownBy.rfl' _ _, .inl rfl⟩
    · cases e
  · have hcell : ∀ j u, (m.map (Value.int k))[j]? = some u → w.cell? (a.add j) = some u := by
      intro j u hj
      have hjl : j < m.length := by
        have := (List.getElem?_eq_some_iff.1 hj).1
        simpa using this
      rcases hr with h0 | ⟨b, off, e, _, hc⟩
      · omega
      · cases e
        rw [Go.WideShapes.add_plain, hc j (by omega)]
        rw [← hj]
        simp [List.getD, List.getElem?_eq_getElem hjl]
    obtain ⟨v', w', h1, h2, h3, _, h4⟩ := run_append_own_at (P := Try.prog) w B t ty e i0 (.int k 0) 1 bytes ht hi hz0 hz1 hz2 rfl (by decide) v xs.length _ hown a len cap (m.map (Value.int k)) (by simp [hl]) hcell (oneK k m) (by unfold maxLen; omega) (by have : (xs.length + len) * bytes ≤ (xs.length + len) * 8 := Nat.mul_le_mul_left _ hby; omega) hB
    refine ⟨v', w', h1, ?_, h3, h4⟩
    rw [← List.map_append] at h2
    show w'.ownsRow B e 1 v' (xs ++ m).length _
    rw [List.length_append, hl]; exact h2

theorem wpList_appK {k : IntKind} {t e : TypeId} {bytes : Nat} (hinfo : (Try.prog.info? e).map (fun i => (i.zero, i.size, i.bytes)) = some (some (.int k 0), 1, bytes)) (hby : bytes ≤ 8) (ht : Try.prog.underlying t = some (.slice e))
    {ops : Array Oper} {rest : List Oper} {o : Oper} {a : Act} {w : World} {Q : Exit → Act → World → Prop} (s x : Operand)
    (ho : o.op = .call { callee := .builtin .append, args := #[s, x], argTypes := #[t, t] }) (hw : Region.wanted o (yielded ops a.tmps) = true)
    (B : Nat) (v : Value) (xs : List Int) (hs : a.eval s = v) (hown : OwnK k e w B v xs) (y : Value) (m : List Int) (hx : a.eval x = y) (hy : Ints k w y m) (h47 : xs.length + m.length ≤ 1000000000000) (hB : B ≤ w.heap.size)
    (h : ∀ v' w', OwnK k e w' B v' (xs ++ m) → w.grownBy w' v.ownBlock → (v'.ownBlock = v.ownBlock ∨ v'.ownBlock = some w.heap.size) → wpList Try.prog ops Q rest (a.put o.dst v') w') : wpList Try.prog ops Q (o :: rest) a w :=
  BigFrame.wpList_want hw fun _ hK => by
    obtain ⟨v', w', h1, h2, h3, h4⟩ := run_appK o.type hinfo hby ht w B v xs hown y m hy h47 hB
    unfold Oper.wp execOp
    simp only [ho, resolve, invoke, builtin, Sem.run_bind, Sem.run_pure, Result.andThen_ok, List.map_toArray, List.map_cons, List.map_nil, hs, hx, h1]
    exact hK _ _ (h v' w' h2 h3 h4)

/-- The same, carried out in a region that draws its order. -/
theorem wp_appK {k : IntKind} {t e : TypeId} {bytes : Nat} (hinfo : (Try.prog.info? e).map (fun i => (i.zero, i.size, i.bytes)) = some (some (.int k 0), 1, bytes)) (hby : bytes ≤ 8) (ht : Try.prog.underlying t = some (.slice e))
    {o : Oper} {a : Act} {w : World} {K : Act → World → Prop} {Q : Exit → Act → World → Prop} (s x : Operand)
    (ho : o.op = .call { callee := .builtin .append, args := #[s, x], argTypes := #[t, t] })
    (B : Nat) (v : Value) (xs : List Int) (hs : a.eval s = v) (hown : OwnK k e w B v xs) (y : Value) (m : List Int) (hx : a.eval x = y) (hy : Ints k w y m) (h47 : xs.length + m.length ≤ 1000000000000) (hB : B ≤ w.heap.size)
    (h : ∀ v' w', OwnK k e w' B v' (xs ++ m) → w.grownBy w' v.ownBlock → (v'.ownBlock = v.ownBlock ∨ v'.ownBlock = some w.heap.size) → K (a.put o.dst v') w') : o.wp Try.prog a w K Q := by
  obtain ⟨v', w', h1, h2, h3, h4⟩ := run_appK o.type hinfo hby ht w B v xs hown y m hy h47 hB
  unfold Oper.wp execOp
  simp only [ho, resolve, invoke, builtin, Sem.run_bind, Sem.run_pure, Result.andThen_ok, List.map_toArray, List.map_cons, List.map_nil, hs, hx, h1]
  exact h v' w' h2 h3 h4

/-- The first k numbers of a slice, and those behind them. -/
theorem Ints.take {k : IntKind} {w : World} {a : Option Addr} {len cap : Nat} {xs : List Int} (h : Ints k w (.slice a len cap) xs) {j : Nat} (hj : j ≤ len) (c : Nat) : Ints k w (.slice a j c) (xs.take j) := by
  obtain ⟨a', l', c', e, hl, hm, hr⟩ := h
  cases e
  refine ⟨a, j, c, rfl, by simp; omega, by omega, ?_⟩
  rcases hr with h0 | ⟨b, off, rfl, hb, hc⟩
  · exact .inl (by omega)
  · exact .inr ⟨b, off, rfl, hb, fun i hi => by rw [hc i (by omega)]; simp [List.getD, List.getElem?_take_of_lt hi]⟩

theorem Ints.drop {k : IntKind} {w : World} {a : Option Addr} {len cap : Nat} {xs : List Int} (h : Ints k w (.slice a len cap) xs) {j : Nat} (hj : j ≤ len) (hc : len ≤ cap) (c : Nat) : Ints k w (.slice (if cap = j then a else a.map (·.add (j * 1))) (len - j) c) (xs.drop j) := by
  obtain ⟨a', l', c', e, hl, hm, hr⟩ := h
  cases e
  refine ⟨_, len - j, c, rfl, by simp; omega, by omega, ?_⟩
  rcases hr with h0 | ⟨b, off, rfl, hb, hce⟩
  · exact .inl (by omega)
  · by_cases hck : cap = j
    · exact .inl (by omega)
    rw [if_neg hck]
    refine .inr ⟨b, off + j * 1, by simp [Go.WideShapes.add_plain], hb, fun i hi => ?_⟩
    have := hce (j + i) (by omega)
    rw [show off + j * 1 + i = off + (j + i) by omega, this]
    simp [List.getD, List.getElem?_drop]

theorem OwnK.cap {k : IntKind} {e : TypeId} {w : World} {B : Nat} {v : Value} {l : List Int} (h : OwnK k e w B v l) : ∃ a c, v = .slice a l.length c ∧ l.length ≤ c := by
  rcases h.2 with ⟨rfl, h0⟩ | ⟨g, cap, cur, rfl, _, _, h2, _⟩
  · exact ⟨_, _, by rw [h0], by omega⟩
  · exact ⟨_, _, rfl, h2⟩

/-- The slice has room for what it holds. -/
def CapOK (v : Value) : Prop := ∀ a n c, v = .slice a n c → n ≤ c

theorem CapOK.nil : CapOK (.slice none 0 0) := fun a n c e => by cases e; omega

theorem OwnK.capOK {k : IntKind} {e : TypeId} {w : World} {B : Nat} {v : Value} {l : List Int} (h : OwnK k e w B v l) : CapOK v := by
  obtain ⟨a, c, rfl, hc⟩ := h.cap
  intro a' n c' e; cases e; exact hc

/-- Slicings, whatever the element type. -/
theorem runSlHi {t e : TypeId} {sz : Nat} (ht : Try.prog.underlying t = some (.slice e)) (h37 : Try.prog.underlying t = some (.slice (Try.prog.elem t))) (hs : ∀ w, (sizeOf e).run Try.prog w = .ok sz w) (a : Option Addr) (n cap k : Nat) (hk : k ≤ cap) (w : World) :
    (Instr.sliceAt t (.slice a n cap) none (some (.int .i64 k)) none).run Try.prog w = .ok (.slice a k cap) w := by
  refine (run_sliceAt_slice _ _ _ _ _ _ h37).trans ?_
  have h1 : (0 : Int) ≤ k ∧ (k : Int) ≤ cap := by omega
  simp [Instr.slice, run_underlying ht, Instr.sliceBounds, Instr.sliceBound, asIntOf, h1, hs w, hk]
  intro _
  cases a <;> simp [Addr.add]

theorem runSlLo {t e : TypeId} {sz : Nat} (ht : Try.prog.underlying t = some (.slice e)) (h37 : Try.prog.underlying t = some (.slice (Try.prog.elem t))) (hs : ∀ w, (sizeOf e).run Try.prog w = .ok sz w) (a : Option Addr) (n cap k : Nat) (hk : k ≤ n) (w : World) :
    (Instr.sliceAt t (.slice a n cap) (some (.int .i64 k)) none none).run Try.prog w = .ok (.slice (if cap = k then a else a.map (·.add (k * sz))) (n - k) (cap - k)) w := by
  refine (run_sliceAt_slice _ _ _ _ _ _ h37).trans ?_
  have h1 : (0 : Int) ≤ k ∧ (k : Int) ≤ n := by omega
  simp [Instr.slice, run_underlying ht, Instr.sliceBounds, Instr.sliceBound, asIntOf, h1, hs w, hk]

/-- A slicing is taken first. -/
theorem heldSlice {P : Program} {ops : Array Oper} {Q : Exit → Act → World → Prop} {S : World → Prop} (i : Nat) {oi : Oper} {fuel : Nat} {listed : Array Bool} {a : Act} {w : World} (hi : ops[i]? = some oi)
    (hs : Region.noSelect ops = true) (hf : Region.free .any ops listed i = true) (hr : (Region.ready .any ops listed).contains i = true)
    (hQ : ∀ v c a w, Q (.panic c) (a.put oi.dst v) w → Q (.panic c) a w) (hw : Region.wanted oi (yielded ops a.tmps) = true) (t : TypeId) (x : Operand) (lo hi' mx : Option Operand) (ho : oi.op = .slice t x lo hi' mx)
    (xv : Value) (lv hv mv : Option Value) (hx : a.eval x = xv) (hl : lo.map a.eval = lv) (hh : hi'.map a.eval = hv) (hm : mx.map a.eval = mv) (v : Value) (hrun : ∀ u, (Instr.sliceAt t xv lv hv mv).run P u = .ok v u) (hS : S w)
    (h : wpAnyH P .any ops Q S fuel (listed.setIfInBounds i true) (a.put oi.dst v) w) : wpAnyH P .any ops Q S (fuel + 1) listed a w :=
  wpAnyH_take hi hs hf hr (hQ _) (.inl ⟨hw, fun u _ => by
    unfold execOp
    simp only [ho, hx, hl, hh, hm, Sem.run_bind, hrun, Result.andThen_ok, Sem.run_pure]⟩) hS h

theorem bs_int (n : Int) (u : World) : (Instr.buildSlice 22 1 #[(0, .int .i64 n)]).run Try.prog u = .ok (.slice (some ⟨u.heap.size, 0, none⟩) 1 1) (u.alloc (.cells #[.int .i64 n] 3)) := by kernel_rfl

theorem OwnK.shapeL {k : IntKind} {e : TypeId} {w : World} {B : Nat} {v : Value} {xs : List Int} (h : OwnK k e w B v xs) : ∃ a c, v = .slice a xs.length c := by
  rcases h.2 with ⟨rfl, h0⟩ | ⟨g, cap, cur, rfl, _⟩
  · exact ⟨_, _, by rw [h0]⟩
  · exact ⟨_, _, rfl⟩

theorem OwnK.call {k : IntKind} {e : TypeId} {w w' : World} {B : Nat} {v : Value} {xs : List Int} (h : OwnK k e w B v xs) (hb : Below w.heap.size w w') : OwnK k e w' B v xs :=
  h.grown (row := none) ⟨hb.os, hb.tape, hb.output, hb.size, fun k hk _ => hb.block k hk⟩ (fun n _ => by simp)

theorem OwnK.new {k : IntKind} {e : TypeId} {w : World} {B : Nat} {v : Value} {xs : List Int} (h : OwnK k e w B v xs) : New B v := fun z l c e' h0 => by
  rcases h.2 with ⟨rfl, _⟩ | ⟨g, cap, cur, rfl, hb, _⟩
  · cases e'
  · cases e'; exact hb

theorem upd_grown {w w' : World} {s : Nat} (h : Upd s w w') : w.grownBy w' (some s) := ⟨h.os, h.tape, h.output, by rw [h.size]; exact Nat.le_refl _, fun k _ hk => h.block k (fun e => hk (by rw [e]))⟩

theorem wpQuiet_build {P : Program} {ops : Array Oper} {C : World → Prop} {Q : Act → Prop} {o : Oper} {rest : List Oper} {a : Act} (t : TypeId) (ps : Array (Nat × Operand)) (ho : o.op = .build t ps) (ps' : Array (Nat × Value)) (hps : ps.map (fun (i, x) => (i, a.eval x)) = ps') (v : Value)
    (hC : ∀ w, (Instr.build t ps').run P w = .ok v w) (hw : Region.wanted o (yielded ops a.tmps) = true) (h : wpQuiet P ops C Q rest (a.put o.dst v)) : wpQuiet P ops C Q (o :: rest) a := by
  refine BigFrame.wpQuiet_want hw fun K hK => ⟨v, fun w hw' => ?_, hK _ h⟩
  unfold Oper.quietAt execOp
  simp only [ho, hps, Sem.run_bind, Sem.run_pure, Result.andThen_ok, hC w]
  exact ⟨rfl, rfl⟩

theorem at_qbuild {P : Program} {ops : Array Oper} {C : World → Prop} {Q : Act → Prop} (dst : Option Tmp) {t ty' : TypeId} {ps : Array (Nat × Operand)} {pos : String} {aft : Array Edge} {g : Option (Nat × Bool)} {rest : List Oper} {a : Act}
    (h : wpQuiet P ops C Q (⟨dst, .build t ps, ty', pos, aft, g⟩ :: rest) a) : wpQuiet P ops C Q (⟨dst, .build t ps, ty', pos, aft, g⟩ :: rest) a := h
end Go.Proofs.Ytdmjpmigejpkmaa
