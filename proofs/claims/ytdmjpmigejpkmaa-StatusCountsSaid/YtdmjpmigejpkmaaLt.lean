/- The light base of tables and checkpoints: their data, '==' of two checkpoints, the reference's SameNumbers and SameTable whatever they are given. -/
import Derived.Test.YtdmjpmigejpkmaaHeldK
import Derived.Test.YtdmjpmigejpkmaaNew
import Derived.Test.YtdmjpmigejpkmaaCmp
import Derived.Test.YtdmjpmigejpkmaaS1b
import Derived.DeepKeys4
set_option linter.unusedVariables false

set_option linter.unusedSimpArgs false
namespace Go.Proofs.Ytdmjpmigejpkmaa
open Go.RowKit

def zeroR : List Int := List.replicate 32 0

theorem zeroR_is : IsBytes 32 zeroR := ⟨by decide, by decide⟩

theorem Blk.to {w : World} {b : Nat} {cs ds : Array Value} (h : Blk w b cs) (e : cs = ds) : Blk w b ds := e ▸ h

/-- A checkpoint. -/
structure CpD where
  n : Int
  r : List Int

def CpD.ok (c : CpD) : Prop := 0 ≤ c.n ∧ c.n ≤ 18446744073709551615 ∧ IsBytes 32 c.r

def bytesL (xs : List Int) : List Value := xs.map (Value.int .u8)

def CpD.cells (c : CpD) : List Value := Value.int .u64 c.n :: bytesL c.r

theorem bytesL_V (xs : List Int) : bytesV xs = (bytesL xs).toArray := rfl

theorem bytesL_len {n : Nat} {xs : List Int} (h : IsBytes n xs) : (bytesL xs).length = n := by simp [bytesL, h.1]

theorem CpD.len {c : CpD} (h : c.ok) : c.cells.length = 33 := by simp [CpD.cells, bytesL_len h.2.2]

theorem bytesL_one (xs : List Int) : ∀ v ∈ bytesL xs, v.oneCell' = true := by
  intro v hv
  obtain ⟨x, _, rfl⟩ := List.mem_map.1 hv
  rfl

theorem CpD.one (c : CpD) : ∀ v ∈ c.cells, v.oneCell' = true := by
  intro v hv
  rcases List.mem_cons.1 hv with rfl | hv
  · rfl
  · exact bytesL_one _ v hv

/-- A table. -/
structure TbD where
  cp : CpD
  v : Value

def TbD.parts (x : TbD) : List (List Value) := [x.cp.cells, [x.v]]

/-- A slice of ints. -/
def IntsV (w : World) (v : Value) (l : List Int) : Prop := Ints .i64 w v l ∧ ∀ x ∈ l, -9223372036854775808 ≤ x ∧ x ≤ 9223372036854775807

/-- A slice of balances. -/
def NumsV (w : World) (v : Value) (l : List Int) : Prop := Ints .u64 w v l ∧ ∀ x ∈ l, 0 ≤ x ∧ x ≤ 18446744073709551615

theorem IntsV.below {w w' : World} {v : Value} {l : List Int} (h : IntsV w v l) (hb : Below w.heap.size w w') : IntsV w' v l := ⟨h.1.below hb, h.2⟩

theorem NumsV.below {w w' : World} {v : Value} {l : List Int} (h : NumsV w v l) (hb : Below w.heap.size w w') : NumsV w' v l := ⟨h.1.below hb, h.2⟩

theorem getD_mem {l : List Int} {k : Nat} (hk : k < l.length) : l.getD k 0 ∈ l := by
  have e : l.getD k 0 = l[k] := by simp [List.getD, List.getElem?_eq_getElem hk]
  rw [e]; exact List.getElem_mem hk

theorem ints_shape' {k : IntKind} {w : World} {v : Value} {l : List Int} (h : Ints k w v l) : ∃ a n c, v = .slice a n c := by obtain ⟨a, n, c, e, _⟩ := h; exact ⟨a, n, c, e⟩

theorem mapM_exists {α β : Type} (g : α → Option β) : ∀ (l : List α), (∀ x ∈ l, ∃ y, g x = some y) → ∃ ys, l.mapM g = some ys
  | [], _ => ⟨[], rfl⟩
  | x :: l, hall => by
    obtain ⟨y, hy⟩ := hall x (by simp)
    obtain ⟨ys, hys⟩ := mapM_exists g l (fun z hz => hall z (by simp [hz]))
    exact ⟨y :: ys, by rw [List.mapM_cons, hy, hys]; rfl⟩

theorem keyLits_struct {P : Program} {t : TypeId} {fs : Array Field} {d : Nat} {cs : List Value} (hu : P.underlying t = some (.struct fs)) (hl : cs.length = P.cellsOf t) (hn : fs.all (·.name != "_") = true)
    (h : ∀ f ∈ fs.toList, ∃ l, P.keyLits d f.type ((cs.drop f.offset).take (P.cellsOf f.type)) = some l) : ∃ ls, P.keyLits (d + 1) t cs = some ls := by
  obtain ⟨ys, hys⟩ := mapM_exists (fun f => P.keyLits d f.type ((cs.drop f.offset).take (P.cellsOf f.type))) fs.toList h
  unfold Program.keyLits
  simp only [hu, hl, hn, and_self, if_true, hys, Option.map_some]
  exact ⟨_, rfl⟩

theorem keyLits_int {P : Program} {t : TypeId} {k : IntKind} {d : Nat} {n : Int} (hu : P.underlying t = some (.int k)) (hw : (Lit.int k n).wf = true) : ∃ ls, P.keyLits (d + 1) t [.int k n] = some ls := by
  unfold Program.keyLits
  simp only [hu, hw, and_self, if_true]
  exact ⟨_, rfl⟩

theorem keyLits_bool {P : Program} {t : TypeId} {d : Nat} {b : Bool} (hu : P.underlying t = some .bool) : ∃ ls, P.keyLits (d + 1) t [.bool b] = some ls := by
  unfold Program.keyLits
  simp only [hu]
  exact ⟨_, rfl⟩

/-- A value of a comparable type is itself. -/
theorem eq_self {P : Program} {t : TypeId} {m : Nat} (hk : P.keyTypeAt m t = true) (hm : m ≤ 10000) (X : Array Value) (hf : (Value.agg X).formed P t = true) (hl : ∃ ls, P.keyLits m t X.toList = some ls) (w : World) :
    Sem.run P (Op.equalIn 10000 t (.agg X) (.agg X)) w = .ok true w := by
  obtain ⟨ls, hls⟩ := hl
  have hc : (Value.agg X).cells.toList = X.toList := by simp [Value.cells]
  obtain ⟨r, hr, hiff⟩ := run_equalIn_deep (P := P) (10000 - m) m t hk w m m _ _ _ _ hf hf (by rw [hc]; exact hls) (by rw [hc]; exact hls)
  rw [show 10000 - m + m = 10000 by omega] at hr
  rw [hr, hiff.2 rfl]

theorem keyLits_bytes {d : Nat} {t : TypeId} (hu : Try.prog.underlying t = some (.array 32 5)) (hc : Try.prog.cellsOf t = 32) {r : List Int} (h : IsBytes 32 r) : ∃ ls, Try.prog.keyLits (d + 2) t (bytesL r) = some ls :=
  ⟨_, keyLits_ints hu Try.underlying5 hc (by kernel_rfl) d r h.1 h.2⟩

theorem keyLits_cp {d : Nat} {c : CpD} (h : c.ok) : ∃ ls, Try.prog.keyLits (d + 3) 33 c.cells = some ls := by
  refine keyLits_struct Try.underlying33 (by rw [CpD.len h]; kernel_rfl) (by kernel_rfl) ?_
  intro f hf
  simp only [List.mem_cons, List.not_mem_nil, or_false] at hf
  rcases hf with rfl | rfl
  · have e : (c.cells.drop 0).take (Try.prog.cellsOf 29) = [.int .u64 c.n] := by
      rw [show Try.prog.cellsOf 29 = 1 by kernel_rfl]; rfl
    show ∃ l, Try.prog.keyLits (d + 2) 29 ((c.cells.drop 0).take (Try.prog.cellsOf 29)) = some l
    rw [e]
    exact keyLits_int Try.underlying29 (wf_of_u64 ⟨h.1, h.2.1⟩)
  · have e : (c.cells.drop 1).take (Try.prog.cellsOf 31) = bytesL c.r := by
      rw [show Try.prog.cellsOf 31 = 32 by kernel_rfl]
      show (bytesL c.r).take 32 = _
      rw [List.take_of_length_le (by rw [bytesL_len h.2.2]; omega)]
    show ∃ l, Try.prog.keyLits (d + 2) 31 ((c.cells.drop 1).take (Try.prog.cellsOf 31)) = some l
    rw [e]
    exact keyLits_bytes Try.underlying31 (by kernel_rfl) h.2.2

theorem eq_cp {c : CpD} (h : c.ok) (w : World) : Sem.run Try.prog (Op.equalIn 10000 33 (.agg c.cells.toArray) (.agg c.cells.toArray)) w = .ok true w :=
  eq_self (m := 3) (by kernel_rfl) (by omega) _ (by simp [Value.formed, Try.underlying33, CpD.len h]; kernel_rfl) (by simpa using keyLits_cp (d := 0) h) w

theorem eq_bytes32 {r : List Int} (h : IsBytes 32 r) (w : World) : Sem.run Try.prog (Op.equalIn 10000 31 (.agg (bytesL r).toArray) (.agg (bytesL r).toArray)) w = .ok true w := by
  have := eq_root h h w
  rw [decide_eq_true rfl] at this
  exact this

/-- '==' of two values of a comparable struct. -/
theorem eq_two {P : Program} {t : TypeId} {m m' : Nat} (hk : P.keyTypeAt m t = true) (ht : P.tiled m' t = true) (hm : m ≤ 10000) (X Y : Array Value) (fX : (Value.agg X).formed P t = true) (fY : (Value.agg Y).formed P t = true)
    (lX : ∃ ls, P.keyLits m t X.toList = some ls) (lY : ∃ ls, P.keyLits m t Y.toList = some ls) : ∃ r : Bool, (∀ w, Sem.run P (Op.equalIn 10000 t (.agg X) (.agg Y)) w = .ok r w) ∧ (r = true ↔ X = Y) := by
  obtain ⟨lx, hx⟩ := lX
  obtain ⟨ly, hy⟩ := lY
  have cX : (Value.agg X).cells.toList = X.toList := by simp [Value.cells]
  have cY : (Value.agg Y).cells.toList = Y.toList := by simp [Value.cells]
  have hall : ∀ w, ∃ r : Bool, Sem.run P (Op.equalIn 10000 t (.agg X) (.agg Y)) w = .ok r w ∧ (r = true ↔ lx = ly) := fun w => by
    obtain ⟨r, hr, hiff⟩ := run_equalIn_deep (P := P) (10000 - m) m t hk w m m _ _ _ _ fX fY (by rw [cX]; exact hx) (by rw [cY]; exact hy)
    rw [show 10000 - m + m = 10000 by omega] at hr
    exact ⟨r, hr, hiff⟩
  have hXY : lx = ly ↔ X = Y := by
    constructor
    · intro e
      have h1 := cells_of_lits m' t ht m _ _ hx
      have h2 := cells_of_lits m' t ht m _ _ hy
      have : X.toList = Y.toList := by rw [h1, h2, e]
      exact Array.toList_inj.1 this
    · intro e
      subst e
      rw [hx] at hy
      exact Option.some.inj hy
  by_cases h : lx = ly
  · refine ⟨true, fun w => ?_, by simp [hXY.1 h]⟩
    obtain ⟨r, hr, hiff⟩ := hall w
    rw [hr, hiff.2 h]
  · refine ⟨false, fun w => ?_, by simp only [Bool.false_eq_true, false_iff]; exact fun e => h (hXY.2 e)⟩
    obtain ⟨r, hr, hiff⟩ := hall w
    rw [hr]
    cases r
    · rfl
    · exact absurd (hiff.1 rfl) h

theorem eq_cp2 {c d : CpD} (hc : c.ok) (hd : d.ok) : ∃ r : Bool, (∀ w, Sem.run Try.prog (Op.equalIn 10000 33 (.agg c.cells.toArray) (.agg d.cells.toArray)) w = .ok r w) ∧ (r = true ↔ c.cells = d.cells) := by
  have hf : ∀ {z : CpD}, z.ok → (Value.agg z.cells.toArray).formed Try.prog 33 = true := fun {z} hz => by simp [Value.formed, Try.underlying33, CpD.len hz]; kernel_rfl
  obtain ⟨r, h1, h2⟩ := eq_two (m := 3) (m' := 4) (by kernel_rfl) (by kernel_rfl) (by omega) _ _ (hf hc) (hf hd) (by simpa using keyLits_cp (d := 0) hc) (by simpa using keyLits_cp (d := 0) hd)
  exact ⟨r, h1, by rw [h2]; simp⟩

theorem bytesL_inj {a b : List Int} (h : bytesL a = bytesL b) : a = b := by
  have := congrArg (List.map (fun v => match v with | .int _ n => n | _ => 0)) h
  simpa [bytesL, List.map_map, Function.comp_def] using this

theorem CpD.inj {c d : CpD} (h : c.cells = d.cells) : c = d := by
  cases c; cases d
  simp only [CpD.cells, List.cons.injEq, Value.int.injEq, true_and] at h
  obtain ⟨h1, h2⟩ := h
  cases h1
  cases bytesL_inj h2
  rfl

/-- What a Same function promises: a bool that tells p. -/
def Tells (w : World) (p : Prop) (en : Ending) (w' : World) : Prop := ∃ b : Bool, en = .returned (.bool b) ∧ (b = true ↔ p) ∧ Below w.heap.size w w'

theorem tells_no {w w' : World} {p : Prop} (h : ¬ p) (hb : Below w.heap.size w w') : Tells w p (.returned (.bool false)) w' := ⟨false, rfl, by simp [h], hb⟩

theorem tells_yes {w w' : World} {p : Prop} (h : p) (hb : Below w.heap.size w w') : Tells w p (.returned (.bool true)) w' := ⟨true, rfl, by simp [h], hb⟩

theorem list_ext_getD {l m : List Int} (h : l.length = m.length) (h2 : ∀ j, j < l.length → l.getD j 0 = m.getD j 0) : l = m := by
  apply List.ext_getElem h
  intro j h3 h4
  have := h2 j h3
  simpa [List.getD, List.getElem?_eq_getElem h3, List.getElem?_eq_getElem h4] using this

theorem getD_ne {l m : List Int} {k : Nat} (h : l.getD k 0 ≠ m.getD k 0) : l ≠ m := fun e => h (by rw [e])

theorem foldl_lay (off : Nat) : ∀ (xs : List Value) (k : Nat) (D R : List Value), D.length = off + k → xs.length ≤ R.length →
    (xs.zipIdx k).foldl (fun (cs : Array Value) (x : Value × Nat) => cs.setIfInBounds (off + x.2) x.1) (D ++ R).toArray = (D ++ xs ++ R.drop xs.length).toArray
  | [], k, D, R, _, _ => by simp
  | x :: xs, k, D, r :: R, hD, hl => by
    rw [List.zipIdx_cons, List.foldl_cons]
    have e : (D ++ r :: R).toArray.setIfInBounds (off + k) x = ((D ++ [x]) ++ R).toArray := by
      rw [List.setIfInBounds_toArray, ← hD, List.set_append_right _ _ (Nat.le_refl _)]
      simp
    simp only [e]
    rw [foldl_lay off xs (k + 1) (D ++ [x]) R (by simp; omega) (by simpa using hl)]
    simp
  | x :: xs, k, D, [], _, hl => by simp at hl

/-- One part is laid behind what has been laid. -/
theorem fill_step {place : Nat → Option (Nat × Nat)} {D R : List Value} {i : Nat} {v : Value} {rest : List (Nat × Value)} (hp : place i = some (D.length, v.cells.size)) (hl : v.cells.size ≤ R.length) :
    Instr.fill place (D ++ R).toArray ((i, v) :: rest) = Instr.fill place (D ++ v.cells.toList ++ R.drop v.cells.size).toArray rest := by
  have h := foldl_lay D.length v.cells.toList 0 D R rfl (by simpa using hl)
  have e : v.cells.zipIdx.foldl (fun (cs : Array Value) (x : Value × Nat) => cs.setIfInBounds (D.length + x.2) x.1) (D ++ R).toArray = (D ++ v.cells.toList ++ R.drop v.cells.size).toArray := by
    rw [← Array.foldl_toList, Array.toList_zipIdx]
    rw [h]
    simp
  conv => lhs; unfold Instr.fill
  simp only [hp]
  rw [if_neg (by simp; omega)]
  exact congrArg (fun z => Instr.fill place z rest) e

theorem build_struct {P : Program} {t : TypeId} {fields : Array Field} {zero cells : Array Value} {parts : Array (Nat × Value)} {places : Array (Nat × Nat)} (hz : ∀ w, (zeroValue t).run P w = .ok (.agg zero) w) (hu : P.underlying t = some (.struct fields))
    (hpl : ∀ w, Sem.run P (fields.mapM fun f => do pure (f.offset, ← sizeOf f.type)) w = .ok places w) (hf : Instr.fill (places[·]?) zero parts.toList = some cells) (u : World) : (Instr.build t parts).run P u = .ok (.agg cells) u := by
  unfold Instr.build
  simp only [Sem.run_bind, hz, Result.andThen_ok, run_underlying hu, hpl, Value.cells, hf, Sem.run_pure]

/-- One part of a struct is laid over a zero part. -/
theorem fill_part {place : Nat → Option (Nat × Nat)} {zs : List (List Value)} {i o : Nat} {v : Value} {rest : List (Nat × Value)} (k : Nat) (p q : List Value) (hk : zs[k]? = some p) (hv : v.cells = q.toArray) (hl : q.length = p.length) (ho : offP zs k = o)
    (hp : place i = some (o, q.length)) : Instr.fill place (flatP zs) ((i, v) :: rest) = Instr.fill place (flatP (zs.set k q)) rest := by
  unfold flatP
  have hs : v.cells.size = q.length := by rw [hv]; simp
  rw [flatP_split hk, flatP_set hk, ← List.append_assoc]
  have e : (((zs.take k).flatten ++ p) ++ (zs.drop (k + 1)).flatten).toArray = ((zs.take k).flatten ++ (p ++ (zs.drop (k + 1)).flatten)).toArray := by rw [List.append_assoc]
  rw [e, fill_step (v := v) (by rw [hp, ← ho, hs]; rfl) (by rw [hs, List.length_append]; omega), hs, hv]
  congr 2
  rw [hl, List.drop_left]
  simp

theorem hz_zero {P : Program} {t : TypeId} {Z : Array Value} (hz : (P.info? t).map (fun i => i.zero) = some (some (.agg Z))) (w : World) : (zeroValue t).run P w = .ok (.agg Z) w := by
  cases hq : P.info? t with
  | none => simp [hq] at hz
  | some i =>
    have : i.zero = some (.agg Z) := by simpa [hq] using hz
    simp [zeroValue, typeInfo, hq, this]

theorem at_app {P : Program} {ops : Array Oper} {Q : Exit → Act → World → Prop} {dst : Option Tmp} {ty' : TypeId} (s x : Operand) {tt : Array TypeId} {pos : String} {aft : Array Edge} {g : Option (Nat × Bool)} {rest : List Oper} {a : Act} {w : World}
    (h : wpList P ops Q (⟨dst, .call { callee := .builtin .append, args := #[s, x], argTypes := tt }, ty', pos, aft, g⟩ :: rest) a w) :
    wpList P ops Q (⟨dst, .call { callee := .builtin .append, args := #[s, x], argTypes := tt }, ty', pos, aft, g⟩ :: rest) a w := h

theorem wpList_build_g {P : Program} {ops : Array Oper} {rest : List Oper} {op : Oper} {a : Act} {w : World} {Q : Exit → Act → World → Prop} (t : TypeId) (ps : Array (Nat × Operand)) (ho : op.op = .build t ps)
    (ps' : Array (Nat × Value)) (hps : ps.map (fun (i, x) => (i, a.eval x)) = ps') (v : Value) (hr : (Instr.build t ps').run P w = .ok v w) (hw : Region.wanted op (yielded ops a.tmps) = true) (h : wpList P ops Q rest (a.put op.dst v) w) : wpList P ops Q (op :: rest) a w :=
  BigFrame.wpList_want hw fun _ hK => by
    unfold Oper.wp execOp
    simp only [ho, hps, Sem.run_bind, hr, Result.andThen_ok, Sem.run_pure]
    exact hK _ _ h

/-- A stronger condition serves for a weaker one. -/
theorem wpAnyH_mono {P : Program} {md : Region.Mode} {ops : Array Oper} {Q : Exit → Act → World → Prop} {S S' : World → Prop} (hS : ∀ w, S' w → S w) :
    ∀ (fuel : Nat) (listed : Array Bool) (a : Act) (w : World), wpAnyH P md ops Q S' fuel listed a w → wpAnyH P md ops Q S fuel listed a w
  | 0, _, _, _, h => h
  | fuel + 1, _, _, _, h => ⟨h.1, fun i hi => wpOp_mono (fun _ w' h' => ⟨hS w' h'.1, wpAnyH_mono hS fuel _ _ _ h'.2⟩) (h.2 i hi)⟩

/-- Behind an operation that is carried out the condition may be taken anew: 'S1' for the world that it left. -/
theorem held_grow {P : Program} {ops : Array Oper} {Q : Exit → Act → World → Prop} {S : World → Prop} {fuel : Nat} {listed : Array Bool} {a : Act} {w : World} {K' : Act → World → Prop}
    (hK : Shut (∀ a w, S w → (S w → wpAnyH P .any ops Q S fuel listed a w) → K' a w)) (hs : S w) (S1 : World → Prop) (h1 : ∀ u, S1 u → S u)
    (h : wpAnyH P .any ops Q S1 fuel listed a w) : K' a w :=
  hK.out a w hs fun _ => wpAnyH_mono h1 _ _ _ _ h

/-- A value that is built is taken first. -/
theorem held_build {P : Program} {ops : Array Oper} {Q : Exit → Act → World → Prop} {S : World → Prop} (i : Nat) {oi : Oper} {fuel : Nat} {listed : Array Bool} {a : Act} {w : World} (hi : ops[i]? = some oi)
    (hs : Region.noSelect ops = true) (hf : Region.free .any ops listed i = true) (hr : (Region.ready .any ops listed).contains i = true)
    (hQ : ∀ v c a w, Q (.panic c) (a.put oi.dst v) w → Q (.panic c) a w) (hw : Region.wanted oi (yielded ops a.tmps) = true) (t : TypeId) (ps : Array (Nat × Operand)) (ho : oi.op = .build t ps)
    (ps' : Array (Nat × Value)) (hps : ps.map (fun (i, x) => (i, a.eval x)) = ps') (v : Value) (hrun : ∀ u, (Instr.build t ps').run P u = .ok v u) (hS : S w)
    (h : wpAnyH P .any ops Q S fuel (listed.setIfInBounds i true) (a.put oi.dst v) w) : wpAnyH P .any ops Q S (fuel + 1) listed a w :=
  wpAnyH_take hi hs hf hr (hQ _) (.inl ⟨hw, fun u _ => by
    unfold execOp
    simp only [ho, hps, Sem.run_bind, hrun, Result.andThen_ok, Sem.run_pure]⟩) hS h

theorem run_app_nil (w : World) {base : Nat} (t ty e : TypeId) (i : TypeInfo) (size : Nat) (ht : Try.prog.underlying t = some (.slice e)) (hi : Try.prog.info? e = some i)
    (v : Value) (n : Nat) (xs : List Value) (hown : w.ownsRow base e size v n xs) (c : Nat) : (Builtin.append_ #[t, t] ty #[v, .slice none 0 c]).run Try.prog w = .ok v w := by
  rcases hown.2 with ⟨rfl, rfl⟩ | ⟨g, cap, cur, rfl, _, _, hnc, _⟩
  · simp [Builtin.append_, run_underlying ht, sizeOf, typeInfo, hi, Builtin.lenOf, Builtin.firstCells]
  · simp [Builtin.append_, run_underlying ht, sizeOf, typeInfo, hi, Builtin.lenOf, Builtin.firstCells, hnc, storeCells]

theorem World.grownBy.rfl' (w : World) (row : Option Nat) : w.grownBy w row := ⟨rfl, rfl, rfl, Nat.le_refl _, fun _ _ _ => rfl⟩
end Go.Proofs.Ytdmjpmigejpkmaa
