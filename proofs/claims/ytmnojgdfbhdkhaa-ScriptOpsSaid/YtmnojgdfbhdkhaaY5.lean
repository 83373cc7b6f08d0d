/- Several texts as one: ScM, ScN, ScP, Els, ScF, ScH, ScO, ScD. -/
import Derived.Test.YtmnojgdfbhdkhaaY4
import Derived.Test.YtmnojgdfbhdkhaaY3
import Derived.Test.YtmnojgdfbhdkhaaRow2
import Derived.Test.YtmnojgdfbhdkhaaCdB
import Derived.Test.YtmnojgdfbhdkhaaCdR
import Derived.Test.YtmnojgdfbhdkhaaY2
import Derived.Test.YtmnojgdfbhdkhaaY1
namespace Go.Proofs.Ytmnojgdfbhdkhaa

/-! ScM -/
section
set_option linter.unusedVariables false
set_option linter.unusedSimpArgs false
open Go.RowKit

/-! ### Operations as data -/
structure AtP where
  slot : Int
  root : List Int
  cp : CpD
  l : List Int
def AtP.d (x : AtP) (v : Value) : AtD := ⟨x.slot, x.root, x.cp, v⟩
structure ClP where
  source : Int
  target : Int
  root : List Int
  l : List Int
def ClP.d (x : ClP) (v : Value) : ClD := ⟨x.source, x.target, x.root, v⟩
structure OpD where
  k : Int
  b : BkD
  a : AtP
  c1 : ClP
  c2 : ClP
  tc : CpD
  tl : List Int
  v : VdD
  w : Int
  p : Int

def i64R (x : Int) : Prop := -9223372036854775808 ≤ x ∧ x ≤ 9223372036854775807
def OpD.ok (x : OpD) : Prop := i64R x.k ∧ x.b.ok ∧ (x.a.d (.slice none 0 0)).ok ∧ (x.c1.d (.slice none 0 0)).ok ∧ (x.c2.d (.slice none 0 0)).ok ∧ x.tc.ok ∧ x.v.ok ∧ i64R x.w ∧ i64R x.p
/-- The parts of an operation, as its cells lie. -/
def OpD.parts (x : OpD) (v1 v2 v3 v4 : Value) : List (List Value) :=
  [[.int .i64 x.k], x.b.parts.flatten, (x.a.d v1).parts.flatten, [(x.c1.d v2).cells, (x.c2.d v3).cells].flatten, [x.tc.cells, [v4]].flatten, x.v.parts.flatten, [.int .i64 x.w], [.int .i64 x.p]]

theorem AtP.len {x : AtP} {v : Value} (h : (x.d (.slice none 0 0)).ok) : (x.d v).parts.flatten.length = 67 := by
  obtain ⟨_, h1, h2⟩ := h
  have e1 := bytesL_len h1
  have e2 := CpD.len h2
  simp only [AtP.d] at e1 e2
  simp [AtD.parts, AtP.d, e1, e2]
theorem ClP.len {x : ClP} {v : Value} (h : (x.d (.slice none 0 0)).ok) : (x.d v).cells.length = 35 := ClD.len (x := x.d v) h
theorem VdD.len {x : VdD} (h : x.ok) : x.parts.flatten.length = 34 := by simp [VdD.parts, bytesL_len h.2.2]
theorem BkD.len238 {x : BkD} (h : x.ok) : x.parts.flatten.length = 238 := by rw [List.length_flatten, BkD.lens h]; rfl

theorem OpD.lens {x : OpD} (h : x.ok) (v1 v2 v3 v4 : Value) : (x.parts v1 v2 v3 v4).map List.length = [1, 238, 67, 70, 34, 34, 1, 1] := by
  obtain ⟨_, h1, h2, h3, h4, h5, h6, _⟩ := h
  simp only [OpD.parts, List.map_cons, List.map_nil, BkD.len238 h1, AtP.len h2, VdD.len h6]
  simp [ClP.len h3, ClP.len h4, CpD.len h5]
theorem OpD.size {x : OpD} (h : x.ok) (v1 v2 v3 v4 : Value) : (flatP (x.parts v1 v2 v3 v4)).size = 446 := by
  rw [flatP_size, List.length_flatten, OpD.lens h]; rfl
theorem offs_of {ps : List (List Value)} {ls : List Nat} (h : ps.map List.length = ls) (k : Nat) : offP ps k = (ls.take k).sum := by
  unfold offP
  rw [List.length_flatten, List.map_take, h]

def oneV (v : Value) : Prop := v.oneCell' = true
theorem ints_one {k : IntKind} {w : World} {v : Value} {xs : List Int} (h : Ints k w v xs) : oneV v := by
  obtain ⟨a, l, c, rfl, _⟩ := h; rfl
theorem OpD.one {x : OpD} {v1 v2 v3 v4 : Value} (h1 : oneV v1) (h2 : oneV v2) (h3 : oneV v3) (h4 : oneV v4) : ∀ v ∈ flatP (x.parts v1 v2 v3 v4), v.oneCell' = true := by
  refine flatP_one fun p hp v hv => ?_
  have s1 : ∀ y : Value, y.oneCell' = true → ∀ v ∈ [y], v.oneCell' = true := fun y hy v hv => by rw [List.mem_singleton.1 hv]; exact hy
  have cl : ∀ (c : ClP) (y : Value), oneV y → ∀ v ∈ (c.d y).cells, v.oneCell' = true := by
    intro c y hy v hv
    simp only [ClP.d, ClD.cells, ClD.parts, List.mem_flatten, List.mem_cons, List.not_mem_nil, or_false] at hv
    obtain ⟨p, rfl | rfl | rfl | rfl, hv⟩ := hv
    · exact s1 _ rfl v hv
    · exact s1 _ rfl v hv
    · exact bytesL_one _ v hv
    · exact s1 _ hy v hv
  simp only [OpD.parts, List.mem_cons, List.not_mem_nil, or_false] at hp
  rcases hp with rfl | rfl | rfl | rfl | rfl | rfl | rfl | rfl
  · exact s1 _ rfl v hv
  · exact BkD.one x.b v (by simpa [flatP] using hv)
  · simp only [AtP.d, AtD.parts, List.mem_flatten, List.mem_cons, List.not_mem_nil, or_false] at hv
    obtain ⟨p, rfl | rfl | rfl | rfl, hv⟩ := hv
    · exact s1 _ rfl v hv
    · exact bytesL_one _ v hv
    · exact CpD.one _ v hv
    · exact s1 _ h1 v hv
  · simp only [List.mem_flatten, List.mem_cons, List.not_mem_nil, or_false] at hv
    obtain ⟨p, rfl | rfl, hv⟩ := hv
    · exact cl _ _ h2 v hv
    · exact cl _ _ h3 v hv
  · simp only [List.mem_flatten, List.mem_cons, List.not_mem_nil, or_false] at hv
    obtain ⟨p, rfl | rfl, hv⟩ := hv
    · exact CpD.one _ v hv
    · exact s1 _ h4 v hv
  · exact vdOne x.v v (by simpa [flatP] using hv)
  · exact s1 _ rfl v hv
  · exact s1 _ rfl v hv

/-- An operation in cells, in a world; its lists lie where P says. -/
def OpIn (P : Value → Prop) (w : World) (X : Array Value) (x : OpD) : Prop :=
  ∃ v1 v2 v3 v4, X = flatP (x.parts v1 v2 v3 v4) ∧ x.ok ∧ (IntsV w v1 x.a.l ∧ P v1) ∧ (IntsV w v2 x.c1.l ∧ P v2) ∧ (IntsV w v3 x.c2.l ∧ P v3) ∧ (NumsV w v4 x.tl ∧ P v4)

theorem OpIn.mono {P Q : Value → Prop} {w : World} {X : Array Value} {x : OpD} (h : OpIn P w X x) (hPQ : ∀ v, P v → Q v) : OpIn Q w X x := by
  obtain ⟨v1, v2, v3, v4, h1, h2, h3, h4, h5, h6⟩ := h
  exact ⟨v1, v2, v3, v4, h1, h2, ⟨h3.1, hPQ _ h3.2⟩, ⟨h4.1, hPQ _ h4.2⟩, ⟨h5.1, hPQ _ h5.2⟩, ⟨h6.1, hPQ _ h6.2⟩⟩
theorem OpIn.below {P : Value → Prop} {w w' : World} {X : Array Value} {x : OpD} (h : OpIn P w X x) (hb : Below w.heap.size w w') : OpIn P w' X x := by
  obtain ⟨v1, v2, v3, v4, h1, h2, h3, h4, h5, h6⟩ := h
  exact ⟨v1, v2, v3, v4, h1, h2, ⟨h3.1.below hb, h3.2⟩, ⟨h4.1.below hb, h4.2⟩, ⟨h5.1.below hb, h5.2⟩, ⟨h6.1.below hb, h6.2⟩⟩
theorem OpIn.grown {P : Value → Prop} {w w' : World} {X : Array Value} {x : OpD} {row : Option Nat} (h : OpIn P w X x) (hg : w.grownBy w' row) (hP : ∀ g v, row = some g → P v → Off g v) : OpIn P w' X x := by
  obtain ⟨v1, v2, v3, v4, h1, h2, h3, h4, h5, h6⟩ := h
  exact ⟨v1, v2, v3, v4, h1, h2, ⟨⟨h3.1.1.grownOff hg fun g e => hP g _ e h3.2, h3.1.2⟩, h3.2⟩, ⟨⟨h4.1.1.grownOff hg fun g e => hP g _ e h4.2, h4.1.2⟩, h4.2⟩, ⟨⟨h5.1.1.grownOff hg fun g e => hP g _ e h5.2, h5.1.2⟩, h5.2⟩, ⟨⟨h6.1.1.grownOff hg fun g e => hP g _ e h6.2, h6.1.2⟩, h6.2⟩⟩
/-- Its lists lie in blocks that are there. -/
theorem OpIn.off {P : Value → Prop} {w : World} {X : Array Value} {x : OpD} (h : OpIn P w X x) {g : Nat} (hg : w.heap.size ≤ g) : OpIn (Off g) w X x := by
  obtain ⟨v1, v2, v3, v4, h1, h2, h3, h4, h5, h6⟩ := h
  exact ⟨v1, v2, v3, v4, h1, h2, ⟨h3.1, h3.1.1.off hg⟩, ⟨h4.1, h4.1.1.off hg⟩, ⟨h5.1, h5.1.1.off hg⟩, ⟨h6.1, h6.1.1.off hg⟩⟩
theorem OpIn.size {P : Value → Prop} {w : World} {X : Array Value} {x : OpD} (h : OpIn P w X x) : X.size = 446 := by
  obtain ⟨v1, v2, v3, v4, rfl, h2, _⟩ := h; exact OpD.size h2 _ _ _ _
theorem OpIn.one {P : Value → Prop} {w : World} {X : Array Value} {x : OpD} (h : OpIn P w X x) : ∀ v ∈ X, v.oneCell' = true := by
  obtain ⟨v1, v2, v3, v4, rfl, h2, h3, h4, h5, h6⟩ := h
  exact OpD.one (ints_one h3.1.1) (ints_one h4.1.1) (ints_one h5.1.1) (ints_one h6.1.1)
theorem OpIn.ok {P : Value → Prop} {w : World} {X : Array Value} {x : OpD} (h : OpIn P w X x) : x.ok := by
  obtain ⟨v1, v2, v3, v4, _, h2, _⟩ := h; exact h2

def zAtP : AtP := ⟨0, zeroR, zCp, []⟩
def zClP : ClP := ⟨0, 0, zeroR, []⟩
def zOp : OpD := ⟨0, zBk, zAtP, zClP, zClP, zCp, [], zVd, 0, 0⟩
def nilV : Value := .slice none 0 0
/-- An operation of kind k with no field. -/
def kOp (k : Int) : OpD := { zOp with k := k }
theorem kOp_ok {k : Int} (h : i64R k) : (kOp k).ok := ⟨h, zBk_ok, ⟨by show (0 : Int) ≤ 0 ∧ (0 : Int) ≤ _; omega, zeroR_is, zCp_ok⟩, zCl_ok, zCl_ok, zCp_ok, zVd_ok, by show i64R 0; unfold i64R; omega, by show i64R 0; unfold i64R; omega⟩
theorem kOp_in {k : Int} (h : i64R k) (N : Nat) (w : World) : OpIn (New N) w (flatP ((kOp k).parts nilV nilV nilV nilV)) (kOp k) :=
  ⟨nilV, nilV, nilV, nilV, rfl, kOp_ok h, ⟨intsV_nil _, New.nil _⟩, ⟨intsV_nil _, New.nil _⟩, ⟨intsV_nil _, New.nil _⟩, ⟨numsV_nil _, New.nil _⟩⟩

/-! ### What bytes say -/
/-- What lies behind the field of an operation of kind k. -/
def fS (k : Int) (r : List Int) : RS :=
  if k = 2 then bk11 ⟨r, 0⟩ else if k = 3 then atS ⟨r, 0⟩ else if k = 4 then clS (clS ⟨r, 0⟩) else if k = 5 then tdS ⟨r, 0⟩ else if k = 6 then vdS ⟨r, 0⟩ else if k = 8 then nU 32768 (nU 32768 ⟨r, 0⟩) else ⟨r, 0⟩
/-- Whether the field can be encoded. -/
def fB (k : Int) (r : List Int) : Bool :=
  if k = 3 then vlE (atL ⟨r, 0⟩) 1024 == 0 else if k = 4 then vlsE [clL ⟨r, 0⟩, clL (clS ⟨r, 0⟩)] == 0 else if k = 6 then (vdD ⟨r, 0⟩).kind != 0 else if k = 0 then false else true
def fE (k : Int) (r : List Int) : Int := finE (fS k r).e (fB k r)
def atP (s : RS) : AtP := ⟨vU mxU s, vW (nU mxU s), vCD (nW (nU mxU s)), atL s⟩
def clP (s : RS) : ClP := ⟨vU mxU s, vU mxU (nU mxU s), vW (cl2 s), clL s⟩
noncomputable def fD (k : Int) (r : List Int) : OpD :=
  if k = 2 then { kOp k with b := bkV ⟨r, 0⟩ } else if k = 3 then { kOp k with a := atP ⟨r, 0⟩ } else if k = 4 then { kOp k with c1 := clP ⟨r, 0⟩, c2 := clP (clS ⟨r, 0⟩) } else if k = 5 then { kOp k with tc := vCD ⟨r, 0⟩, tl := tdL ⟨r, 0⟩ } else if k = 6 then { kOp k with v := vdD ⟨r, 0⟩ }
    else if k = 8 then { kOp k with w := vU 32768 ⟨r, 0⟩, p := vU 32768 (nU 32768 ⟨r, 0⟩) } else kOp k

/-- The next operation: its kind, what lies behind the kind, the error, what lies behind the operation, the operation. -/
def nxK (bs : List Int) : Int := vU 8 ⟨bs, 0⟩
def nxR (bs : List Int) : List Int := (nU 8 ⟨bs, 0⟩).r
def nxE (bs : List Int) : Int := if (nU 8 ⟨bs, 0⟩).e ≠ 0 then (nU 8 ⟨bs, 0⟩).e else fE (nxK bs) (nxR bs)
def nxT (bs : List Int) : List Int := (fS (nxK bs) (nxR bs)).r
noncomputable def nxD (bs : List Int) : OpD := fD (nxK bs) (nxR bs)
def nxU (bs : List Int) : Nat := bs.length - (nxT bs).length

/-- Operations from byte u on, with k of them before: the operations, the bytes and the error. -/
noncomputable def dops (bs : List Int) : Nat → Nat → Nat → List OpD × Nat × Int
  | 0, _, u => ([], u, 0)
  | f + 1, k, u => if bs.length ≤ u then ([], u, 0) else if k = 4096 then ([], u, 11) else if nxE (bs.drop u) ≠ 0 then ([], u, nxE (bs.drop u)) else
      let r := dops bs f (k + 1) (u + nxU (bs.drop u)); (nxD (bs.drop u) :: r.1, r.2)

/-! ### Lengths -/
theorem tbN_len (s : RS) : (tbN s).r.length ≤ s.r.length := Nat.le_trans (stK_len _ _ _) (nU_len _ _)

theorem fS_len (k : Int) (r : List Int) : (fS k r).r.length ≤ r.length := by
  have e : r.length = (⟨r, 0⟩ : RS).r.length := rfl
  unfold fS
  rw [e]
  generalize (⟨r, 0⟩ : RS) = s
  repeat' split
  · exact Nat.le_trans (nB_len _) (Nat.le_trans (nC_len _) (Nat.le_trans (nC_len _) (Nat.le_trans (nC_len _) (Nat.le_trans (nC_len _) (Nat.le_trans (nW_len _) (Nat.le_trans (nW_len _) (Nat.le_trans (nW_len _) (Nat.le_trans (nW_len _) (Nat.le_trans (nW_len _) (nU_len _ _))))))))))
  · exact Nat.le_trans (lsN_len _) (Nat.le_trans (nC_len _) (Nat.le_trans (nW_len _) (nU_len _ _)))
  · have c : ∀ s, (clS s).r.length ≤ s.r.length := fun s => Nat.le_trans (lsN_len _) (Nat.le_trans (nW_len _) (Nat.le_trans (nU_len _ _) (nU_len _ _)))
    exact Nat.le_trans (c _) (c _)
  · exact Nat.le_trans (tbN_len _) (nC_len _)
  · exact Nat.le_trans (nW_len _) (Nat.le_trans (nU_len _ _) (nU_len _ _))
  · exact Nat.le_trans (nU_len _ _) (nU_len _ _)
  · exact Nat.le_refl _

theorem pu_pos (xs : List Int) : ∀ f i, f + i ≤ 10 → (pu xs f i).2.2 = 0 → 1 ≤ (pu xs f i).2.1 ∧ (pu xs f i).2.1 ≤ 10 ∧ (pu xs f i).2.1 ≤ xs.length ∧ (pu xs f i).2.1 = ((pu xs f i).2.1.toNat : Int)
  | 0, i, _, h => by simp [pu] at h
  | f + 1, i, hf, h => by
    rw [pu] at h ⊢
    by_cases h1 : xs.length ≤ i
    · rw [if_pos h1] at h; simp at h
    rw [if_neg h1] at h ⊢
    by_cases h2 : 128 ≤ xs.getD i 0
    · rw [if_pos h2] at h ⊢; exact pu_pos xs f (i + 1) (by omega) h
    rw [if_neg h2] at h ⊢
    by_cases h3 : (xs.getD i 0 = 0 ∧ 0 < i) ∨ (1 < xs.getD i 0 ∧ i = 9)
    · rw [if_pos h3] at h; simp at h
    rw [if_neg h3] at h ⊢
    simp only
    omega

/-- A number that is read has from one to ten bytes. -/
theorem nU_less {m : Int} {bs : List Int} (h : (nU m ⟨bs, 0⟩).e = 0) : (nU m ⟨bs, 0⟩).r = bs.drop (pu bs 10 0).2.1.toNat ∧ 1 ≤ (pu bs 10 0).2.1.toNat ∧ (pu bs 10 0).2.1.toNat ≤ 10 ∧ (pu bs 10 0).2.1.toNat ≤ bs.length := by
  simp only [nU, ruE, ruR, ne_eq, not_true_eq_false, if_false] at h ⊢
  by_cases h1 : (pu bs 10 0).2.2 = 0
  · rw [if_neg (by simpa using h1)] at h ⊢
    by_cases h2 : m < (pu bs 10 0).1
    · rw [if_pos h2] at h; cases h
    · rw [if_neg h2]
      have := pu_pos bs 10 0 (by omega) h1
      exact ⟨rfl, by omega, by omega, by omega⟩
  · rw [if_pos h1] at h; exact absurd h h1

theorem nxU_pos {bs : List Int} (h : nxE bs = 0) : 1 ≤ nxU bs ∧ nxU bs ≤ bs.length := by
  unfold nxE at h
  by_cases h1 : (nU 8 ⟨bs, 0⟩).e = 0
  · obtain ⟨e1, e2, e3, e4⟩ := nU_less h1
    have h2 := fS_len (nxK bs) (nxR bs)
    have h3 : (nxR bs).length = bs.length - (pu bs 10 0).2.1.toNat := by unfold nxR; rw [e1, List.length_drop]
    unfold nxU nxT
    omega
  · rw [if_pos h1] at h; exact absurd h h1

/-! ### A number reads no byte behind the tenth -/
theorem take_getD {xs : List Int} {n k : Nat} (h : k < n) : (xs.take n).getD k 0 = xs.getD k 0 := by simp [List.getD, h]
theorem accU_take {xs : List Int} {n : Nat} : ∀ k, k ≤ n → accU (xs.take n) k = accU xs k
  | 0, _ => rfl
  | k + 1, h => by rw [accU, accU, accU_take k (by omega), take_getD (by omega)]
theorem pu_take {xs : List Int} {n : Nat} (hn : 10 ≤ n) : ∀ f i, f + i ≤ 10 → pu (xs.take n) f i = pu xs f i
  | 0, i, _ => rfl
  | f + 1, i, h => by
    rw [pu, pu, pu_take hn f (i + 1) (by omega), take_getD (by omega), accU_take (i + 1) (by omega), List.length_take]
    by_cases h1 : xs.length ≤ i
    · rw [if_pos h1, if_pos (by omega)]
    · rw [if_neg h1, if_neg (by omega)]

/-- Two readings: the same number, the same error, and as many bytes. -/
structure Alike (xs ys : List Int) (s t : RS) : Prop where
  e : s.e = t.e
  n : xs.length - s.r.length = ys.length - t.r.length

theorem vU_take {xs : List Int} {n : Nat} {m : Int} (hn : 10 ≤ n) : vU m ⟨xs.take n, 0⟩ = vU m ⟨xs, 0⟩ := by
  simp only [vU, ruV, pu_take hn 10 0 (by omega)]
theorem nU_take {xs : List Int} {n : Nat} {m : Int} (hn : 10 ≤ n) : ∃ j, (j ≤ 10 ∧ j ≤ xs.length) ∧ nU m ⟨xs.take n, 0⟩ = ⟨(xs.take n).drop j, (nU m ⟨xs, 0⟩).e⟩ ∧ (nU m ⟨xs, 0⟩).r = xs.drop j := by
  simp only [nU, ruR, ruE, pu_take hn 10 0 (by omega), ne_eq, not_true_eq_false, if_false]
  by_cases h1 : (pu xs 10 0).2.2 = 0
  · have hp := pu_pos xs 10 0 (by omega) h1
    by_cases h2 : m < (pu xs 10 0).1
    · exact ⟨0, by omega, by simp [h1, h2], by simp [h1, h2]⟩
    · exact ⟨(pu xs 10 0).2.1.toNat, by omega, by simp [h1, h2], by simp [h1, h2]⟩
  · exact ⟨0, by omega, by simp [h1], by simp [h1]⟩

/-- One number out of the first ten bytes. -/
theorem one_take (m : Int) (xs : List Int) : vU m ⟨xs.take 10, 0⟩ = vU m ⟨xs, 0⟩ ∧ (nU m ⟨xs.take 10, 0⟩).e = (nU m ⟨xs, 0⟩).e ∧ (xs.take 10).length - (nU m ⟨xs.take 10, 0⟩).r.length = xs.length - (nU m ⟨xs, 0⟩).r.length := by
  obtain ⟨j, hj, h1, h2⟩ := nU_take (xs := xs) (n := 10) (m := m) (by omega)
  refine ⟨vU_take (by omega), by rw [h1], ?_⟩
  rw [h1, h2]
  simp only [List.length_drop, List.length_take]
  omega

/-- Two numbers out of the first twenty. -/
theorem two_take (m : Int) (xs : List Int) : vU m ⟨xs.take 20, 0⟩ = vU m ⟨xs, 0⟩ ∧ vU m (nU m ⟨xs.take 20, 0⟩) = vU m (nU m ⟨xs, 0⟩) ∧ (nU m (nU m ⟨xs.take 20, 0⟩)).e = (nU m (nU m ⟨xs, 0⟩)).e ∧
    (xs.take 20).length - (nU m (nU m ⟨xs.take 20, 0⟩)).r.length = xs.length - (nU m (nU m ⟨xs, 0⟩)).r.length := by
  obtain ⟨j, hj, h1, h2⟩ := nU_take (xs := xs) (n := 20) (m := m) (by omega)
  obtain ⟨t, ht⟩ : ∃ t, nU m ⟨xs, 0⟩ = t := ⟨_, rfl⟩
  rw [ht] at h1 h2
  have ht2 : t = ⟨xs.drop j, t.e⟩ := by cases t; simp only at h2; rw [h2]
  refine ⟨vU_take (by omega), ?_⟩
  rw [h1, ht]
  by_cases he : t.e = 0
  · rw [he]
    have ht3 : t = ⟨xs.drop j, 0⟩ := by rw [ht2, he]
    rw [ht3, List.drop_take]
    obtain ⟨i, hi, g1, g2⟩ := nU_take (xs := xs.drop j) (n := 20 - j) (m := m) (by omega)
    refine ⟨vU_take (by omega), by rw [g1], ?_⟩
    rw [g1, g2]
    simp only [List.length_drop, List.length_take]
    simp only [List.length_drop] at hi
    omega
  · rw [nU_err (s := ⟨(xs.take 20).drop j, t.e⟩) he, nU_err he]
    refine ⟨?_, rfl, ?_⟩
    · unfold vU ruV; rw [if_pos he, if_pos he]
    · rw [ht2]
      simp only [List.length_drop, List.length_take]
      omega
end

/-! ScN -/
section
set_option linter.unusedVariables false
set_option linter.unusedSimpArgs false
open Go.RowKit

/-- The first k numbers that are read. -/
def dnK (m : Int) (s : RS) (k : Nat) : List Int := (List.range k).map fun i => vU m (stK m s i)
theorem dnK_next (m : Int) (s : RS) (k : Nat) : dnK m s k ++ [vU m (stK m s k)] = dnK m s (k + 1) := by simp [dnK, List.range_succ]
theorem dnK_len (m : Int) (s : RS) (k : Nat) : (dnK m s k).length = k := by simp [dnK]

theorem Byt.takeN {w : World} {a : Option Addr} {l c : Nat} {xs : List Int} (h : Byt w (.slice a l c) xs) {n : Nat} (hn : n ≤ l) : Byt w (.slice a n c) (xs.take n) := by
  obtain ⟨a', l', c', e, hl, hm, hr⟩ := h.ints
  cases e
  have hf := h.fits _ _ _ rfl
  refine ⟨⟨_, _, _, rfl, by rw [List.length_take]; omega, by omega, ?_⟩, fun x hx => h.rng x (List.mem_of_mem_take hx), fun a' l' c' e => by cases e; omega⟩
  by_cases h0 : n = 0
  · exact .inl h0
  rcases hr with h1 | ⟨b, off, rfl, hlt, hc⟩
  · omega
  · refine .inr ⟨b, off, rfl, hlt, fun i hi => ?_⟩
    rw [hc i (by omega)]
    simp [List.getD, hi]

def DnI (w : World) (g : Nat) (m : Int) (s0 : RS) (n : Nat) (v i : Value) (wr : World) : Prop :=
  ∃ k : Nat, k ≤ n ∧ i = .int .i64 k ∧ OwnK .i64 3 wr w.heap.size v (dnK m s0 k) ∧ Rdr w.heap.size wr g (stK m s0 k).r (stK m s0 k).e ∧ Below w.heap.size w wr ∧ w.heap.size ≤ g ∧ (∀ j, v.ownBlock = some j → g < j)

/-- What decodeNumbers gives. -/
def DnR (w : World) (m : Int) (xs : List Int) (n : Nat) (en : Ending) (w' : World) : Prop :=
  ∃ lv, en = .returned (.tuple #[lv, .int .i64 ((xs.length : Int) - ((stK m ⟨xs, 0⟩ n).r.length : Nat)), .int .i64 (stK m ⟨xs, 0⟩ n).e]) ∧ (Ints .i64 w' lv (dnK m ⟨xs, 0⟩ n) ∧ New w.heap.size lv) ∧ Below w.heap.size w w'

set_option maxRecDepth 100000 in
set_option maxHeartbeats 4000000 in
theorem decn_any (v gv : Value) (bs : List Int) (m : Int) (n : Nat) (w : World) (h : Byt w v bs) (hg : NumsV w gv (List.replicate n m)) (hm0 : 0 ≤ m) (hm1 : m ≤ 100000) (hn : n ≤ 2) :
    Calls Try.prog 57 #[v, gv] w (DnR w m (bs.take (10 * n)) n) := by
  obtain ⟨va, vl, vc, rfl⟩ := h.shape
  have hln : bs.length = vl := by obtain ⟨_, _, _, e', hl, _⟩ := h.ints; cases e'; exact hl
  have hfits := h.fits _ _ _ rfl
  unfold maxLen at hfits
  obtain ⟨ga, gl, gc, rfl, hgl, hgm, hgr⟩ := hg.1
  rw [List.length_replicate] at hgl
  subst hgl
  unfold maxLen at hgm
  obtain ⟨nl, hnl⟩ : ∃ nl, min vl (10 * n) = nl := ⟨_, rfl⟩
  have hmin : min (vl : Int) (n * 10) = (nl : Int) := by omega
  have hnl1 : nl ≤ vl := by omega
  have hnl2 : nl ≤ 20 := by omega
  have hX : bs.take (10 * n) = bs.take nl := by
    by_cases hc : 10 * n ≤ vl
    · rw [show nl = 10 * n by omega]
    · rw [show nl = vl by omega, ← hln, List.take_length, List.take_of_length_le (by omega)]
  have hY := h.takeN hnl1
  rw [hX]
  have hxl : (bs.take nl).length = nl := by rw [List.length_take]; omega
  have hby : byteL (bs.take nl) := hY.rng
  obtain ⟨xs, hxs⟩ : ∃ xs, bs.take nl = xs := ⟨_, rfl⟩
  rw [hxs] at hY hxl hby ⊢
  clear hX hxs h hln
  have D := Lib.hid (newr_any (.slice va nl vc) xs w hY (by omega))
  have HXL := Lib.hid hxl; clear hxl hY
  have HBY := Lib.hid hby; clear hby
  have HG := Lib.hid (fun u (hu : Below w.heap.size w u) => hg.below hu)
  clear hg hgr hnl
  obtain ⟨s0, hs0⟩ : ∃ s0 : RS, (⟨xs, 0⟩ : RS) = s0 := ⟨_, rfl⟩
  have hs0r : Hid (s0.r = xs) := by show _ = _; rw [← hs0]
  have hs0e : Hid (s0.e = 0) := by show _ = _; rw [← hs0]
  unfold DnR
  rw [hs0]
  clear hs0
  go_enter Try.func57, Try.ntmps57
  go_wp2_with (go_at_call 75; refine D.out.mono ?_; rintro en w1 ⟨g, rfl, hr1, hg1, hb1⟩; have HR1 := Lib.hid hr1; clear hr1; have HB1 := Lib.hid hb1; clear hb1)
  go_loopw [4, 22] (fun v i wr => DnI w g m s0 n v i wr) (fun _ i _ => n - (intOf i).toNat)
  case atStart => exact ⟨0, Nat.zero_le _, rfl, OwnK.nil _ _ _ _, by rw [stK, hs0r.out, hs0e.out]; exact HR1.out, HB1.out, hg1, fun j e => by cases e⟩
  case round =>
    obtain ⟨k, hk, rfl, how, hr, hb, hgg, hsep⟩ := hrel
    by_cases hlt : k < n
    · have D2 := uint_any g (stK m s0 k).r (stK m s0 k).e m wr hr hm0 (by omega)
      change Calls _ _ _ _ (Reads _ wr g (.int .u64 (vU m (stK m s0 k))) (nU m (stK m s0 k)).r (nU m (stK m s0 k)).e) at D2
      have hx := vU_rng (m := m) (s := stK m s0 k) (stK_byte (by rw [hs0r.out]; exact HBY.out) k) hm0
      have E3 := Lib.hid (dnK_next m s0 k)
      have hln := dnK_len m s0 k
      have es : nU m (stK m s0 k) = stK m s0 (k + 1) := rfl
      rw [es] at D2
      have HD2 := Lib.hid D2; clear D2 es
      obtain ⟨x, HX⟩ : ∃ x, Hid (vU m (stK m s0 k) = x) := ⟨_, rfl⟩
      obtain ⟨L, HL⟩ : ∃ L, Hid (dnK m s0 k = L) := ⟨_, rfl⟩
      rw [HX.out] at hx HD2 E3
      rw [HL.out] at how hln E3
      have hx2 : 0 ≤ x ∧ x ≤ 100000 := by omega
      have HOW := Lib.hid how; clear how
      have HLN := Lib.hid hln; clear hln
      have HB := Lib.hid hb; clear hb
      have HGL := hr.lt
      clear hx hr
      have HSEP := Lib.hid hsep; clear hsep
      obtain ⟨_, _, _, e9, _, _, hcc⟩ := (HG.out wr HB.out).1
      cases e9
      rcases hcc with h0 | ⟨gb, goff, rfl, hgb, hcells⟩
      · omega
      have hcell := hcells k hlt
      rw [show (List.replicate n m).getD k 0 = m by simp [List.getD, hlt]] at hcell
      clear hcells
      go_wp2_with (first
        | (go_at_call 76; refine HD2.out.mono ?_; rintro en w4 ⟨rfl, hr4, hg4⟩; have HR4 := Lib.hid hr4; clear hr4; have HOW4 := Lib.hid (HOW.out.grown hg4 (fun j hj => by have := HSEP.out j hj; simp; omega)); have HB4 := Lib.hid (HB.out.trans (grownBy_below hg4 hgg HB.out.size)); clear hg4)
        | ((with_reducible refine at_app _ _ ?_); refine wpList_app1 info_int (by omega) Try.underlying33 _ _ rfl rfl w.heap.size _ L rfl (HOW4.out.grown (grownBy_of_below (row := none) ((Below.refl _ w4).alloc (Nat.le_refl _) _)) (fun n hn => by simp)) w4.heap.size 1 x rfl ((Blk.new rfl).cell 0) (by rw [HLN.out]; omega) (by have := HB4.out.size; simp; omega) ?_
           intro v5 w5 ho5 hg5 hn5
           have hs4 := HB4.out.size
           have hb5 : Below w.heap.size w w5 := (HB4.out.alloc hs4 (.cells #[Value.int IntKind.i64 x] 3)).grown hg5 (by simp; omega) (fun j hj => (HOW4.out.lt j hj).1)
           have HR5 := Lib.hid ((HR4.out.below ((Below.refl _ w4).alloc (Nat.le_refl _) (.cells #[Value.int IntKind.i64 x] 3))).belowN ((Below.refl (g + 1) _).grown hg5 (by have := HR4.out.lt; simp; omega) (fun j hj => HSEP.out j hj)) (Nat.lt_succ_self g))
           have HSEP5 : Hid (∀ j, v5.ownBlock = some j → g < j) := (fun j hj => by have h4 := HR4.out.lt; rcases hn5 with e | e; (rw [e] at hj; exact HSEP.out j hj); (rw [e] at hj; cases hj; simp; omega))
           have HB5 := Lib.hid hb5
           have HO5 := Lib.hid ho5; clear ho5 hg5 hn5 hs4 hb5))
      go_roundw
      case rel =>
        have ho := HO5.out
        rw [E3.out] at ho
        exact ⟨k + 1, hlt, by go_num, ho, HR5.out, HB5.out, hgg, HSEP5.out⟩
      case measure => simp [intOf]; omega
    · obtain rfl : k = n := by omega
      have D3 := Lib.hid (rest_any g _ _ wr hr)
      have D4 := Lib.hid (err_any g _ _ wr hr)
      have hlen : (stK m s0 k).r.length ≤ xs.length := by have := stK_len m s0 k; rw [hs0r.out] at this; exact this
      rw [HXL.out] at hlen
      have HI : Hid (Ints .i64 wr u4 (dnK m s0 k) ∧ New w.heap.size u4) := ⟨how.ints (by rw [dnK_len]; unfold maxLen; omega), fun z l c e _ => (how.lo z l c e).1⟩
      have HB := Lib.hid hb
      clear how hr hb hsep
      obtain ⟨rl, HRL⟩ : ∃ rl, Hid ((stK m s0 k).r.length = rl) := ⟨_, rfl⟩
      obtain ⟨re, HRE⟩ : ∃ re, Hid ((stK m s0 k).e = re) := ⟨_, rfl⟩
      rw [HRL.out] at D3 hlen
      rw [HRE.out] at D4
      go_wp2_with (first
        | (go_at_call 77; refine D3.out.mono ?_; rintro en w4 ⟨rfl, rfl⟩)
        | (go_at_call 78; refine D4.out.mono ?_; rintro en w5 ⟨rfl, rfl⟩))
      go_ret3
      exact ⟨_, by rw [HXL.out, HRL.out, HRE.out]; rfl, HI.out, HB.out⟩
end

/-! ScP -/
section
set_option linter.unusedVariables false
set_option linter.unusedSimpArgs false
open Go.RowKit

/-- What a decoder returns, as part k of an operation of kind K. -/
def PtR (k sz : Nat) (K : Int) (r : List Int) (w : World) (en : Ending) (w' : World) : Prop :=
  ∃ L n, en = .returned (T3 (List.toArray L) n (fE K r)) ∧ L.length = sz ∧ (∀ v ∈ L, v.oneCell' = true) ∧ (fE K r = 0 → n = (r.length : Int) - ((fS K r).r.length : Nat) ∧ OpIn (New w.heap.size) w' (flatP (((kOp K).parts nilV nilV nilV nilV).set k L)) (fD K r)) ∧ Below w.heap.size w w'

theorem fin_zero {e n : Int} {b : Bool} {X Z : Array Value} (h : finE e b = 0) : finX e b X Z = X ∧ finU e b n = n := by
  unfold finX finU; rw [if_pos h, if_pos h]; exact ⟨rfl, rfl⟩
theorem finE_zero {e : Int} {b : Bool} (h : finE e b = 0) : e = 0 ∧ b = true := by
  unfold finE at h
  split at h
  · rename_i h1; exact absurd h h1
  · cases b
    · simp at h
    · rename_i h1; exact ⟨by omega, rfl⟩
theorem finE_same {e : Int} {b c : Bool} (h : e = 0 → b = c) : finE e b = finE e c := by
  by_cases he : e = 0
  · rw [h he]
  · rw [finE_err _ he, finE_err _ he]
theorem flatP_list (ps : List (List Value)) : flatP ps = (ps.flatten).toArray := rfl

theorem blk_pt {r : List Int} (hr : byteL r) {w w' : World} {en : Ending} (h : Fin w (finX (bk11 ⟨r, 0⟩).e true (flatP (bkV ⟨r, 0⟩).parts) (flatP zBk.parts)) (finU (bk11 ⟨r, 0⟩).e true ((r.length : Int) - ((bk11 ⟨r, 0⟩).r.length : Nat))) (finE (bk11 ⟨r, 0⟩).e true) en w') : PtR 1 238 2 r w en w' := by
  obtain ⟨he, hb⟩ := h
  obtain ⟨x, hx, ex⟩ := blk_res (s0 := ⟨r, 0⟩) hr
  have hE : fE 2 r = finE (bk11 ⟨r, 0⟩).e true := rfl
  refine ⟨x.parts.flatten, _, by rw [he, ex, hE]; rfl, BkD.len238 hx, fun v hv => BkD.one x v (by rw [flatP_list]; simpa using hv), fun h0 => ?_, hb⟩
  rw [hE] at h0
  obtain ⟨e1, e2⟩ := fin_zero (n := ((r.length : Int) - ((bk11 ⟨r, 0⟩).r.length : Nat))) (X := flatP (bkV ⟨r, 0⟩).parts) (Z := flatP zBk.parts) h0
  refine ⟨by rw [e2]; rfl, nilV, nilV, nilV, nilV, ?_, ?_, ⟨intsV_nil _, New.nil _⟩, ⟨intsV_nil _, New.nil _⟩, ⟨intsV_nil _, New.nil _⟩, ⟨numsV_nil _, New.nil _⟩⟩
  · rw [e1] at ex
    have : x.parts.flatten = (bkV ⟨r, 0⟩).parts.flatten := by have := congrArg Array.toList ex; simpa [flatP] using this.symm
    rw [this]; rfl
  · have := kOp_ok (k := 2) (by unfold i64R; omega)
    exact ⟨this.1, bkV_ok hr, this.2.2⟩

theorem vd_pt {r : List Int} (hr : byteL r) {w w' : World} {en : Ending} (h : Fin w (finX (vdS ⟨r, 0⟩).e ((vdD ⟨r, 0⟩).kind != 0) (flatP (vdD ⟨r, 0⟩).parts) (flatP zVd.parts)) (finU (vdS ⟨r, 0⟩).e ((vdD ⟨r, 0⟩).kind != 0) ((r.length : Int) - ((vdS ⟨r, 0⟩).r.length : Nat))) (finE (vdS ⟨r, 0⟩).e ((vdD ⟨r, 0⟩).kind != 0)) en w') : PtR 5 34 6 r w en w' := by
  obtain ⟨he, hb⟩ := h
  obtain ⟨x, hx, ex⟩ := vd_res (s0 := ⟨r, 0⟩) hr ((vdD ⟨r, 0⟩).kind != 0)
  have hE : fE 6 r = finE (vdS ⟨r, 0⟩).e ((vdD ⟨r, 0⟩).kind != 0) := rfl
  refine ⟨x.parts.flatten, _, by rw [he, ex, hE]; rfl, VdD.len hx, fun v hv => vdOne x v (by rw [flatP_list]; simpa using hv), fun h0 => ?_, hb⟩
  rw [hE] at h0
  obtain ⟨e1, e2⟩ := fin_zero (n := ((r.length : Int) - ((vdS ⟨r, 0⟩).r.length : Nat))) (X := flatP (vdD ⟨r, 0⟩).parts) (Z := flatP zVd.parts) h0
  refine ⟨by rw [e2]; rfl, nilV, nilV, nilV, nilV, ?_, ?_, ⟨intsV_nil _, New.nil _⟩, ⟨intsV_nil _, New.nil _⟩, ⟨intsV_nil _, New.nil _⟩, ⟨numsV_nil _, New.nil _⟩⟩
  · rw [e1] at ex
    have : x.parts.flatten = (vdD ⟨r, 0⟩).parts.flatten := by have := congrArg Array.toList ex; simpa [flatP] using this.symm
    rw [this]; rfl
  · have := kOp_ok (k := 6) (by unfold i64R; omega)
    exact ⟨this.1, this.2.1, this.2.2.1, this.2.2.2.1, this.2.2.2.2.1, this.2.2.2.2.2.1, vdD_ok hr, this.2.2.2.2.2.2.2⟩

theorem att_ptG {r : List Int} (hr : byteL r) {w w' : World} {en : Ending} {lv : Value} {b : Bool} (hlv : ∃ a l c, lv = .slice a l c)
    (he : en = .returned (T3 (finX (atS ⟨r, 0⟩).e b (flatP (atD ⟨r, 0⟩ lv).parts) (flatP zAt.parts)) (finU (atS ⟨r, 0⟩).e b ((r.length : Int) - ((atS ⟨r, 0⟩).r.length : Nat))) (finE (atS ⟨r, 0⟩).e b)))
    (hI : (atS ⟨r, 0⟩).e = 0 → b = (vlE (atL ⟨r, 0⟩) 1024 == 0) ∧ Ints .i64 w' lv (atL ⟨r, 0⟩) ∧ New w.heap.size lv) (hb : Below w.heap.size w w') : PtR 2 67 3 r w en w' := by
  have hE : fE 3 r = finE (atS ⟨r, 0⟩).e (vlE (atL ⟨r, 0⟩) 1024 == 0) := rfl
  have hE2 : finE (atS ⟨r, 0⟩).e b = fE 3 r := by rw [hE]; exact finE_same fun h => (hI h).1
  have hs := at_shape (s0 := ⟨r, 0⟩) hr lv b hlv
  refine ⟨(finX (atS ⟨r, 0⟩).e b (flatP (atD ⟨r, 0⟩ lv).parts) (flatP zAt.parts)).toList, _, by rw [he, hE2], by simpa using hs.1, fun v hv => hs.2 v (by simpa using hv), fun h0 => ?_, hb⟩
  rw [← hE2] at h0
  obtain ⟨e1, e2⟩ := fin_zero (n := ((r.length : Int) - ((atS ⟨r, 0⟩).r.length : Nat))) (X := flatP (atD ⟨r, 0⟩ lv).parts) (Z := flatP zAt.parts) h0
  obtain ⟨_, hi, hn⟩ := hI (finE_zero h0).1
  have b1 : byteL (nU mxU ⟨r, 0⟩).r := nU_byte hr
  refine ⟨by rw [e2]; rfl, lv, nilV, nilV, nilV, ?_, ?_, ⟨⟨hi, lsV_rng (s := atS3 ⟨r, 0⟩) (nC_byte (nW_byte b1))⟩, hn⟩, ⟨intsV_nil _, New.nil _⟩, ⟨intsV_nil _, New.nil _⟩, ⟨numsV_nil _, New.nil _⟩⟩
  · rw [e1]; rfl
  · have := kOp_ok (k := 3) (by unfold i64R; omega)
    have ha : (atD ⟨r, 0⟩ nilV).ok := ⟨vU_rng (m := mxU) (s := ⟨r, 0⟩) hr (by unfold mxU; omega), vW_is b1, vCD_ok (nW_byte b1)⟩
    exact ⟨this.1, this.2.1, ha, this.2.2.2⟩

theorem att_ptC {r : List Int} (hr : byteL r) {w w' : World} {en : Ending} (h : AttA w (atD ⟨r, 0⟩) (atL ⟨r, 0⟩) (atS ⟨r, 0⟩) r.length en w') : PtR 2 67 3 r w en w' := by
  obtain ⟨lv, b, h1, h2, h3, h4⟩ := h
  exact att_ptG hr (ints_shape h3.1) h1 (fun _ => ⟨h2, h3⟩) h4
theorem sla_ptG {r : List Int} (hr : byteL r) {w w' : World} {en : Ending} {lv mv : Value} {b : Bool} (hlv : ∃ a l c, lv = .slice a l c) (hmv : ∃ a l c, mv = .slice a l c)
    (he : en = .returned (T3 (finX (clS (clS ⟨r, 0⟩)).e b (flatP [(clD ⟨r, 0⟩ lv).cells, (clD (clS ⟨r, 0⟩) mv).cells]) (flatP [zCl.cells, zCl.cells])) (finU (clS (clS ⟨r, 0⟩)).e b ((r.length : Int) - ((clS (clS ⟨r, 0⟩)).r.length : Nat))) (finE (clS (clS ⟨r, 0⟩)).e b)))
    (hI : (clS (clS ⟨r, 0⟩)).e = 0 → b = (vlsE [clL ⟨r, 0⟩, clL (clS ⟨r, 0⟩)] == 0) ∧ (Ints .i64 w' lv (clL ⟨r, 0⟩) ∧ New w.heap.size lv) ∧ (Ints .i64 w' mv (clL (clS ⟨r, 0⟩)) ∧ New w.heap.size mv)) (hb : Below w.heap.size w w') : PtR 3 70 4 r w en w' := by
  have hE : fE 4 r = finE (clS (clS ⟨r, 0⟩)).e (vlsE [clL ⟨r, 0⟩, clL (clS ⟨r, 0⟩)] == 0) := rfl
  have hE2 : finE (clS (clS ⟨r, 0⟩)).e b = fE 4 r := by rw [hE]; exact finE_same fun h => (hI h).1
  have hs := sl_shape (s0 := ⟨r, 0⟩) hr lv mv b hlv hmv
  refine ⟨(finX (clS (clS ⟨r, 0⟩)).e b (flatP [(clD ⟨r, 0⟩ lv).cells, (clD (clS ⟨r, 0⟩) mv).cells]) (flatP [zCl.cells, zCl.cells])).toList, _, by rw [he, hE2], by simpa using hs.1, fun v hv => hs.2 v (by simpa using hv), fun h0 => ?_, hb⟩
  rw [← hE2] at h0
  obtain ⟨e1, e2⟩ := fin_zero (n := ((r.length : Int) - ((clS (clS ⟨r, 0⟩)).r.length : Nat))) (X := flatP [(clD ⟨r, 0⟩ lv).cells, (clD (clS ⟨r, 0⟩) mv).cells]) (Z := flatP [zCl.cells, zCl.cells]) h0
  obtain ⟨_, hi, hj⟩ := hI (finE_zero h0).1
  have hr2 : byteL (clS ⟨r, 0⟩).r := clS_byte hr
  refine ⟨by rw [e2]; rfl, nilV, lv, mv, nilV, ?_, ?_, ⟨intsV_nil _, New.nil _⟩, ⟨⟨hi.1, clL_rng hr⟩, hi.2⟩, ⟨⟨hj.1, clL_rng hr2⟩, hj.2⟩, ⟨numsV_nil _, New.nil _⟩⟩
  · rw [e1]; rfl
  · have := kOp_ok (k := 4) (by unfold i64R; omega)
    have h1 : (clD ⟨r, 0⟩ nilV).ok := clD_ok hr _
    have h2 : (clD (clS ⟨r, 0⟩) nilV).ok := clD_ok hr2 _
    exact ⟨this.1, this.2.1, this.2.2.1, h1, h2, this.2.2.2.2.2⟩

theorem sla_ptC {r : List Int} (hr : byteL r) {w w' : World} {en : Ending} (h : SlaA w (clD ⟨r, 0⟩) (clD (clS ⟨r, 0⟩)) (clL ⟨r, 0⟩) (clL (clS ⟨r, 0⟩)) (clS (clS ⟨r, 0⟩)) r.length en w') : PtR 3 70 4 r w en w' := by
  obtain ⟨lv, mv, b, h1, h2, h3, h4, h5⟩ := h
  exact sla_ptG hr (ints_shape h3.1) (ints_shape h4.1) h1 (fun _ => ⟨h2, h3, h4⟩) h5
theorem tab_ptG {r : List Int} (hr : byteL r) {w w' : World} {en : Ending} {lv : Value} (hlv : ∃ a l c, lv = .slice a l c)
    (he : en = .returned (T3 (finX (tdS ⟨r, 0⟩).e true (flatP [(vCD ⟨r, 0⟩).cells, [lv]]) (flatP zTb.parts)) (finU (tdS ⟨r, 0⟩).e true ((r.length : Int) - ((tdS ⟨r, 0⟩).r.length : Nat))) (finE (tdS ⟨r, 0⟩).e true)))
    (hI : (tdS ⟨r, 0⟩).e = 0 → Ints .u64 w' lv (tdL ⟨r, 0⟩) ∧ New w.heap.size lv) (hb : Below w.heap.size w w') : PtR 4 34 5 r w en w' := by
  have hE : fE 5 r = finE (tdS ⟨r, 0⟩).e true := rfl
  have hs := tb_shape (s0 := ⟨r, 0⟩) hr lv hlv
  refine ⟨(finX (tdS ⟨r, 0⟩).e true (flatP [(vCD ⟨r, 0⟩).cells, [lv]]) (flatP zTb.parts)).toList, _, by rw [he, hE], by simpa using hs.1, fun v hv => hs.2 v (by simpa using hv), fun h0 => ?_, hb⟩
  rw [hE] at h0
  obtain ⟨e1, e2⟩ := fin_zero (n := ((r.length : Int) - ((tdS ⟨r, 0⟩).r.length : Nat))) (X := flatP [(vCD ⟨r, 0⟩).cells, [lv]]) (Z := flatP zTb.parts) h0
  obtain ⟨hi, hn⟩ := hI (finE_zero h0).1
  refine ⟨by rw [e2]; rfl, nilV, nilV, nilV, lv, ?_, ?_, ⟨intsV_nil _, New.nil _⟩, ⟨intsV_nil _, New.nil _⟩, ⟨intsV_nil _, New.nil _⟩, ⟨⟨hi, tdL_rng hr⟩, hn⟩⟩
  · rw [e1]; rfl
  · have := kOp_ok (k := 5) (by unfold i64R; omega)
    exact ⟨this.1, this.2.1, this.2.2.1, this.2.2.2.1, this.2.2.2.2.1, vCD_ok hr, this.2.2.2.2.2.2⟩

theorem tab_ptC {r : List Int} (hr : byteL r) {w w' : World} {en : Ending} (h : TabR w (vCD ⟨r, 0⟩) (tdL ⟨r, 0⟩) (tdS ⟨r, 0⟩) r.length en w') : PtR 4 34 5 r w en w' := by
  obtain ⟨lv, h1, h2, h3⟩ := h
  exact tab_ptG hr (ints_shape h2.1) h1 (fun _ => h2) h3
end

/-! Els -/
section
set_option linter.unusedVariables false
set_option linter.unusedSimpArgs false
open Go.RowKit

/-- What a row asks of the words 'these cells are this element; its own slices lie where P says'. -/
structure ElOK {α : Type} (sz : Nat) (El : (Value → Prop) → World → Array Value → α → Prop) : Prop where
  size : ∀ {P w X a}, El P w X a → X.size = sz
  one : ∀ {P w X a}, El P w X a → ∀ v ∈ X, v.oneCell' = true
  mono : ∀ {P Q w X a}, El P w X a → (∀ v, P v → Q v) → El Q w X a
  grown : ∀ {P w w' X a row}, El P w X a → w.grownBy w' row → (∀ g v, row = some g → P v → Off g v) → El P w' X a
  off : ∀ {P w X a g}, El P w X a → w.heap.size ≤ g → El (fun y => P y ∧ Off g y) w X a

section
variable {α : Type} {sz : Nat} {El : (Value → Prop) → World → Array Value → α → Prop}

theorem ElOK.below (E : ElOK sz El) {P : Value → Prop} {w w' : World} {X : Array Value} {a : α} (h : El P w X a) (hb : Below w.heap.size w w') : El P w' X a :=
  E.grown h (row := none) ⟨hb.os, hb.tape, hb.output, hb.size, fun k hk _ => hb.block k hk⟩ fun g v e => by cases e

/-- The cells of a row. -/
def rowsL (Xs : List (Array Value)) : List Value := (Xs.map Array.toList).flatten
theorem rowsL_app (Xs Ys : List (Array Value)) : rowsL (Xs ++ Ys) = rowsL Xs ++ rowsL Ys := by simp [rowsL]
theorem rowsL_at {Xs : List (Array Value)} (h : ∀ X ∈ Xs, X.size = sz) {i : Nat} (hi : i < Xs.length) {j : Nat} (hj : j < sz) : (rowsL Xs)[i * sz + j]? = Xs[i].toList[j]? := by
  induction Xs generalizing i with
  | nil => simp at hi
  | cons X r ih =>
    have h1 := h X (by simp)
    have h2 : ∀ Y ∈ r, Y.size = sz := fun Y hY => h Y (by simp [hY])
    have e : rowsL (X :: r) = X.toList ++ rowsL r := rfl
    rw [e]
    cases i with
    | zero => rw [Nat.zero_mul, Nat.zero_add, List.getElem?_append_left (by simp [h1]; omega)]; rfl
    | succ i =>
      have hs : (i + 1) * sz + j = sz + (i * sz + j) := by rw [Nat.add_mul]; omega
      rw [hs, List.getElem?_append_right (by simp [h1]), Array.length_toList, h1, Nat.add_sub_cancel_left]
      exact ih h2 (by simpa using hi)

/-- All elements. -/
def AllEl (El : (Value → Prop) → World → Array Value → α → Prop) (P : Value → Prop) (w : World) (Xs : List (Array Value)) (ds : List α) : Prop := Xs.length = ds.length ∧ ∀ p ∈ Xs.zip ds, El P w p.1 p.2
theorem AllEl.nil (P : Value → Prop) (w : World) : AllEl El P w [] [] := ⟨rfl, fun p hp => by simp at hp⟩
theorem AllEl.app {P : Value → Prop} {w : World} {Xs Ys : List (Array Value)} {ds es : List α} (h : AllEl El P w Xs ds) (h2 : AllEl El P w Ys es) : AllEl El P w (Xs ++ Ys) (ds ++ es) :=
  ⟨by rw [List.length_append, List.length_append, h.1, h2.1], fun p hp => by
    rw [List.zip_append h.1, List.mem_append] at hp
    rcases hp with hp | hp
    · exact h.2 p hp
    · exact h2.2 p hp⟩
theorem AllEl.one {P : Value → Prop} {w : World} {X : Array Value} {d : α} (h : El P w X d) : AllEl El P w [X] [d] := ⟨rfl, fun p hp => by simp at hp; subst hp; exact h⟩
theorem AllEl.imp {P Q : Value → Prop} {w w' : World} {Xs : List (Array Value)} {ds : List α} (h : AllEl El P w Xs ds) (hi : ∀ X d, El P w X d → El Q w' X d) : AllEl El Q w' Xs ds := ⟨h.1, fun p hp => hi _ _ (h.2 p hp)⟩
theorem AllEl.sizes (E : ElOK sz El) {P : Value → Prop} {w : World} {Xs : List (Array Value)} {ds : List α} (h : AllEl El P w Xs ds) : ∀ X ∈ Xs, X.size = sz := by
  intro X hX
  obtain ⟨i, hi, rfl⟩ := List.mem_iff_getElem.1 hX
  have := h.1
  have hp : (Xs.zip ds)[i]'(by rw [List.length_zip]; omega) = (Xs[i], ds[i]) := by simp
  exact E.size (h.2 (Xs[i], ds[i]) (hp ▸ List.getElem_mem _))
theorem AllEl.at {P : Value → Prop} {w : World} {Xs : List (Array Value)} {ds : List α} (h : AllEl El P w Xs ds) {i : Nat} (hi : i < ds.length) : El P w (Xs[i]'(by rw [h.1]; exact hi)) ds[i] := by
  have := h.1
  have hp : (Xs.zip ds)[i]'(by rw [List.length_zip]; omega) = (Xs[i], ds[i]) := by simp
  exact h.2 (Xs[i], ds[i]) (hp ▸ List.getElem_mem _)

/-- The elements' own slices lie outside the row. -/
def OffB (v : Value) (y : Value) : Prop := ∀ g, v.ownBlock = some g → Off g y

/-- A slice of structs in a row of the call's own, from block B on. -/
def OwnEl (El : (Value → Prop) → World → Array Value → α → Prop) (e : TypeId) (sz : Nat) (w : World) (B : Nat) (v : Value) (ds : List α) : Prop :=
  ∃ Xs, w.ownsRow B e sz v ds.length (rowsL Xs) ∧ AllEl El (OffB v) w Xs ds

theorem OwnEl.nil {e : TypeId} (w : World) (B : Nat) : OwnEl El e sz w B (.slice none 0 0) [] := ⟨[], World.ownsRow_nil w B e sz, AllEl.nil _ _⟩
theorem OwnEl.lt {e : TypeId} {w : World} {B : Nat} {v : Value} {ds : List α} (h : OwnEl El e sz w B v ds) : ∀ n, v.ownBlock = some n → B ≤ n ∧ n < w.heap.size := by
  obtain ⟨Xs, h1, _⟩ := h; exact World.ownsRow.lt h1
theorem OwnEl.shape {e : TypeId} {w : World} {B : Nat} {v : Value} {ds : List α} (h : OwnEl El e sz w B v ds) : ∃ a c, v = .slice a ds.length c ∧ ds.length ≤ maxLen ∧ ds.length ≤ c ∧ c ≤ maxLen := by
  obtain ⟨Xs, h1, _⟩ := h
  rcases h1.2 with ⟨rfl, h0⟩ | ⟨g, cap, cur, rfl, _, _, h2, h3, _⟩
  · exact ⟨_, _, by rw [h0], by omega, by omega, Nat.zero_le _⟩
  · exact ⟨_, _, rfl, by omega, h2, h3⟩
theorem OwnEl.grown (E : ElOK sz El) {e : TypeId} {w w' : World} {B : Nat} {v : Value} {ds : List α} {row : Option Nat} (h : OwnEl El e sz w B v ds) (hg : w.grownBy w' row) (hne : ∀ n, v.ownBlock = some n → some n ≠ row)
    (hel : ∀ X d, El (OffB v) w X d → El (OffB v) w' X d) : OwnEl El e sz w' B v ds := by
  obtain ⟨Xs, h1, h2⟩ := h
  refine ⟨Xs, ⟨h1.1, ?_⟩, h2.imp hel⟩
  rcases h1.2 with h' | ⟨g, cap, cur, rfl, h3, h4, h5⟩
  · exact .inl h'
  · exact .inr ⟨g, cap, cur, rfl, h3, by rw [hg.block g (World.ownsRow.lt h1 g rfl).2 (hne g rfl)]; exact h4, h5⟩
theorem OwnEl.call (E : ElOK sz El) {e : TypeId} {w w' : World} {B : Nat} {v : Value} {ds : List α} (h : OwnEl El e sz w B v ds) (hb : Below w.heap.size w w') : OwnEl El e sz w' B v ds :=
  h.grown E (row := none) ⟨hb.os, hb.tape, hb.output, hb.size, fun k hk _ => hb.block k hk⟩ (fun n _ => by simp) fun X d hX => E.below hX hb

/-- One element is appended. -/
theorem run_appEl (E : ElOK sz El) {t e ty : TypeId} {z : Value} {bytes : Nat} (ht : Try.prog.underlying t = some (.slice e)) (hinfo : (Try.prog.info? e).map (fun i => (i.zero, i.size, i.bytes)) = some (some z, sz, bytes)) (hzs : z.cells.size = sz) (hsz : 0 < sz)
    (w : World) (B : Nat) (v : Value) (ds : List α) (hown : OwnEl El e sz w B v ds) (g c : Nat) (X : Array Value) (d : α) (hX : El (OffB v) w X d) (hg : w.rangeAt g 0 X.toList) (h47 : (ds.length + 1) * bytes ≤ 140737488355328) (hm : ds.length + 1 ≤ maxLen) (hB : B ≤ w.heap.size) :
    ∃ v' w', (Builtin.append_ #[t, t] ty #[v, .slice (some ⟨g, 0, none⟩) 1 c]).run Try.prog w = .ok v' w' ∧ OwnEl El e sz w' B v' (ds ++ [d]) ∧ w.grownBy w' v.ownBlock ∧ (v'.ownBlock = v.ownBlock ∨ v'.ownBlock = some w.heap.size) := by
  obtain ⟨i0, hi, hz0, hz1, hz2⟩ := info_parts hinfo
  obtain ⟨Xs, hr, hA⟩ := hown
  obtain ⟨v', w', h1, h2, h3, _, h4⟩ := run_append_own_at (P := Try.prog) w B t ty e i0 z sz bytes ht hi hz0 hz1 hz2 hzs hsz v ds.length _ hr ⟨g, 0, none⟩ 1 c X.toList (by simp [E.size hX])
    (fun j u hj => by rw [Go.WideShapes.add_plain]; simpa using hg j u hj)
    (fun u hu => E.one hX u (by simpa using hu)) hm h47 hB
  refine ⟨v', w', h1, ⟨Xs ++ [X], ?_, ?_⟩, h3, h4⟩
  · rw [rowsL_app, show rowsL [X] = X.toList by simp [rowsL], List.length_append]; exact h2
  · have hold : AllEl El (OffB v) w (Xs ++ [X]) (ds ++ [d]) := hA.app (AllEl.one hX)
    rcases h4 with h4 | h4
    · refine hold.imp fun Y b hY => E.mono (E.grown hY h3 fun g' y e hy => hy g' e) fun y hy g' e => hy g' (h4 ▸ e)
    · have hnew : AllEl El (fun y => OffB v y ∧ Off w.heap.size y) w (Xs ++ [X]) (ds ++ [d]) := hold.imp fun Y b hY => E.off hY (Nat.le_refl _)
      refine hnew.imp fun Y b hY => E.mono (E.grown hY h3 fun g' y e hy => hy.1 g' e) fun y hy g' e => by rw [h4] at e; cases e; exact hy.2

/-- .. in a walk. -/
theorem wpList_appEl (E : ElOK sz El) {t e : TypeId} {z : Value} {bytes : Nat} (ht : Try.prog.underlying t = some (.slice e)) (hinfo : (Try.prog.info? e).map (fun i => (i.zero, i.size, i.bytes)) = some (some z, sz, bytes)) (hzs : z.cells.size = sz) (hsz : 0 < sz)
    {ops : Array Oper} {rest : List Oper} {o : Oper} {a : Act} {w : World} {Q : Exit → Act → World → Prop} (s x : Operand)
    (ho : o.op = .call { callee := .builtin .append, args := #[s, x], argTypes := #[t, t] }) (hw : Region.wanted o (yielded ops a.tmps) = true)
    (B : Nat) (v : Value) (ds : List α) (hs : a.eval s = v) (hown : OwnEl El e sz w B v ds) (g c : Nat) (X : Array Value) (d : α) (hx : a.eval x = .slice (some ⟨g, 0, none⟩) 1 c) (hX : El (OffB v) w X d) (hg : w.rangeAt g 0 X.toList)
    (h47 : (ds.length + 1) * bytes ≤ 140737488355328) (hm : ds.length + 1 ≤ maxLen) (hB : B ≤ w.heap.size)
    (h : ∀ v' w', OwnEl El e sz w' B v' (ds ++ [d]) → w.grownBy w' v.ownBlock → (v'.ownBlock = v.ownBlock ∨ v'.ownBlock = some w.heap.size) → wpList Try.prog ops Q rest (a.put o.dst v') w') : wpList Try.prog ops Q (o :: rest) a w :=
  BigFrame.wpList_want hw fun _ hK => by
    obtain ⟨v', w', h1, h2, h3, h4⟩ := run_appEl E (ty := o.type) ht hinfo hzs hsz w B v ds hown g c X d hX hg h47 hm hB
    unfold Oper.wp execOp
    simp only [ho, resolve, invoke, builtin, Sem.run_bind, Sem.run_pure, Result.andThen_ok, List.map_toArray, List.map_cons, List.map_nil, hs, hx, h1]
    exact hK _ _ (h v' w' h2 h3 h4)

/-- A value that is a slice of these elements. -/
def ElV (El : (Value → Prop) → World → Array Value → α → Prop) (sz : Nat) (w : World) (v : Value) (ds : List α) : Prop :=
  ∃ a cap, v = .slice a ds.length cap ∧ ds.length ≤ maxLen ∧ (ds.length = 0 ∨ ∃ b off, a = some ⟨b, off, none⟩ ∧ b < w.heap.size ∧ ∃ Xs, w.rangeAt b off (rowsL Xs) ∧ AllEl El (fun _ => True) w Xs ds)

theorem OwnEl.elV (E : ElOK sz El) {e : TypeId} {w : World} {B : Nat} {v : Value} {ds : List α} (h : OwnEl El e sz w B v ds) : ElV El sz w v ds := by
  obtain ⟨Xs, h1, h2⟩ := h
  have hlt := World.ownsRow.lt h1
  have hcell := fun (g cap : Nat) (e : v = .slice (some ⟨g, 0, none⟩) ds.length cap) => (e ▸ h1 : w.ownsRow B _ sz (.slice (some ⟨g, 0, none⟩) ds.length cap) ds.length (rowsL Xs))
  rcases h1.2 with ⟨rfl, h0⟩ | ⟨g, cap, cur, rfl, h3, h4, h5, h6, h7, h8⟩
  · exact ⟨none, 0, by rw [h0], by omega, .inl h0⟩
  · refine ⟨_, _, rfl, by omega, .inr ⟨g, 0, rfl, (hlt g rfl).2, Xs, fun j u hj => ?_, h2.imp fun X d hX => E.mono hX fun _ _ => trivial⟩⟩
    have hj' : j < ds.length * sz := by rw [← h1.1]; exact (List.getElem?_eq_some_iff.1 hj).1
    rw [← h8, List.getElem?_take_of_lt hj'] at hj
    simp only [World.cell?, h4, Nat.zero_add]
    simpa using hj

theorem ElV.below (E : ElOK sz El) {w w' : World} {v : Value} {ds : List α} (h : ElV El sz w v ds) (hb : Below w.heap.size w w') : ElV El sz w' v ds := by
  obtain ⟨a, cap, rfl, hl, hr⟩ := h
  refine ⟨a, cap, rfl, hl, ?_⟩
  rcases hr with h0 | ⟨b, off, rfl, hlt, Xs, h1, h2⟩
  · exact .inl h0
  · exact .inr ⟨b, off, rfl, Nat.lt_of_lt_of_le hlt hb.size, Xs, fun j u hj => by rw [hb.cell (p := ⟨b, off + j, none⟩) hlt]; exact h1 j u hj, h2.imp fun X d hX => E.below hX hb⟩

/-- One element of it. -/
theorem ElV.at (E : ElOK sz El) {w : World} {a : Option Addr} {l cap : Nat} {ds : List α} (h : ElV El sz w (.slice a l cap) ds) {i : Nat} (hi : i < ds.length) :
    ∃ b off X, a = some ⟨b, off, none⟩ ∧ l = ds.length ∧ b < w.heap.size ∧ w.rangeAt b (off + i * sz) X.toList ∧ El (fun _ => True) w X ds[i] ∧ X.size = sz ∧ ∀ v ∈ X, v.oneCell' = true := by
  obtain ⟨a', cap', e, hl, hr⟩ := h
  cases e
  rcases hr with h0 | ⟨b, off, rfl, hlt, Xs, h1, h2⟩
  · omega
  · have hX := h2.at hi
    have hs := E.size hX
    refine ⟨b, off, _, rfl, rfl, hlt, fun j u hj => ?_, hX, hs, E.one hX⟩
    have hj' : j < sz := by rw [← hs, ← Array.length_toList]; exact (List.getElem?_eq_some_iff.1 hj).1
    rw [Nat.add_assoc]
    exact h1 _ _ (by rw [rowsL_at (h2.sizes E) (by rw [h2.1]; exact hi) hj']; exact hj)

end

/-! ### A slice of one struct, written out -/
theorem foldl_laidE : ∀ (xs : List Value) (n : Nat) (Z : Array Value) (i : Nat), n + xs.length ≤ Z.size → ((xs.zipIdx n).foldl (fun cs x => cs.setIfInBounds x.2 x.1) Z)[i]? = if n ≤ i ∧ i < n + xs.length then xs[i - n]? else Z[i]?
  | [], n, Z, i, _ => by rw [if_neg (by simp only [List.length_nil]; omega)]; rfl
  | x :: xs, n, Z, i, h => by
    simp only [List.length_cons] at h
    rw [List.zipIdx_cons, List.foldl_cons, foldl_laidE xs (n + 1) _ i (by simp; omega)]
    simp only [List.length_cons]
    by_cases e : i = n
    · subst e
      rw [if_neg (by omega), if_pos (by omega), Nat.sub_self, Array.getElem?_setIfInBounds, if_pos rfl, if_pos (by omega)]; rfl
    · by_cases c : n + 1 ≤ i ∧ i < n + 1 + xs.length
      · rw [if_pos c, if_pos (by omega)]
        obtain ⟨t, rfl⟩ : ∃ t, i = n + 1 + t := ⟨i - (n + 1), by omega⟩
        rw [show n + 1 + t - (n + 1) = t by omega, show n + 1 + t - n = t + 1 by omega]; rfl
      · rw [if_neg c, if_neg (by omega), Array.getElem?_setIfInBounds, if_neg (by omega)]
theorem foldl_wholeE (xs : List Value) (Z : Array Value) (h : Z.size = xs.length) : xs.zipIdx.foldl (fun cs x => cs.setIfInBounds x.2 x.1) Z = xs.toArray := by
  apply Array.ext_getElem?
  intro i
  rw [foldl_laidE xs 0 Z i (by omega)]
  by_cases c : i < xs.length
  · rw [if_pos (by omega)]; simp
  · rw [if_neg (by omega), Array.getElem?_eq_none (by omega), Array.getElem?_eq_none (by simp; omega)]
theorem foldl_wholeA (X Z : Array Value) (h : Z.size = X.size) : X.zipIdx.foldl (fun cs x => cs.setIfInBounds x.2 x.1) Z = X := by
  have e : X.zipIdx.foldl (fun cs x => cs.setIfInBounds x.2 x.1) Z = X.toList.zipIdx.foldl (fun cs x => cs.setIfInBounds x.2 x.1) Z := by
    rw [← Array.foldl_toList, Array.toList_zipIdx]
  rw [e, foldl_wholeE _ _ (by simpa using h)]

theorem foldl_wholeB (X Z : Array Value) (n : Nat) (hn : n = X.size) (h : Z.size = n) : Array.foldl (fun cs x => cs.setIfInBounds x.2 x.1) Z X.zipIdx 0 n = X := by
  have e : n = X.zipIdx.size := by rw [hn, Array.size_zipIdx]
  rw [e]
  exact foldl_wholeA X Z (by rw [h, hn])

theorem buildEl {P : Program} {t e : TypeId} {Z X : Array Value} {sz : Nat} (ht : P.underlying t = some (.slice e)) (hz : ∀ w, (zeroValue e).run P w = .ok (.agg Z) w) (hi : (P.info? e).map (·.size) = some sz) (hZ : Z.size = sz) (hX : X.size = sz) (h0 : 0 < sz) (h24 : sz ≤ 16777216) (u : World) :
    (Instr.buildSlice t 1 #[(0, .agg X)]).run P u = .ok (.slice (some ⟨u.heap.size, 0, none⟩) 1 1) (u.alloc (.cells X e)) := by
  obtain ⟨i, hi1, hi2⟩ : ∃ i, P.info? e = some i ∧ i.size = sz := by
    cases h : P.info? e with
    | none => simp [h] at hi
    | some i => exact ⟨i, rfl, by simpa [h] using hi⟩
  have hso : ∀ w, (sizeOf e).run P w = .ok sz w := fun w => by simp [sizeOf, typeInfo, hi1, hi2]
  simp [Instr.buildSlice, Instr.fill, go_sem, hz, hX, hZ, Value.cells, run_underlying ht, hso]
  rw [if_neg (by omega), if_neg (by omega), foldl_wholeB X _ sz hX.symm (by simp)]

theorem wpList_buildSliceE {P : Program} {ops : Array Oper} {rest : List Oper} {op : Oper} {a : Act} {w w' : World} {Q : Exit → Act → World → Prop} (hgd : op.guard = none) (t : TypeId) (n : Nat) (ps : Array (Nat × Operand)) (ho : op.op = .buildSlice t n ps)
    (ps' : Array (Nat × Value)) (hps : ps.map (fun (i, x) => (i, a.eval x)) = ps') (v : Value) (hr : (Instr.buildSlice t n ps').run P w = .ok v w') (h : wpList P ops Q rest (a.put op.dst v) w') : wpList P ops Q (op :: rest) a w :=
  wpList_plain hgd fun _ hK => by
    unfold Oper.wp execOp
    simp only [ho, hps, Sem.run_bind, hr, Result.andThen_ok, Sem.run_pure]
    exact hK _ _ h
theorem at_buildSliceE {P : Program} {ops : Array Oper} {Q : Exit → Act → World → Prop} (dst : Option Tmp) {ty ty' : TypeId} {n : Nat} {ps : Array (Nat × Operand)} {pos : String} {aft : Array Edge} {g : Option (Nat × Bool)} {rest : List Oper} {a : Act} {w : World}
    (h : wpList P ops Q (⟨dst, .buildSlice ty n ps, ty', pos, aft, g⟩ :: rest) a w) : wpList P ops Q (⟨dst, .buildSlice ty n ps, ty', pos, aft, g⟩ :: rest) a w := h

theorem belT {a b c : World} (h1 : Below a.heap.size a b) (h2 : Below b.heap.size b c) : Below a.heap.size a c := h1.trans (h2.mono h1.size)
theorem ElV.shape {α : Type} {sz : Nat} {El : (Value → Prop) → World → Array Value → α → Prop} {w : World} {v : Value} {ds : List α} (h : ElV El sz w v ds) : ∃ a c, v = .slice a ds.length c ∧ ds.length ≤ maxLen := by
  obtain ⟨a, c, e, hl, _⟩ := h; exact ⟨a, c, e, hl⟩
end

/-! ScF -/
section
set_option linter.unusedVariables false
set_option linter.unusedSimpArgs false
open Go.RowKit

theorem results_tmp4 {fn : Func} {t u v x : Tmp} (h : fn.results = #[.tmp t, .tmp u, .tmp v, .tmp x]) (tmps : Array Value) (P : Program) (w : World) :
    (results fn tmps).run P w = .ok (.tuple #[tmps.getD t undef, tmps.getD u undef, tmps.getD v undef, tmps.getD x undef]) w := by
  simp [results, h]

theorem ints_at {k : IntKind} {w : World} {a : Option Addr} {l c : Nat} {xs : List Int} (h : Ints k w (.slice a l c) xs) {i : Nat} (hi : i < xs.length) : ∃ b off, a = some ⟨b, off, none⟩ ∧ w.cell? ⟨b, off + i, none⟩ = some (.int k (xs.getD i 0)) := by
  obtain ⟨a', l', c', e, hl, hm, hr⟩ := h
  cases e
  rcases hr with h0 | ⟨b, off, rfl, _, hc⟩
  · omega
  · exact ⟨b, off, rfl, hc i (by omega)⟩

set_option maxRecDepth 100000 in
set_option maxHeartbeats 4000000 in
theorem dcr_any (v : Value) (r : List Int) (w : World) (h : Byt w v r) :
    Calls Try.prog 84 #[v] w fun en w' => en = .returned (.tuple #[.int .i64 (vU 32768 ⟨r, 0⟩), .int .i64 (vU 32768 (nU 32768 ⟨r, 0⟩)), .int .i64 ((r.length : Int) - ((fS 8 r).r.length : Nat)), .int .i64 (fS 8 r).e]) ∧ Below w.heap.size w w' := by
  obtain ⟨va, vl, vc, rfl⟩ := h.shape
  have hba := (Below.refl w.heap.size w).alloc (Nat.le_refl _) (.cells #[.int .u64 32768, .int .u64 32768] 22)
  have B0 : Blk (w.alloc (.cells #[.int .u64 32768, .int .u64 32768] 22)) w.heap.size #[.int .u64 32768, .int .u64 32768] := Blk.new rfl
  have hN : NumsV (w.alloc (.cells #[.int .u64 32768, .int .u64 32768] 22)) (.slice (some ⟨w.heap.size, 0, none⟩) 2 2) (List.replicate 2 32768) :=
    ⟨⟨_, _, _, rfl, rfl, by unfold maxLen; omega, .inr ⟨_, 0, rfl, B0.lt, fun i hi => by
      rw [Nat.zero_add, B0.cell]
      match i, hi with
      | 0, _ => rfl
      | 1, _ => rfl⟩⟩, fun x hx => by have := List.eq_of_mem_replicate hx; omega⟩
  have D := decn_any (.slice va vl vc) (.slice (some ⟨w.heap.size, 0, none⟩) 2 2) r 32768 2 _ (h.below hba) hN (by omega) (by omega) (by omega)
  obtain ⟨t1, t2, t3, t4⟩ := two_take 32768 r
  have hl := Nat.le_trans (nU_len 32768 (nU 32768 ⟨r.take 20, 0⟩)) (nU_len 32768 ⟨r.take 20, 0⟩)
  have hl2 := Nat.le_trans (nU_len 32768 (nU 32768 ⟨r, 0⟩)) (nU_len 32768 ⟨r, 0⟩)
  have hby : byteL (r.take 20) := fun x hx => h.rng x (List.mem_of_mem_take hx)
  have r1 := vU_rng (m := 32768) (s := ⟨r.take 20, 0⟩) hby (by omega)
  have r2 := vU_rng (m := 32768) (s := nU 32768 ⟨r.take 20, 0⟩) (nU_byte hby) (by omega)
  have e2 : stK 32768 ⟨r.take (10 * 2), 0⟩ 2 = nU 32768 (nU 32768 ⟨r.take 20, 0⟩) := rfl
  have e3 : dnK 32768 ⟨r.take (10 * 2), 0⟩ 2 = [vU 32768 ⟨r.take 20, 0⟩, vU 32768 (nU 32768 ⟨r.take 20, 0⟩)] := rfl
  unfold DnR at D
  rw [e2, e3] at D
  have hU : Hid (((r.take (10 * 2)).length : Int) - ((nU 32768 (nU 32768 ⟨r.take 20, 0⟩)).r.length : Nat) = (r.length : Int) - ((fS 8 r).r.length : Nat)) := by
    show ((r.take 20).length : Int) - _ = (r.length : Int) - ((nU 32768 (nU 32768 ⟨r, 0⟩)).r.length : Nat)
    simp only at hl hl2; omega
  have hE : Hid ((nU 32768 (nU 32768 ⟨r.take 20, 0⟩)).e = (fS 8 r).e) := t3
  rw [hU.out, hE.out] at D
  rw [t1, t2] at D
  rw [t1] at r1
  rw [t2] at r2
  have HD := Lib.hid D
  have HBA := Lib.hid hba
  clear D hN B0 h hba hby hl hl2 t1 t2 t3 t4 e2 e3 hU hE
  obtain ⟨a, ha⟩ : ∃ a, Hid (vU 32768 ⟨r, 0⟩ = a) := ⟨_, rfl⟩
  obtain ⟨b, hb⟩ : ∃ b, Hid (vU 32768 (nU 32768 ⟨r, 0⟩) = b) := ⟨_, rfl⟩
  obtain ⟨n, hn⟩ : ∃ n, Hid ((r.length : Int) - ((fS 8 r).r.length : Nat) = n) := ⟨_, rfl⟩
  obtain ⟨e, he⟩ : ∃ e, Hid ((fS 8 r).e = e) := ⟨_, rfl⟩
  rw [ha.out, hb.out, hn.out, he.out] at HD
  rw [ha.out, hb.out, hn.out, he.out]
  rw [ha.out] at r1
  rw [hb.out] at r2
  clear ha hb hn he
  go_enter Try.func84, Try.ntmps84
  go_wp2_with (go_at_call 57; refine HD.out.mono ?_; rintro en w1 ⟨lv, rfl, ⟨hi1, _⟩, hb1⟩; obtain ⟨la, ll, lc, rfl⟩ := ints_shape hi1; have hll : ll = 2 := (by obtain ⟨_, _, _, e9, h9, _⟩ := hi1; cases e9; simpa using h9.symm); subst hll; obtain ⟨lb, lo, rfl, c0⟩ := ints_at hi1 (i := 0) (by simp); obtain ⟨lb', lo', e9, c1⟩ := ints_at hi1 (i := 1) (by simp); cases e9; simp only [List.getD_cons_zero, List.getD_cons_succ, Nat.add_zero] at c0 c1; have HB1 := Lib.hid (HBA.out.trans (hb1.mono HBA.out.size)); clear hi1 hb1)
  go_quiet (fail)
  go_wp2_with fail
  (try simp only [Exit.inBlock, Exit.then])
  refine bodyPost_ret (results_tmp4 rfl _ _ _) rfl ?_
  exact ⟨rfl, Below.drewN HB1.out⟩

/-- What decodeField and decodeOp give. -/
def OpR (w : World) (D : OpD) (U E : Int) (en : Ending) (w' : World) : Prop :=
  ∃ X n, en = .returned (T3 X n E) ∧ X.size = 446 ∧ (∀ v ∈ X, v.oneCell' = true) ∧ (E = 0 → n = U ∧ OpIn (New w.heap.size) w' X D) ∧ Below w.heap.size w w'

theorem Upd.gb {b : Nat} {w w' : World} (h : Upd b w w') : w.grownBy w' (some b) := ⟨h.os, h.tape, h.output, by rw [h.size]; exact Nat.le_refl _, fun k _ hne => h.block k (fun e => hne (by rw [e]))⟩
set_option maxRecDepth 100000 in
theorem kOp_lens (K : Int) : ((kOp K).parts nilV nilV nilV nilV).map List.length = [1, 238, 67, 70, 34, 34, 1, 1] := rfl
theorem kOp_off (K : Int) (k : Nat) : offP ((kOp K).parts nilV nilV nilV nilV) k = ([1, 238, 67, 70, 34, 34, 1, 1].take k).sum := offs_of (kOp_lens K) k
theorem kOp_one (K : Int) : ∀ p ∈ (kOp K).parts nilV nilV nilV nilV, ∀ v ∈ p, v.oneCell' = true := by
  intro p hp v hv
  have h := OpD.one (x := kOp K) (v1 := nilV) (v2 := nilV) (v3 := nilV) (v4 := nilV) rfl rfl rfl rfl
  exact h v (by simp only [flatP, List.mem_toArray, List.mem_flatten]; exact ⟨p, hp, hv⟩)
theorem set_shape (K : Int) (k : Nat) (L : List Value) (hk : [1, 238, 67, 70, 34, 34, 1, 1][k]? = some L.length) (h1 : ∀ v ∈ L, v.oneCell' = true) :
    (flatP (((kOp K).parts nilV nilV nilV nilV).set k L)).size = 446 ∧ ∀ v ∈ flatP (((kOp K).parts nilV nilV nilV nilV).set k L), v.oneCell' = true := by
  constructor
  · rw [flatP_size, List.length_flatten, List.map_set, kOp_lens]
    match k, hk with
    | 0, hk => simp only [List.getElem?_cons_zero, Option.some.injEq] at hk; rw [← hk]; rfl
    | 1, hk => simp only [List.getElem?_cons_succ, List.getElem?_cons_zero, Option.some.injEq] at hk; rw [← hk]; rfl
    | 2, hk => simp only [List.getElem?_cons_succ, List.getElem?_cons_zero, Option.some.injEq] at hk; rw [← hk]; rfl
    | 3, hk => simp only [List.getElem?_cons_succ, List.getElem?_cons_zero, Option.some.injEq] at hk; rw [← hk]; rfl
    | 4, hk => simp only [List.getElem?_cons_succ, List.getElem?_cons_zero, Option.some.injEq] at hk; rw [← hk]; rfl
    | 5, hk => simp only [List.getElem?_cons_succ, List.getElem?_cons_zero, Option.some.injEq] at hk; rw [← hk]; rfl
    | 6, hk => simp only [List.getElem?_cons_succ, List.getElem?_cons_zero, Option.some.injEq] at hk; rw [← hk]; rfl
    | 7, hk => simp only [List.getElem?_cons_succ, List.getElem?_cons_zero, Option.some.injEq] at hk; rw [← hk]; rfl
    | n + 8, hk => simp at hk
  · refine flatP_one fun p hp v hv => ?_
    rcases List.mem_or_eq_of_mem_set hp with hp | rfl
    · exact kOp_one K p hp v hv
    · exact h1 v hv

theorem info_op : (Try.prog.info? 48).map (·.size) = some 446 := by kernel_rfl
theorem zop_zero : (Try.prog.info? 48).map (fun i => (i.zero, i.size)) = some (some (.agg (flatP ((kOp 0).parts nilV nilV nilV nilV))), 446) := by kernel_rfl
theorem zop_one : (flatP ((kOp 0).parts nilV nilV nilV nilV)).all (·.oneCell') = true := by kernel_rfl

/-- An operation's variable: its kind is stored. -/
theorem kind_set (K : Int) : ((kOp 0).parts nilV nilV nilV nilV).set 0 [.int .i64 K] = (kOp K).parts nilV nilV nilV nilV := rfl

set_option maxRecDepth 100000 in
set_option maxHeartbeats 8000000 in
theorem decf_2 (v : Value) (r : List Int) (w : World) (h : Byt w v r) (hb : r.length ≤ 20604) :
    Calls Try.prog 58 #[.int .i64 2, v] w (OpR w (fD 2 r) ((r.length : Int) - ((fS 2 r).r.length : Nat)) (fE 2 r)) := by
  obtain ⟨va, vl, vc, rfl⟩ := h.shape
  have hby : byteL r := h.rng
  obtain ⟨Z, hZ⟩ : ∃ Z, Hid (Z = flatP ((kOp 0).parts nilV nilV nilV nilV)) := ⟨_, rfl⟩
  have hZ0 : Z.size = 446 := by rw [hZ.out]; rfl
  obtain ⟨hzz, hst⟩ := zero_array (P := Try.prog) (t := 48) (n := 446) Z (by rw [hZ.out]; exact zop_zero) hZ0 (by rw [hZ.out]; exact zop_one)
  have B0 : Hid (Blk (w.alloc (.cells Z 48)) w.heap.size (flatP ((kOp 0).parts nilV nilV nilV nilV))) := (Blk.new rfl).to hZ.out
  have HB0 := Lib.hid ((Below.refl w.heap.size w).alloc (Nat.le_refl _) (.cells Z 48))
  have HY := Lib.hid (fun u (hu : Below w.heap.size w u) => h.below hu)
  obtain ⟨PK, hPK⟩ : ∃ PK, Hid ((kOp 2).parts nilV nilV nilV nilV = PK) := ⟨_, rfl⟩
  clear h
  have HD : Hid (∀ u, Below w.heap.size w u → Calls Try.prog 79 #[.slice va vl vc] u (PtR 1 238 2 r u)) := fun u hu => (dblk_any (.slice va vl vc) r u (HY.out u hu) hb).mono (fun en u h => blk_pt hby h)
  have HW : Hid (∀ (u : World) (L : List Value), L.length = 238 → (∀ v ∈ L, v.oneCell' = true) → (flatP (PK.set 1 L)).size = 446 ∧ ∀ v ∈ flatP (PK.set 1 L), v.oneCell' = true) := fun u L h1 h2 => by rw [← hPK.out]; exact set_shape 2 1 L (by rw [h1]; rfl) h2
  have hoff : Hid (offP PK 1 = 1) := by show _ = _; rw [← hPK.out, kOp_off]; rfl
  obtain ⟨p, hp1, hp2⟩ : ∃ p, Hid (PK[1]? = some p) ∧ Hid (p.length = 238) := ⟨_, (by show _ = _; rw [← hPK.out]; rfl), by show _ = _; rfl⟩
  obtain ⟨E, hE⟩ : ∃ E, Hid (fE 2 r = E) := ⟨_, rfl⟩
  unfold PtR T3 at HD
  rw [hE.out, hPK.out] at HD
  rw [hE.out]
  clear hby hZ0
  go_enter Try.func58, Try.ntmps58
  go_wp2_with (first
      | ((with_reducible refine at_store (.tmp 8) ?_); refine wpList_store_part1 rfl 3 (.tmp 8) _ rfl w.heap.size ((kOp 0).parts nilV nilV nilV nilV) 0 (.int .i64 0) (.int .i64 2) B0.out rfl rfl rfl (by kernel_rfl) rfl rfl ?_; intro w1 U1 B1; rw [kind_set, hPK.out] at B1; have K1 := Lib.hid B1; have HB1 := Lib.hid (U1.below HB0.out (Nat.le_refl _)); clear U1 B1)
      | (go_at_call 79; refine (HD.out w1 HB1.out).mono ?_; rintro e w2 ⟨L, n, rfl, hL0, hL1, hS, hb2⟩; have KL := K1.out.call hb2; obtain ⟨q1, q2⟩ := HW.out w2 L hL0 hL1; obtain ⟨F, hF⟩ : ∃ F, Hid (flatP (PK.set 1 L) = F) := ⟨_, rfl⟩; rw [hF.out] at q1 q2; have HF1 := Lib.hid q2; have HIF : Hid ((Try.prog.info? 48).map (·.size) = some F.size) := (by show _ = _; rw [q1]; exact info_op); have HL0 := Lib.hid hL0; have HL1 := Lib.hid hL1; have HS := Lib.hid hS; have K2 := Lib.hid KL; have HB2 := Lib.hid (HB1.out.trans (hb2.mono HB1.out.size)); have hln : L.length = p.length := (by rw [hL0, hp2.out]); clear KL hL1 hS hb2 q2 hL0; obtain ⟨LA, hLA⟩ : ∃ LA, Hid (L.toArray = LA) := ⟨_, rfl⟩; rw [hLA.out])
      | ((with_reducible refine at_store (.tmp 21) ?_); refine wpList_store_part rfl 32 (.tmp 21) _ rfl w.heap.size PK 1 p L K2.out hp1.out (by rw [hoff.out]; rfl) (by rw [hLA.out]; rfl) hln (by rw [HL0.out]; kernel_rfl) HL1.out ?_; intro w3 U3 B3; rw [hF.out] at B3; have KF := Lib.hid B3; have HIn := Lib.hid HS.out; have HB3 := Lib.hid (U3.below HB2.out (Nat.le_refl _)); have HU3 := Lib.hid U3; clear U3 B3)
      | ((with_reducible refine at_load (.tmp 4) ?_); refine wpList_load_g 48 (.tmp 4) rfl w.heap.size rfl F _ KF.out Try.underlying48 rfl HIF.out rfl ?_)
      | ((with_reducible refine at_store (.tmp 4) ?_); refine wpList_store_blk rfl 48 (.tmp 4) _ rfl w.heap.size F rfl rfl F KF.out rfl HIF.out HF1.out ?_; intro w9 U9 B9))
  refine bodyPost_ret (res_cell_tmp2 rfl rfl rfl rfl B9 Try.underlying48 rfl HIF.out) rfl ⟨F, n, rfl, by have := HIF.out; rw [info_op] at this; simpa using this.symm, HF1.out, fun h0 => ?_, U9.below HB3.out (Nat.le_refl _)⟩
  obtain ⟨g1, g2⟩ := HS.out h0
  refine ⟨g1, ?_⟩
  rw [hF.out] at g2
  exact ((g2.grown HU3.out.gb (fun g y e hy => by cases e; exact hy.off K1.out.lt)).grown U9.gb (fun g y e hy => by cases e; exact hy.off K1.out.lt)).mono fun y hy => hy.mono HB1.out.size

set_option maxRecDepth 100000 in
set_option maxHeartbeats 8000000 in
theorem decf_3 (v : Value) (r : List Int) (w : World) (h : Byt w v r) (hb : r.length ≤ 20604) :
    Calls Try.prog 58 #[.int .i64 3, v] w (OpR w (fD 3 r) ((r.length : Int) - ((fS 3 r).r.length : Nat)) (fE 3 r)) := by
  obtain ⟨va, vl, vc, rfl⟩ := h.shape
  have hby : byteL r := h.rng
  obtain ⟨Z, hZ⟩ : ∃ Z, Hid (Z = flatP ((kOp 0).parts nilV nilV nilV nilV)) := ⟨_, rfl⟩
  have hZ0 : Z.size = 446 := by rw [hZ.out]; rfl
  obtain ⟨hzz, hst⟩ := zero_array (P := Try.prog) (t := 48) (n := 446) Z (by rw [hZ.out]; exact zop_zero) hZ0 (by rw [hZ.out]; exact zop_one)
  have B0 : Hid (Blk (w.alloc (.cells Z 48)) w.heap.size (flatP ((kOp 0).parts nilV nilV nilV nilV))) := (Blk.new rfl).to hZ.out
  have HB0 := Lib.hid ((Below.refl w.heap.size w).alloc (Nat.le_refl _) (.cells Z 48))
  have HY := Lib.hid (fun u (hu : Below w.heap.size w u) => h.below hu)
  obtain ⟨PK, hPK⟩ : ∃ PK, Hid ((kOp 3).parts nilV nilV nilV nilV = PK) := ⟨_, rfl⟩
  clear h
  have HD : Hid (∀ u, Below w.heap.size w u → Calls Try.prog 80 #[.slice va vl vc] u (PtR 2 67 3 r u)) := fun u hu => (datt_any (.slice va vl vc) r u (HY.out u hu) hb).mono (fun en u h => att_ptC hby h)
  have HW : Hid (∀ (u : World) (L : List Value), L.length = 67 → (∀ v ∈ L, v.oneCell' = true) → (flatP (PK.set 2 L)).size = 446 ∧ ∀ v ∈ flatP (PK.set 2 L), v.oneCell' = true) := fun u L h1 h2 => by rw [← hPK.out]; exact set_shape 3 2 L (by rw [h1]; rfl) h2
  have hoff : Hid (offP PK 2 = 239) := by show _ = _; rw [← hPK.out, kOp_off]; rfl
  obtain ⟨p, hp1, hp2⟩ : ∃ p, Hid (PK[2]? = some p) ∧ Hid (p.length = 67) := ⟨_, (by show _ = _; rw [← hPK.out]; rfl), by show _ = _; rfl⟩
  obtain ⟨E, hE⟩ : ∃ E, Hid (fE 3 r = E) := ⟨_, rfl⟩
  unfold PtR T3 at HD
  rw [hE.out, hPK.out] at HD
  rw [hE.out]
  clear hby hZ0
  go_enter Try.func58, Try.ntmps58
  go_wp2_with (first
      | ((with_reducible refine at_store (.tmp 8) ?_); refine wpList_store_part1 rfl 3 (.tmp 8) _ rfl w.heap.size ((kOp 0).parts nilV nilV nilV nilV) 0 (.int .i64 0) (.int .i64 3) B0.out rfl rfl rfl (by kernel_rfl) rfl rfl ?_; intro w1 U1 B1; rw [kind_set, hPK.out] at B1; have K1 := Lib.hid B1; have HB1 := Lib.hid (U1.below HB0.out (Nat.le_refl _)); clear U1 B1)
      | (go_at_call 80; refine (HD.out w1 HB1.out).mono ?_; rintro e w2 ⟨L, n, rfl, hL0, hL1, hS, hb2⟩; have KL := K1.out.call hb2; obtain ⟨q1, q2⟩ := HW.out w2 L hL0 hL1; obtain ⟨F, hF⟩ : ∃ F, Hid (flatP (PK.set 2 L) = F) := ⟨_, rfl⟩; rw [hF.out] at q1 q2; have HF1 := Lib.hid q2; have HIF : Hid ((Try.prog.info? 48).map (·.size) = some F.size) := (by show _ = _; rw [q1]; exact info_op); have HL0 := Lib.hid hL0; have HL1 := Lib.hid hL1; have HS := Lib.hid hS; have K2 := Lib.hid KL; have HB2 := Lib.hid (HB1.out.trans (hb2.mono HB1.out.size)); have hln : L.length = p.length := (by rw [hL0, hp2.out]); clear KL hL1 hS hb2 q2 hL0; obtain ⟨LA, hLA⟩ : ∃ LA, Hid (L.toArray = LA) := ⟨_, rfl⟩; rw [hLA.out])
      | ((with_reducible refine at_store (.tmp 30) ?_); refine wpList_store_part rfl 35 (.tmp 30) _ rfl w.heap.size PK 2 p L K2.out hp1.out (by rw [hoff.out]; rfl) (by rw [hLA.out]; rfl) hln (by rw [HL0.out]; kernel_rfl) HL1.out ?_; intro w3 U3 B3; rw [hF.out] at B3; have KF := Lib.hid B3; have HIn := Lib.hid HS.out; have HB3 := Lib.hid (U3.below HB2.out (Nat.le_refl _)); have HU3 := Lib.hid U3; clear U3 B3)
      | ((with_reducible refine at_load (.tmp 4) ?_); refine wpList_load_g 48 (.tmp 4) rfl w.heap.size rfl F _ KF.out Try.underlying48 rfl HIF.out rfl ?_)
      | ((with_reducible refine at_store (.tmp 4) ?_); refine wpList_store_blk rfl 48 (.tmp 4) _ rfl w.heap.size F rfl rfl F KF.out rfl HIF.out HF1.out ?_; intro w9 U9 B9))
  refine bodyPost_ret (res_cell_tmp2 rfl rfl rfl rfl B9 Try.underlying48 rfl HIF.out) rfl ⟨F, n, rfl, by have := HIF.out; rw [info_op] at this; simpa using this.symm, HF1.out, fun h0 => ?_, U9.below HB3.out (Nat.le_refl _)⟩
  obtain ⟨g1, g2⟩ := HS.out h0
  refine ⟨g1, ?_⟩
  rw [hF.out] at g2
  exact ((g2.grown HU3.out.gb (fun g y e hy => by cases e; exact hy.off K1.out.lt)).grown U9.gb (fun g y e hy => by cases e; exact hy.off K1.out.lt)).mono fun y hy => hy.mono HB1.out.size

set_option maxRecDepth 100000 in
set_option maxHeartbeats 8000000 in
theorem decf_4 (v : Value) (r : List Int) (w : World) (h : Byt w v r) (hb : r.length ≤ 20604) :
    Calls Try.prog 58 #[.int .i64 4, v] w (OpR w (fD 4 r) ((r.length : Int) - ((fS 4 r).r.length : Nat)) (fE 4 r)) := by
  obtain ⟨va, vl, vc, rfl⟩ := h.shape
  have hby : byteL r := h.rng
  obtain ⟨Z, hZ⟩ : ∃ Z, Hid (Z = flatP ((kOp 0).parts nilV nilV nilV nilV)) := ⟨_, rfl⟩
  have hZ0 : Z.size = 446 := by rw [hZ.out]; rfl
  obtain ⟨hzz, hst⟩ := zero_array (P := Try.prog) (t := 48) (n := 446) Z (by rw [hZ.out]; exact zop_zero) hZ0 (by rw [hZ.out]; exact zop_one)
  have B0 : Hid (Blk (w.alloc (.cells Z 48)) w.heap.size (flatP ((kOp 0).parts nilV nilV nilV nilV))) := (Blk.new rfl).to hZ.out
  have HB0 := Lib.hid ((Below.refl w.heap.size w).alloc (Nat.le_refl _) (.cells Z 48))
  have HY := Lib.hid (fun u (hu : Below w.heap.size w u) => h.below hu)
  obtain ⟨PK, hPK⟩ : ∃ PK, Hid ((kOp 4).parts nilV nilV nilV nilV = PK) := ⟨_, rfl⟩
  clear h
  have HD : Hid (∀ u, Below w.heap.size w u → Calls Try.prog 81 #[.slice va vl vc] u (PtR 3 70 4 r u)) := fun u hu => (dsla_any (.slice va vl vc) r u (HY.out u hu) hb).mono (fun en u h => sla_ptC hby h)
  have HW : Hid (∀ (u : World) (L : List Value), L.length = 70 → (∀ v ∈ L, v.oneCell' = true) → (flatP (PK.set 3 L)).size = 446 ∧ ∀ v ∈ flatP (PK.set 3 L), v.oneCell' = true) := fun u L h1 h2 => by rw [← hPK.out]; exact set_shape 4 3 L (by rw [h1]; rfl) h2
  have hoff : Hid (offP PK 3 = 306) := by show _ = _; rw [← hPK.out, kOp_off]; rfl
  obtain ⟨p, hp1, hp2⟩ : ∃ p, Hid (PK[3]? = some p) ∧ Hid (p.length = 70) := ⟨_, (by show _ = _; rw [← hPK.out]; rfl), by show _ = _; rfl⟩
  obtain ⟨E, hE⟩ : ∃ E, Hid (fE 4 r = E) := ⟨_, rfl⟩
  unfold PtR T3 at HD
  rw [hE.out, hPK.out] at HD
  rw [hE.out]
  clear hby hZ0
  go_enter Try.func58, Try.ntmps58
  go_wp2_with (first
      | ((with_reducible refine at_store (.tmp 8) ?_); refine wpList_store_part1 rfl 3 (.tmp 8) _ rfl w.heap.size ((kOp 0).parts nilV nilV nilV nilV) 0 (.int .i64 0) (.int .i64 4) B0.out rfl rfl rfl (by kernel_rfl) rfl rfl ?_; intro w1 U1 B1; rw [kind_set, hPK.out] at B1; have K1 := Lib.hid B1; have HB1 := Lib.hid (U1.below HB0.out (Nat.le_refl _)); clear U1 B1)
      | (go_at_call 81; refine (HD.out w1 HB1.out).mono ?_; rintro e w2 ⟨L, n, rfl, hL0, hL1, hS, hb2⟩; have KL := K1.out.call hb2; obtain ⟨q1, q2⟩ := HW.out w2 L hL0 hL1; obtain ⟨F, hF⟩ : ∃ F, Hid (flatP (PK.set 3 L) = F) := ⟨_, rfl⟩; rw [hF.out] at q1 q2; have HF1 := Lib.hid q2; have HIF : Hid ((Try.prog.info? 48).map (·.size) = some F.size) := (by show _ = _; rw [q1]; exact info_op); have HL0 := Lib.hid hL0; have HL1 := Lib.hid hL1; have HS := Lib.hid hS; have K2 := Lib.hid KL; have HB2 := Lib.hid (HB1.out.trans (hb2.mono HB1.out.size)); have hln : L.length = p.length := (by rw [hL0, hp2.out]); clear KL hL1 hS hb2 q2 hL0; obtain ⟨LA, hLA⟩ : ∃ LA, Hid (L.toArray = LA) := ⟨_, rfl⟩; rw [hLA.out])
      | ((with_reducible refine at_store (.tmp 39) ?_); refine wpList_store_part rfl 39 (.tmp 39) _ rfl w.heap.size PK 3 p L K2.out hp1.out (by rw [hoff.out]; rfl) (by rw [hLA.out]; rfl) hln (by rw [HL0.out]; kernel_rfl) HL1.out ?_; intro w3 U3 B3; rw [hF.out] at B3; have KF := Lib.hid B3; have HIn := Lib.hid HS.out; have HB3 := Lib.hid (U3.below HB2.out (Nat.le_refl _)); have HU3 := Lib.hid U3; clear U3 B3)
      | ((with_reducible refine at_load (.tmp 4) ?_); refine wpList_load_g 48 (.tmp 4) rfl w.heap.size rfl F _ KF.out Try.underlying48 rfl HIF.out rfl ?_)
      | ((with_reducible refine at_store (.tmp 4) ?_); refine wpList_store_blk rfl 48 (.tmp 4) _ rfl w.heap.size F rfl rfl F KF.out rfl HIF.out HF1.out ?_; intro w9 U9 B9))
  refine bodyPost_ret (res_cell_tmp2 rfl rfl rfl rfl B9 Try.underlying48 rfl HIF.out) rfl ⟨F, n, rfl, by have := HIF.out; rw [info_op] at this; simpa using this.symm, HF1.out, fun h0 => ?_, U9.below HB3.out (Nat.le_refl _)⟩
  obtain ⟨g1, g2⟩ := HS.out h0
  refine ⟨g1, ?_⟩
  rw [hF.out] at g2
  exact ((g2.grown HU3.out.gb (fun g y e hy => by cases e; exact hy.off K1.out.lt)).grown U9.gb (fun g y e hy => by cases e; exact hy.off K1.out.lt)).mono fun y hy => hy.mono HB1.out.size

set_option maxRecDepth 100000 in
set_option maxHeartbeats 8000000 in
theorem decf_5 (v : Value) (r : List Int) (w : World) (h : Byt w v r) (hb : r.length ≤ 20604) :
    Calls Try.prog 58 #[.int .i64 5, v] w (OpR w (fD 5 r) ((r.length : Int) - ((fS 5 r).r.length : Nat)) (fE 5 r)) := by
  obtain ⟨va, vl, vc, rfl⟩ := h.shape
  have hby : byteL r := h.rng
  obtain ⟨Z, hZ⟩ : ∃ Z, Hid (Z = flatP ((kOp 0).parts nilV nilV nilV nilV)) := ⟨_, rfl⟩
  have hZ0 : Z.size = 446 := by rw [hZ.out]; rfl
  obtain ⟨hzz, hst⟩ := zero_array (P := Try.prog) (t := 48) (n := 446) Z (by rw [hZ.out]; exact zop_zero) hZ0 (by rw [hZ.out]; exact zop_one)
  have B0 : Hid (Blk (w.alloc (.cells Z 48)) w.heap.size (flatP ((kOp 0).parts nilV nilV nilV nilV))) := (Blk.new rfl).to hZ.out
  have HB0 := Lib.hid ((Below.refl w.heap.size w).alloc (Nat.le_refl _) (.cells Z 48))
  have HY := Lib.hid (fun u (hu : Below w.heap.size w u) => h.below hu)
  obtain ⟨PK, hPK⟩ : ∃ PK, Hid ((kOp 5).parts nilV nilV nilV nilV = PK) := ⟨_, rfl⟩
  clear h
  have HD : Hid (∀ u, Below w.heap.size w u → Calls Try.prog 82 #[.slice va vl vc] u (PtR 4 34 5 r u)) := fun u hu => (dtab_any (.slice va vl vc) r u (HY.out u hu) hb).mono (fun en u h => tab_ptC hby h)
  have HW : Hid (∀ (u : World) (L : List Value), L.length = 34 → (∀ v ∈ L, v.oneCell' = true) → (flatP (PK.set 4 L)).size = 446 ∧ ∀ v ∈ flatP (PK.set 4 L), v.oneCell' = true) := fun u L h1 h2 => by rw [← hPK.out]; exact set_shape 5 4 L (by rw [h1]; rfl) h2
  have hoff : Hid (offP PK 4 = 376) := by show _ = _; rw [← hPK.out, kOp_off]; rfl
  obtain ⟨p, hp1, hp2⟩ : ∃ p, Hid (PK[4]? = some p) ∧ Hid (p.length = 34) := ⟨_, (by show _ = _; rw [← hPK.out]; rfl), by show _ = _; rfl⟩
  obtain ⟨E, hE⟩ : ∃ E, Hid (fE 5 r = E) := ⟨_, rfl⟩
  unfold PtR T3 at HD
  rw [hE.out, hPK.out] at HD
  rw [hE.out]
  clear hby hZ0
  go_enter Try.func58, Try.ntmps58
  go_wp2_with (first
      | ((with_reducible refine at_store (.tmp 8) ?_); refine wpList_store_part1 rfl 3 (.tmp 8) _ rfl w.heap.size ((kOp 0).parts nilV nilV nilV nilV) 0 (.int .i64 0) (.int .i64 5) B0.out rfl rfl rfl (by kernel_rfl) rfl rfl ?_; intro w1 U1 B1; rw [kind_set, hPK.out] at B1; have K1 := Lib.hid B1; have HB1 := Lib.hid (U1.below HB0.out (Nat.le_refl _)); clear U1 B1)
      | (go_at_call 82; refine (HD.out w1 HB1.out).mono ?_; rintro e w2 ⟨L, n, rfl, hL0, hL1, hS, hb2⟩; have KL := K1.out.call hb2; obtain ⟨q1, q2⟩ := HW.out w2 L hL0 hL1; obtain ⟨F, hF⟩ : ∃ F, Hid (flatP (PK.set 4 L) = F) := ⟨_, rfl⟩; rw [hF.out] at q1 q2; have HF1 := Lib.hid q2; have HIF : Hid ((Try.prog.info? 48).map (·.size) = some F.size) := (by show _ = _; rw [q1]; exact info_op); have HL0 := Lib.hid hL0; have HL1 := Lib.hid hL1; have HS := Lib.hid hS; have K2 := Lib.hid KL; have HB2 := Lib.hid (HB1.out.trans (hb2.mono HB1.out.size)); have hln : L.length = p.length := (by rw [hL0, hp2.out]); clear KL hL1 hS hb2 q2 hL0; obtain ⟨LA, hLA⟩ : ∃ LA, Hid (L.toArray = LA) := ⟨_, rfl⟩; rw [hLA.out])
      | ((with_reducible refine at_store (.tmp 48) ?_); refine wpList_store_part rfl 42 (.tmp 48) _ rfl w.heap.size PK 4 p L K2.out hp1.out (by rw [hoff.out]; rfl) (by rw [hLA.out]; rfl) hln (by rw [HL0.out]; kernel_rfl) HL1.out ?_; intro w3 U3 B3; rw [hF.out] at B3; have KF := Lib.hid B3; have HIn := Lib.hid HS.out; have HB3 := Lib.hid (U3.below HB2.out (Nat.le_refl _)); have HU3 := Lib.hid U3; clear U3 B3)
      | ((with_reducible refine at_load (.tmp 4) ?_); refine wpList_load_g 48 (.tmp 4) rfl w.heap.size rfl F _ KF.out Try.underlying48 rfl HIF.out rfl ?_)
      | ((with_reducible refine at_store (.tmp 4) ?_); refine wpList_store_blk rfl 48 (.tmp 4) _ rfl w.heap.size F rfl rfl F KF.out rfl HIF.out HF1.out ?_; intro w9 U9 B9))
  refine bodyPost_ret (res_cell_tmp2 rfl rfl rfl rfl B9 Try.underlying48 rfl HIF.out) rfl ⟨F, n, rfl, by have := HIF.out; rw [info_op] at this; simpa using this.symm, HF1.out, fun h0 => ?_, U9.below HB3.out (Nat.le_refl _)⟩
  obtain ⟨g1, g2⟩ := HS.out h0
  refine ⟨g1, ?_⟩
  rw [hF.out] at g2
  exact ((g2.grown HU3.out.gb (fun g y e hy => by cases e; exact hy.off K1.out.lt)).grown U9.gb (fun g y e hy => by cases e; exact hy.off K1.out.lt)).mono fun y hy => hy.mono HB1.out.size

set_option maxRecDepth 100000 in
set_option maxHeartbeats 8000000 in
theorem decf_6 (v : Value) (r : List Int) (w : World) (h : Byt w v r) (hb : r.length ≤ 20604) :
    Calls Try.prog 58 #[.int .i64 6, v] w (OpR w (fD 6 r) ((r.length : Int) - ((fS 6 r).r.length : Nat)) (fE 6 r)) := by
  obtain ⟨va, vl, vc, rfl⟩ := h.shape
  have hby : byteL r := h.rng
  obtain ⟨Z, hZ⟩ : ∃ Z, Hid (Z = flatP ((kOp 0).parts nilV nilV nilV nilV)) := ⟨_, rfl⟩
  have hZ0 : Z.size = 446 := by rw [hZ.out]; rfl
  obtain ⟨hzz, hst⟩ := zero_array (P := Try.prog) (t := 48) (n := 446) Z (by rw [hZ.out]; exact zop_zero) hZ0 (by rw [hZ.out]; exact zop_one)
  have B0 : Hid (Blk (w.alloc (.cells Z 48)) w.heap.size (flatP ((kOp 0).parts nilV nilV nilV nilV))) := (Blk.new rfl).to hZ.out
  have HB0 := Lib.hid ((Below.refl w.heap.size w).alloc (Nat.le_refl _) (.cells Z 48))
  have HY := Lib.hid (fun u (hu : Below w.heap.size w u) => h.below hu)
  obtain ⟨PK, hPK⟩ : ∃ PK, Hid ((kOp 6).parts nilV nilV nilV nilV = PK) := ⟨_, rfl⟩
  clear h
  have HD : Hid (∀ u, Below w.heap.size w u → Calls Try.prog 83 #[.slice va vl vc] u (PtR 5 34 6 r u)) := fun u hu => (dver_any (.slice va vl vc) r u (HY.out u hu) hb).mono (fun en u h => vd_pt hby h)
  have HW : Hid (∀ (u : World) (L : List Value), L.length = 34 → (∀ v ∈ L, v.oneCell' = true) → (flatP (PK.set 5 L)).size = 446 ∧ ∀ v ∈ flatP (PK.set 5 L), v.oneCell' = true) := fun u L h1 h2 => by rw [← hPK.out]; exact set_shape 6 5 L (by rw [h1]; rfl) h2
  have hoff : Hid (offP PK 5 = 410) := by show _ = _; rw [← hPK.out, kOp_off]; rfl
  obtain ⟨p, hp1, hp2⟩ : ∃ p, Hid (PK[5]? = some p) ∧ Hid (p.length = 34) := ⟨_, (by show _ = _; rw [← hPK.out]; rfl), by show _ = _; rfl⟩
  obtain ⟨E, hE⟩ : ∃ E, Hid (fE 6 r = E) := ⟨_, rfl⟩
  unfold PtR T3 at HD
  rw [hE.out, hPK.out] at HD
  rw [hE.out]
  clear hby hZ0
  go_enter Try.func58, Try.ntmps58
  go_wp2_with (first
      | ((with_reducible refine at_store (.tmp 8) ?_); refine wpList_store_part1 rfl 3 (.tmp 8) _ rfl w.heap.size ((kOp 0).parts nilV nilV nilV nilV) 0 (.int .i64 0) (.int .i64 6) B0.out rfl rfl rfl (by kernel_rfl) rfl rfl ?_; intro w1 U1 B1; rw [kind_set, hPK.out] at B1; have K1 := Lib.hid B1; have HB1 := Lib.hid (U1.below HB0.out (Nat.le_refl _)); clear U1 B1)
      | (go_at_call 83; refine (HD.out w1 HB1.out).mono ?_; rintro e w2 ⟨L, n, rfl, hL0, hL1, hS, hb2⟩; have KL := K1.out.call hb2; obtain ⟨q1, q2⟩ := HW.out w2 L hL0 hL1; obtain ⟨F, hF⟩ : ∃ F, Hid (flatP (PK.set 5 L) = F) := ⟨_, rfl⟩; rw [hF.out] at q1 q2; have HF1 := Lib.hid q2; have HIF : Hid ((Try.prog.info? 48).map (·.size) = some F.size) := (by show _ = _; rw [q1]; exact info_op); have HL0 := Lib.hid hL0; have HL1 := Lib.hid hL1; have HS := Lib.hid hS; have K2 := Lib.hid KL; have HB2 := Lib.hid (HB1.out.trans (hb2.mono HB1.out.size)); have hln : L.length = p.length := (by rw [hL0, hp2.out]); clear KL hL1 hS hb2 q2 hL0; obtain ⟨LA, hLA⟩ : ∃ LA, Hid (L.toArray = LA) := ⟨_, rfl⟩; rw [hLA.out])
      | ((with_reducible refine at_store (.tmp 57) ?_); refine wpList_store_part rfl 46 (.tmp 57) _ rfl w.heap.size PK 5 p L K2.out hp1.out (by rw [hoff.out]; rfl) (by rw [hLA.out]; rfl) hln (by rw [HL0.out]; kernel_rfl) HL1.out ?_; intro w3 U3 B3; rw [hF.out] at B3; have KF := Lib.hid B3; have HIn := Lib.hid HS.out; have HB3 := Lib.hid (U3.below HB2.out (Nat.le_refl _)); have HU3 := Lib.hid U3; clear U3 B3)
      | ((with_reducible refine at_load (.tmp 4) ?_); refine wpList_load_g 48 (.tmp 4) rfl w.heap.size rfl F _ KF.out Try.underlying48 rfl HIF.out rfl ?_)
      | ((with_reducible refine at_store (.tmp 4) ?_); refine wpList_store_blk rfl 48 (.tmp 4) _ rfl w.heap.size F rfl rfl F KF.out rfl HIF.out HF1.out ?_; intro w9 U9 B9))
  refine bodyPost_ret (res_cell_tmp2 rfl rfl rfl rfl B9 Try.underlying48 rfl HIF.out) rfl ⟨F, n, rfl, by have := HIF.out; rw [info_op] at this; simpa using this.symm, HF1.out, fun h0 => ?_, U9.below HB3.out (Nat.le_refl _)⟩
  obtain ⟨g1, g2⟩ := HS.out h0
  refine ⟨g1, ?_⟩
  rw [hF.out] at g2
  exact ((g2.grown HU3.out.gb (fun g y e hy => by cases e; exact hy.off K1.out.lt)).grown U9.gb (fun g y e hy => by cases e; exact hy.off K1.out.lt)).mono fun y hy => hy.mono HB1.out.size
end

/-! ScH -/
section
set_option linter.unusedVariables false
set_option linter.unusedSimpArgs false
open Go.RowKit

set_option maxRecDepth 100000 in
set_option maxHeartbeats 8000000 in
theorem decf_0 (v : Value) (r : List Int) (w : World) (h : Byt w v r) :
    Calls Try.prog 58 #[.int .i64 0, v] w (OpR w (fD 0 r) ((r.length : Int) - ((fS 0 r).r.length : Nat)) (fE 0 r)) := by
  obtain ⟨va, vl, vc, rfl⟩ := h.shape
  have hby : byteL r := h.rng
  obtain ⟨Z, hZ⟩ : ∃ Z, Hid (Z = flatP ((kOp 0).parts nilV nilV nilV nilV)) := ⟨_, rfl⟩
  have hZ0 : Z.size = 446 := by rw [hZ.out]; rfl
  obtain ⟨hzz, hst⟩ := zero_array (P := Try.prog) (t := 48) (n := 446) Z (by rw [hZ.out]; exact zop_zero) hZ0 (by rw [hZ.out]; exact zop_one)
  have B0 : Hid (Blk (w.alloc (.cells Z 48)) w.heap.size (flatP ((kOp 0).parts nilV nilV nilV nilV))) := (Blk.new rfl).to hZ.out
  have HB0 := Lib.hid ((Below.refl w.heap.size w).alloc (Nat.le_refl _) (.cells Z 48))
  have HY := Lib.hid (fun u (hu : Below w.heap.size w u) => h.below hu)
  obtain ⟨PK, hPK⟩ : ∃ PK, Hid ((kOp 0).parts nilV nilV nilV nilV = PK) := ⟨_, rfl⟩
  clear h
  have hW : (flatP PK).size = 446 ∧ ∀ v ∈ flatP PK, v.oneCell' = true := by rw [← hPK.out]; exact ⟨rfl, fun v hv => OpD.one (x := kOp 0) (v1 := nilV) (v2 := nilV) (v3 := nilV) (v4 := nilV) rfl rfl rfl rfl v hv⟩
  obtain ⟨F, hF⟩ : ∃ F, Hid (flatP PK = F) := ⟨_, rfl⟩
  rw [hF.out] at hW
  have HF1 := Lib.hid hW.2
  have HIF : Hid ((Try.prog.info? 48).map (·.size) = some F.size) := by show _ = _; rw [hW.1]; exact info_op
  have hin : Hid (∀ u, OpIn (New w.heap.size) u F (kOp 0)) := fun u => by rw [← hF.out, ← hPK.out]; exact kOp_in (by unfold i64R; omega) _ _
  have hE : fE 0 r = 2 := rfl
  rw [hE]
  clear hby hZ0 hW hE
  go_enter Try.func58, Try.ntmps58
  go_wp2_with (first
      | ((with_reducible refine at_store (.tmp 8) ?_); refine wpList_store_part1 rfl 3 (.tmp 8) _ rfl w.heap.size ((kOp 0).parts nilV nilV nilV nilV) 0 (.int .i64 0) (.int .i64 0) B0.out rfl rfl rfl (by kernel_rfl) rfl rfl ?_; intro w1 U1 B1; rw [kind_set, hPK.out, hF.out] at B1; have KF := Lib.hid B1; have HB1 := Lib.hid (U1.below HB0.out (Nat.le_refl _)); clear U1 B1)
      | ((with_reducible refine at_load (.tmp 4) ?_); refine wpList_load_g 48 (.tmp 4) rfl w.heap.size rfl F _ KF.out Try.underlying48 rfl HIF.out rfl ?_)
      | ((with_reducible refine at_store (.tmp 4) ?_); refine wpList_store_blk rfl 48 (.tmp 4) _ rfl w.heap.size F rfl rfl F KF.out rfl HIF.out HF1.out ?_; intro w9 U9 B9))
  refine bodyPost_ret (res_cell_tmp2 rfl rfl rfl rfl B9 Try.underlying48 rfl HIF.out) rfl ⟨F, _, rfl, by have := HIF.out; rw [info_op] at this; simpa using this.symm, HF1.out, fun h0 => ?_, U9.below HB1.out (Nat.le_refl _)⟩
  cases h0

set_option maxRecDepth 100000 in
set_option maxHeartbeats 8000000 in
theorem decf_1 (v : Value) (r : List Int) (w : World) (h : Byt w v r) :
    Calls Try.prog 58 #[.int .i64 1, v] w (OpR w (fD 1 r) ((r.length : Int) - ((fS 1 r).r.length : Nat)) (fE 1 r)) := by
  obtain ⟨va, vl, vc, rfl⟩ := h.shape
  have hby : byteL r := h.rng
  obtain ⟨Z, hZ⟩ : ∃ Z, Hid (Z = flatP ((kOp 0).parts nilV nilV nilV nilV)) := ⟨_, rfl⟩
  have hZ0 : Z.size = 446 := by rw [hZ.out]; rfl
  obtain ⟨hzz, hst⟩ := zero_array (P := Try.prog) (t := 48) (n := 446) Z (by rw [hZ.out]; exact zop_zero) hZ0 (by rw [hZ.out]; exact zop_one)
  have B0 : Hid (Blk (w.alloc (.cells Z 48)) w.heap.size (flatP ((kOp 0).parts nilV nilV nilV nilV))) := (Blk.new rfl).to hZ.out
  have HB0 := Lib.hid ((Below.refl w.heap.size w).alloc (Nat.le_refl _) (.cells Z 48))
  have HY := Lib.hid (fun u (hu : Below w.heap.size w u) => h.below hu)
  obtain ⟨PK, hPK⟩ : ∃ PK, Hid ((kOp 1).parts nilV nilV nilV nilV = PK) := ⟨_, rfl⟩
  clear h
  have hW : (flatP PK).size = 446 ∧ ∀ v ∈ flatP PK, v.oneCell' = true := by rw [← hPK.out]; exact ⟨rfl, fun v hv => OpD.one (x := kOp 1) (v1 := nilV) (v2 := nilV) (v3 := nilV) (v4 := nilV) rfl rfl rfl rfl v hv⟩
  obtain ⟨F, hF⟩ : ∃ F, Hid (flatP PK = F) := ⟨_, rfl⟩
  rw [hF.out] at hW
  have HF1 := Lib.hid hW.2
  have HIF : Hid ((Try.prog.info? 48).map (·.size) = some F.size) := by show _ = _; rw [hW.1]; exact info_op
  have hin : Hid (∀ u, OpIn (New w.heap.size) u F (kOp 1)) := fun u => by rw [← hF.out, ← hPK.out]; exact kOp_in (by unfold i64R; omega) _ _
  have hE : fE 1 r = 0 := rfl
  rw [hE]
  clear hby hZ0 hW hE
  go_enter Try.func58, Try.ntmps58
  go_wp2_with (first
      | ((with_reducible refine at_store (.tmp 8) ?_); refine wpList_store_part1 rfl 3 (.tmp 8) _ rfl w.heap.size ((kOp 0).parts nilV nilV nilV nilV) 0 (.int .i64 0) (.int .i64 1) B0.out rfl rfl rfl (by kernel_rfl) rfl rfl ?_; intro w1 U1 B1; rw [kind_set, hPK.out, hF.out] at B1; have KF := Lib.hid B1; have HB1 := Lib.hid (U1.below HB0.out (Nat.le_refl _)); clear U1 B1)
      | ((with_reducible refine at_load (.tmp 4) ?_); refine wpList_load_g 48 (.tmp 4) rfl w.heap.size rfl F _ KF.out Try.underlying48 rfl HIF.out rfl ?_)
      | ((with_reducible refine at_store (.tmp 4) ?_); refine wpList_store_blk rfl 48 (.tmp 4) _ rfl w.heap.size F rfl rfl F KF.out rfl HIF.out HF1.out ?_; intro w9 U9 B9))
  refine bodyPost_ret (res_cell_tmp2 rfl rfl rfl rfl B9 Try.underlying48 rfl HIF.out) rfl ⟨F, _, rfl, by have := HIF.out; rw [info_op] at this; simpa using this.symm, HF1.out, fun h0 => ?_, U9.below HB1.out (Nat.le_refl _)⟩
  exact ⟨by show (0 : Int) = (r.length : Int) - (r.length : Nat); omega, hin.out _⟩

set_option maxRecDepth 100000 in
set_option maxHeartbeats 8000000 in
theorem decf_7 (v : Value) (r : List Int) (w : World) (h : Byt w v r) :
    Calls Try.prog 58 #[.int .i64 7, v] w (OpR w (fD 7 r) ((r.length : Int) - ((fS 7 r).r.length : Nat)) (fE 7 r)) := by
  obtain ⟨va, vl, vc, rfl⟩ := h.shape
  have hby : byteL r := h.rng
  obtain ⟨Z, hZ⟩ : ∃ Z, Hid (Z = flatP ((kOp 0).parts nilV nilV nilV nilV)) := ⟨_, rfl⟩
  have hZ0 : Z.size = 446 := by rw [hZ.out]; rfl
  obtain ⟨hzz, hst⟩ := zero_array (P := Try.prog) (t := 48) (n := 446) Z (by rw [hZ.out]; exact zop_zero) hZ0 (by rw [hZ.out]; exact zop_one)
  have B0 : Hid (Blk (w.alloc (.cells Z 48)) w.heap.size (flatP ((kOp 0).parts nilV nilV nilV nilV))) := (Blk.new rfl).to hZ.out
  have HB0 := Lib.hid ((Below.refl w.heap.size w).alloc (Nat.le_refl _) (.cells Z 48))
  have HY := Lib.hid (fun u (hu : Below w.heap.size w u) => h.below hu)
  obtain ⟨PK, hPK⟩ : ∃ PK, Hid ((kOp 7).parts nilV nilV nilV nilV = PK) := ⟨_, rfl⟩
  clear h
  have hW : (flatP PK).size = 446 ∧ ∀ v ∈ flatP PK, v.oneCell' = true := by rw [← hPK.out]; exact ⟨rfl, fun v hv => OpD.one (x := kOp 7) (v1 := nilV) (v2 := nilV) (v3 := nilV) (v4 := nilV) rfl rfl rfl rfl v hv⟩
  obtain ⟨F, hF⟩ : ∃ F, Hid (flatP PK = F) := ⟨_, rfl⟩
  rw [hF.out] at hW
  have HF1 := Lib.hid hW.2
  have HIF : Hid ((Try.prog.info? 48).map (·.size) = some F.size) := by show _ = _; rw [hW.1]; exact info_op
  have hin : Hid (∀ u, OpIn (New w.heap.size) u F (kOp 7)) := fun u => by rw [← hF.out, ← hPK.out]; exact kOp_in (by unfold i64R; omega) _ _
  have hE : fE 7 r = 0 := rfl
  rw [hE]
  clear hby hZ0 hW hE
  go_enter Try.func58, Try.ntmps58
  go_wp2_with (first
      | ((with_reducible refine at_store (.tmp 8) ?_); refine wpList_store_part1 rfl 3 (.tmp 8) _ rfl w.heap.size ((kOp 0).parts nilV nilV nilV nilV) 0 (.int .i64 0) (.int .i64 7) B0.out rfl rfl rfl (by kernel_rfl) rfl rfl ?_; intro w1 U1 B1; rw [kind_set, hPK.out, hF.out] at B1; have KF := Lib.hid B1; have HB1 := Lib.hid (U1.below HB0.out (Nat.le_refl _)); clear U1 B1)
      | ((with_reducible refine at_load (.tmp 4) ?_); refine wpList_load_g 48 (.tmp 4) rfl w.heap.size rfl F _ KF.out Try.underlying48 rfl HIF.out rfl ?_)
      | ((with_reducible refine at_store (.tmp 4) ?_); refine wpList_store_blk rfl 48 (.tmp 4) _ rfl w.heap.size F rfl rfl F KF.out rfl HIF.out HF1.out ?_; intro w9 U9 B9))
  refine bodyPost_ret (res_cell_tmp2 rfl rfl rfl rfl B9 Try.underlying48 rfl HIF.out) rfl ⟨F, _, rfl, by have := HIF.out; rw [info_op] at this; simpa using this.symm, HF1.out, fun h0 => ?_, U9.below HB1.out (Nat.le_refl _)⟩
  exact ⟨by show (0 : Int) = (r.length : Int) - (r.length : Nat); omega, hin.out _⟩

set_option maxRecDepth 100000 in
set_option maxHeartbeats 8000000 in
theorem decf_8 (v : Value) (r : List Int) (w : World) (h : Byt w v r) :
    Calls Try.prog 58 #[.int .i64 8, v] w (OpR w (fD 8 r) ((r.length : Int) - ((fS 8 r).r.length : Nat)) (fE 8 r)) := by
  obtain ⟨va, vl, vc, rfl⟩ := h.shape
  have hby : byteL r := h.rng
  obtain ⟨Z, hZ⟩ : ∃ Z, Hid (Z = flatP ((kOp 0).parts nilV nilV nilV nilV)) := ⟨_, rfl⟩
  have hZ0 : Z.size = 446 := by rw [hZ.out]; rfl
  obtain ⟨hzz, hst⟩ := zero_array (P := Try.prog) (t := 48) (n := 446) Z (by rw [hZ.out]; exact zop_zero) hZ0 (by rw [hZ.out]; exact zop_one)
  have B0 : Hid (Blk (w.alloc (.cells Z 48)) w.heap.size (flatP ((kOp 0).parts nilV nilV nilV nilV))) := (Blk.new rfl).to hZ.out
  have HB0 := Lib.hid ((Below.refl w.heap.size w).alloc (Nat.le_refl _) (.cells Z 48))
  have HY := Lib.hid (fun u (hu : Below w.heap.size w u) => h.below hu)
  obtain ⟨PK, hPK⟩ : ∃ PK, Hid ((kOp 8).parts nilV nilV nilV nilV = PK) := ⟨_, rfl⟩
  clear h
  have HD : Hid (∀ u, Below w.heap.size w u → Calls Try.prog 84 #[.slice va vl vc] u fun en w' => en = .returned (.tuple #[.int .i64 (vU 32768 ⟨r, 0⟩), .int .i64 (vU 32768 (nU 32768 ⟨r, 0⟩)), .int .i64 ((r.length : Int) - ((fS 8 r).r.length : Nat)), .int .i64 (fS 8 r).e]) ∧ Below u.heap.size u w') := fun u hu => dcr_any _ r u (HY.out u hu)
  have hr1 := vU_rng (m := 32768) (s := ⟨r, 0⟩) hby (by omega)
  have hr2 := vU_rng (m := 32768) (s := nU 32768 ⟨r, 0⟩) (nU_byte hby) (by omega)
  have hE : fE 8 r = (fS 8 r).e := by unfold fE; have : fB 8 r = true := rfl; rw [this]; unfold finE; split <;> simp_all
  obtain ⟨x, hx⟩ : ∃ x, Hid (vU 32768 ⟨r, 0⟩ = x) := ⟨_, rfl⟩
  obtain ⟨y, hy⟩ : ∃ y, Hid (vU 32768 (nU 32768 ⟨r, 0⟩) = y) := ⟨_, rfl⟩
  have hD : Hid (fD 8 r = { kOp 8 with w := x, p := y }) := by show _ = _; rw [← hx.out, ← hy.out]; rfl
  obtain ⟨U, hU⟩ : ∃ U, Hid ((r.length : Int) - ((fS 8 r).r.length : Nat) = U) := ⟨_, rfl⟩
  obtain ⟨E, HE⟩ : ∃ E, Hid ((fS 8 r).e = E) := ⟨_, rfl⟩
  rw [hx.out, hy.out, hU.out, HE.out] at HD
  rw [hE, hU.out, HE.out, hD.out]
  rw [hx.out] at hr1
  rw [hy.out] at hr2
  have hok : OpD.ok { kOp 8 with w := x, p := y } := by
    have := kOp_ok (k := 8) (by unfold i64R; omega)
    exact ⟨this.1, this.2.1, this.2.2.1, this.2.2.2.1, this.2.2.2.2.1, this.2.2.2.2.2.1, this.2.2.2.2.2.2.1, by show i64R x; unfold i64R; omega, by show i64R y; unfold i64R; omega⟩
  have hp : (PK.set 6 [.int .i64 x]).set 7 [.int .i64 y] = OpD.parts { kOp 8 with w := x, p := y } nilV nilV nilV nilV := by rw [← hPK.out]; rfl
  have hin : Hid (∀ u, OpIn (New w.heap.size) u (flatP ((PK.set 6 [.int .i64 x]).set 7 [.int .i64 y])) { kOp 8 with w := x, p := y }) := fun u => by
    rw [hp]
    exact ⟨nilV, nilV, nilV, nilV, rfl, hok, ⟨intsV_nil _, New.nil _⟩, ⟨intsV_nil _, New.nil _⟩, ⟨intsV_nil _, New.nil _⟩, ⟨numsV_nil _, New.nil _⟩⟩
  have hp6 : Hid (PK[6]? = some [.int .i64 0]) := by show _ = _; rw [← hPK.out]; rfl
  have hp7 : Hid ((PK.set 6 [.int .i64 x])[7]? = some [.int .i64 0]) := by show _ = _; rw [← hPK.out]; rfl
  have ho6 : Hid (offP PK 6 = 444) := by show _ = _; rw [← hPK.out, kOp_off]; rfl
  have ho7 : Hid (offP (PK.set 6 [.int .i64 x]) 7 = 445) := by show _ = _; rw [← hPK.out, offs_of (ls := [1, 238, 67, 70, 34, 34, 1, 1]) (by rw [List.map_set, kOp_lens]; rfl)]; rfl
  obtain ⟨F, hF⟩ : ∃ F, Hid (flatP ((PK.set 6 [.int .i64 x]).set 7 [.int .i64 y]) = F) := ⟨_, rfl⟩
  rw [hF.out] at hin
  have HF1 := Lib.hid (hin.out w).one
  have HIF : Hid ((Try.prog.info? 48).map (·.size) = some F.size) := by show _ = _; rw [(hin.out w).size]; exact info_op
  clear hby hZ0 hE hp hr1 hr2 hok
  go_enter Try.func58, Try.ntmps58
  go_wp2_with (first
      | ((with_reducible refine at_store (.tmp 8) ?_); refine wpList_store_part1 rfl 3 (.tmp 8) _ rfl w.heap.size ((kOp 0).parts nilV nilV nilV nilV) 0 (.int .i64 0) (.int .i64 8) B0.out rfl rfl rfl (by kernel_rfl) rfl rfl ?_; intro w1 U1 B1; rw [kind_set, hPK.out] at B1; have K1 := Lib.hid B1; have HB1 := Lib.hid (U1.below HB0.out (Nat.le_refl _)); clear U1 B1)
      | (go_at_call 84; refine (HD.out w1 HB1.out).mono ?_; rintro e w2 ⟨rfl, hb2⟩; have K2 := Lib.hid (K1.out.call hb2); have HB2 := Lib.hid (HB1.out.trans (hb2.mono HB1.out.size)); clear hb2)
      | ((with_reducible refine at_store (.tmp 67) ?_); refine wpList_store_part1 rfl 3 (.tmp 67) _ rfl w.heap.size PK 6 (.int .i64 0) (.int .i64 x) K2.out hp6.out (by rw [ho6.out]; rfl) rfl (by kernel_rfl) rfl rfl ?_; intro w3 U3 B3; have K3 := Lib.hid B3; have HB3 := Lib.hid (U3.below HB2.out (Nat.le_refl _)); clear U3 B3)
      | ((with_reducible refine at_store (.tmp 68) ?_); refine wpList_store_part1 rfl 3 (.tmp 68) _ rfl w.heap.size (PK.set 6 [.int .i64 x]) 7 (.int .i64 0) (.int .i64 y) K3.out hp7.out (by rw [ho7.out]; rfl) rfl (by kernel_rfl) rfl rfl ?_; intro w4 U4 B4; rw [hF.out] at B4; have KF := Lib.hid B4; have HB4 := Lib.hid (U4.below HB3.out (Nat.le_refl _)); clear U4 B4)
      | ((with_reducible refine at_load (.tmp 4) ?_); refine wpList_load_g 48 (.tmp 4) rfl w.heap.size rfl F _ KF.out Try.underlying48 rfl HIF.out rfl ?_)
      | ((with_reducible refine at_store (.tmp 4) ?_); refine wpList_store_blk rfl 48 (.tmp 4) _ rfl w.heap.size F rfl rfl F KF.out rfl HIF.out HF1.out ?_; intro w9 U9 B9))
  refine bodyPost_ret (res_cell_tmp2 rfl rfl rfl rfl B9 Try.underlying48 rfl HIF.out) rfl ⟨F, _, rfl, by have := HIF.out; rw [info_op] at this; simpa using this.symm, HF1.out, fun h0 => ⟨rfl, hin.out _⟩, U9.below HB4.out (Nat.le_refl _)⟩

theorem decf_any (K : Int) (v : Value) (r : List Int) (w : World) (h : Byt w v r) (hb : r.length ≤ 20604 ∨ K ≤ 1 ∨ 7 ≤ K) (h0 : 0 ≤ K) (h8 : K ≤ 8) :
    Calls Try.prog 58 #[.int .i64 K, v] w (OpR w (fD K r) ((r.length : Int) - ((fS K r).r.length : Nat)) (fE K r)) := by
  obtain rfl | rfl | rfl | rfl | rfl | rfl | rfl | rfl | rfl : K = 0 ∨ K = 1 ∨ K = 2 ∨ K = 3 ∨ K = 4 ∨ K = 5 ∨ K = 6 ∨ K = 7 ∨ K = 8 := by omega
  · exact decf_0 v r w h
  · exact decf_1 v r w h
  · exact decf_2 v r w h (by omega)
  · exact decf_3 v r w h (by omega)
  · exact decf_4 v r w h (by omega)
  · exact decf_5 v r w h (by omega)
  · exact decf_6 v r w h (by omega)
  · exact decf_7 v r w h
  · exact decf_8 v r w h
end

/-! ScO -/
section
set_option linter.unusedVariables false
set_option linter.unusedSimpArgs false
open Go.RowKit

set_option maxRecDepth 100000 in
set_option maxHeartbeats 8000000 in
theorem deco_any (v : Value) (bs : List Int) (w : World) (h : Byt w v bs) (hb : bs.length ≤ 20604) :
    Calls Try.prog 35 #[v] w (OpR w (nxD bs) (nxU bs : Nat) (nxE bs)) := by
  obtain ⟨va, vl, vc, rfl⟩ := h.shape
  have hln : bs.length = vl := by obtain ⟨_, _, _, e', hl, _⟩ := h.ints; cases e'; exact hl
  have hfits := h.fits _ _ _ rfl
  unfold maxLen at hfits
  have hby : byteL bs := h.rng
  obtain ⟨Z, hZ⟩ : ∃ Z, Hid (Z = flatP ((kOp 0).parts nilV nilV nilV nilV)) := ⟨_, rfl⟩
  have hZ0 : Hid (Z.size = 446) := by show _ = _; rw [hZ.out]; rfl
  have HZ1 : Hid (∀ v ∈ Z, v.oneCell' = true) := by show ∀ _ ∈ _, _; rw [hZ.out]; exact fun v hv => OpD.one (x := kOp 0) (v1 := nilV) (v2 := nilV) (v3 := nilV) (v4 := nilV) rfl rfl rfl rfl v hv
  obtain ⟨hzz, hst⟩ := zero_array (P := Try.prog) (t := 48) (n := 446) Z (by rw [hZ.out]; exact zop_zero) hZ0.out (by rw [hZ.out]; exact zop_one)
  have B0 : Hid (Blk (w.alloc (.cells Z 48)) w.heap.size Z) := Blk.new rfl
  have hba0 := (Below.refl w.heap.size w).alloc (Nat.le_refl _) (.cells Z 48)
  have hsz : (w.alloc (.cells Z 48)).heap.size = w.heap.size + 1 := by simp
  have hba1 := (Below.refl (w.heap.size + 1) (w.alloc (.cells Z 48))).alloc (by rw [hsz]; exact Nat.le_refl _) (.cells #[.int .u64 8] 22)
  have C0 : Blk ((w.alloc (.cells Z 48)).alloc (.cells #[.int .u64 8] 22)) (w.heap.size + 1) #[.int .u64 8] := Blk.new (by rw [hsz])
  have hN : NumsV ((w.alloc (.cells Z 48)).alloc (.cells #[.int .u64 8] 22)) (.slice (some ⟨w.heap.size + 1, 0, none⟩) 1 1) (List.replicate 1 8) :=
    ⟨⟨_, _, _, rfl, rfl, by unfold maxLen; omega, .inr ⟨_, 0, rfl, C0.lt, fun i hi => by
      rw [Nat.zero_add, C0.cell]
      match i, hi with
      | 0, _ => rfl⟩⟩, fun x hx => by have := List.eq_of_mem_replicate hx; omega⟩
  have hbb : Below w.heap.size w ((w.alloc (.cells Z 48)).alloc (.cells #[.int .u64 8] 22)) := hba0.trans (hba1.mono (Nat.le_succ _))
  have D := decn_any (.slice va vl vc) (.slice (some ⟨w.heap.size + 1, 0, none⟩) 1 1) bs 8 1 _ (h.below hbb) hN (by omega) (by omega) (by omega)
  obtain ⟨t1, t2, t3⟩ := one_take 8 bs
  have e2 : stK 8 ⟨bs.take (10 * 1), 0⟩ 1 = nU 8 ⟨bs.take 10, 0⟩ := rfl
  have e3 : dnK 8 ⟨bs.take (10 * 1), 0⟩ 1 = [vU 8 ⟨bs.take 10, 0⟩] := rfl
  have hl := nU_len 8 ⟨bs.take 10, 0⟩
  have hl2 := nU_len 8 ⟨bs, 0⟩
  have r1 := vU_rng (m := 8) (s := ⟨bs, 0⟩) hby (by omega)
  unfold DnR at D
  rw [e2, e3, t1, t2] at D
  obtain ⟨fr, hfr⟩ : ∃ fr : Nat, bs.length - (nU 8 ⟨bs, 0⟩).r.length = fr := ⟨_, rfl⟩
  have hU : ((bs.take (10 * 1)).length : Int) - ((nU 8 ⟨bs.take 10, 0⟩).r.length : Nat) = (fr : Int) := by
    have : 10 * 1 = 10 := rfl
    rw [this]
    simp only at hl hl2; omega
  rw [hU] at D
  have hfl : fr ≤ vl := by omega
  have HY := Lib.hid (fun u (hu : Below w.heap.size w u) => h.below hu)
  have hR : Hid ((nU 8 ⟨bs, 0⟩).e = 0 → nxR bs = bs.drop fr ∧ fr ≤ vl) := fun he => by
    obtain ⟨g1, g2, g3, g4⟩ := nU_less he
    refine ⟨?_, by omega⟩
    show (nU 8 ⟨bs, 0⟩).r = _
    rw [g1, ← hfr, g1, List.length_drop]
    congr 1; omega
  have hNE : Hid (nxE bs = if (nU 8 ⟨bs, 0⟩).e ≠ 0 then (nU 8 ⟨bs, 0⟩).e else fE (nxK bs) (nxR bs)) := rfl
  have hND : Hid (nxD bs = fD (nxK bs) (nxR bs)) := rfl
  have hNU : Hid (nxU bs = bs.length - (fS (nxK bs) (nxR bs)).r.length) := rfl
  have hFL := Lib.hid (fS_len (nxK bs) (nxR bs))
  change Calls _ _ _ _ (fun en w' => ∃ lv, en = _ ∧ (Ints .i64 w' lv [nxK bs] ∧ _) ∧ _) at D
  change 0 ≤ nxK bs ∧ nxK bs ≤ 8 at r1
  obtain ⟨K, hK⟩ : ∃ K, nxK bs = K := ⟨_, rfl⟩
  obtain ⟨E, hE⟩ : ∃ E, (nU 8 ⟨bs, 0⟩).e = E := ⟨_, rfl⟩
  rw [hK] at D r1 hNE hND hNU hFL
  rw [hE] at D hR hNE
  have HD := Lib.hid D
  have HBB := Lib.hid hbb
  have HBL := Lib.hid hb
  have HLN := Lib.hid hln
  have hsz2 : ((w.alloc (.cells Z 48)).alloc (.cells #[.int .u64 8] 22)).heap.size = w.heap.size + 2 := by simp
  have HSZ := Lib.hid hsz2
  have B0b : Hid (Blk ((w.alloc (.cells Z 48)).alloc (.cells #[.int .u64 8] 22)) w.heap.size Z) := B0.out.alloc _
  have HIZ : Hid ((Try.prog.info? 48).map (·.size) = some Z.size) := by show _ = _; rw [hZ0.out]; exact info_op
  clear D hbb hN C0 hba0 hba1 hsz hsz2 h hby hl hl2 t1 t2 t3 e2 e3 hU hK hE hfr hln hb
  by_cases he : E = 0
  case neg =>
    have HE := Lib.hid he
    have hne : (E != 0) = true := by simpa using he
    have hNE2 : Hid (nxE bs = E) := by show _ = _; rw [hNE.out, if_pos he]
    clear he
    go_enter Try.func35, Try.ntmps35
    go_wp2_with (first
      | (go_at_call 57; refine HD.out.mono ?_; rintro en w1 ⟨lv, rfl, hi1, hb1⟩; have K1 := Lib.hid (B0b.out.call hb1); have HB1 := Lib.hid (HBB.out.trans (hb1.mono HBB.out.size)); clear hi1 hb1)
      | ((with_reducible refine at_load (.tmp 2) ?_); refine wpList_load_g 48 (.tmp 2) rfl w.heap.size rfl Z _ K1.out Try.underlying48 rfl HIZ.out rfl ?_)
      | ((with_reducible refine at_store (.tmp 2) ?_); refine wpList_store_blk rfl 48 (.tmp 2) _ rfl w.heap.size Z rfl rfl Z K1.out rfl HIZ.out HZ1.out ?_; intro w9 U9 B9))
    refine bodyPost_ret (res_cell_tmp2 rfl rfl rfl rfl B9 Try.underlying48 rfl HIZ.out) rfl ⟨Z, _, by rw [hNE2.out]; rfl, hZ0.out, HZ1.out, fun h0 => absurd (hNE2.out ▸ h0) HE.out, U9.below HB1.out (Nat.le_refl _)⟩
  subst he
  obtain ⟨hR1, hR2⟩ := hR.out rfl
  have hDR : ∀ u, Below w.heap.size w u → Byt u (.slice (if vc = fr then va else va.map (·.add fr)) (vl - fr) (vc - fr)) (nxR bs) := fun u hu => by rw [hR1]; exact (HY.out u hu).drop hfl
  obtain ⟨bv, hbv⟩ : ∃ bv, Hid (Value.slice (if vc = fr then va else va.map (·.add fr)) (vl - fr) (vc - fr) = bv) := ⟨_, rfl⟩
  rw [hbv.out] at hDR
  have hrl : (nxR bs).length ≤ 20604 := by rw [hR1, List.length_drop]; have := HBL.out; omega
  have HD2 := Lib.hid (fun u hu => decf_any K bv (nxR bs) u (hDR u hu) (.inl hrl) r1.1 r1.2)
  have hUU : Hid ((fr : Int) + (((nxR bs).length : Int) - ((fS K (nxR bs)).r.length : Nat)) = (nxU bs : Nat)) := by
    show _ = _
    have h1 := hFL.out
    have h2 : (nxR bs).length = vl - fr := by rw [hR1, List.length_drop, HLN.out]
    rw [hNU.out, HLN.out]; omega
  have hE2 : Hid (nxE bs = fE K (nxR bs)) := by show _ = _; rw [hNE.out]; simp
  have hUB : Hid ((nxU bs : Nat) ≤ vl) := by show _ ≤ _; rw [hNU.out, HLN.out]; omega
  obtain ⟨U2, hU2⟩ : ∃ U2, Hid (((nxR bs).length : Int) - ((fS K (nxR bs)).r.length : Nat) = U2) := ⟨_, rfl⟩
  obtain ⟨E2, hE3⟩ : ∃ E2, Hid (fE K (nxR bs) = E2) := ⟨_, rfl⟩
  have hU2r : 0 ≤ U2 ∧ U2 ≤ 20604 := by rw [← hU2.out]; have := hFL.out; omega
  rw [hE3.out] at hE2 HD2
  rw [hU2.out] at HD2 hUU
  unfold OpR T3 at HD2
  clear hDR hrl hR hNE hR1 hR2
  go_enter Try.func35, Try.ntmps35
  go_wp2_with (go_at_call 57; refine HD.out.mono ?_; rintro en w1 ⟨lv, rfl, ⟨hi1, hn1⟩, hb1⟩; have HN1 := Lib.hid hn1; clear hn1; obtain ⟨la, ll, lc, rfl⟩ := ints_shape hi1; have hll : ll = 1 := (by obtain ⟨_, _, _, e9, h9, _⟩ := hi1; cases e9; simpa using h9.symm); subst hll; have HI1 := Lib.hid hi1; have K1 := Lib.hid (B0b.out.call hb1); have HB1 := Lib.hid (HBB.out.trans (hb1.mono HBB.out.size)); have HZ9 := Lib.hid (Nat.le_trans (Nat.le_of_eq HSZ.out.symm) hb1.size); clear hi1 hb1)
  obtain ⟨lb, lo, rfl, c0⟩ := ints_at HI1.out (i := 0) (by simp)
  have c0' : w1.cell? ⟨lb, lo, none⟩ = some (.int .i64 K) := by simpa using c0
  clear c0
  have hnew : w.heap.size + 2 ≤ lb := by have := HN1.out _ _ _ rfl (by omega); rw [HSZ.out] at this; exact this
  obtain ⟨x, hxx⟩ : ∃ x, w1.drew = x := ⟨_, rfl⟩
  have HS : Hid (x.cell? ⟨lb, lo, none⟩ = some (.int .i64 K)) := by show _ = _; rw [← hxx]; exact c0'
  have HLT : Hid (lb < x.heap.size) := by show _ < _; rw [← hxx]; exact cell_lt c0'
  have HNE : Hid (lb ≠ w.heap.size) := by show _ ≠ _; omega
  have HB2 : Hid (Below w.heap.size w x) := by rw [← hxx]; exact Below.drewN (n := 1) HB1.out
  have K2 : Hid (Blk x w.heap.size Z) := by rw [← hxx]; exact K1.out
  have HX9 : Hid (w.heap.size < x.heap.size) := by show _ < _; exact K2.out.lt
  refine wp_region_held_drew (S := fun u => u.cell? ⟨lb, lo, none⟩ = some (.int .i64 K)) (by kernel_rfl) (by rw [hxx]; exact HS.out) (fun _ => ?_)
  rw [hxx]
  clear hxx c0' hnew
  (try simp only [Act.put, List.setIfInBounds_toArray, List.set_cons_zero, List.set_cons_succ])
  refine wpAnyH_take (i := 0) (oi := ⟨some 19, _, _, _, _, _⟩) (v := .slice (some ⟨lb, lo, none⟩) 1 lc) rfl (by kernel_rfl) (by kernel_rfl) (by kernel_rfl) (fun _ _ _ h => h) (Or.inl ⟨by rfl, fun wz hz => ?_⟩) HS.out ?_
  · clear hz; go_simp; first | done | with_reducible rfl | rfl
  (try simp only [Act.put, List.setIfInBounds_toArray, List.set_cons_zero, List.set_cons_succ])
  refine wpAnyH_take (i := 1) (oi := ⟨some 20, _, _, _, _, _⟩) (v := .pointer (some ⟨lb, lo, none⟩)) rfl (by kernel_rfl) (by kernel_rfl) (by kernel_rfl) (fun _ _ _ h => h) (Or.inl ⟨by rfl, fun wz hz => ?_⟩) HS.out ?_
  · clear hz; go_simp; first | done | with_reducible rfl | rfl
  (try simp only [Act.put, List.setIfInBounds_toArray, List.set_cons_zero, List.set_cons_succ])
  refine held_load1 2 (oi := ⟨some 21, _, _, _, _, _⟩) rfl (by kernel_rfl) (by kernel_rfl) (by kernel_rfl) (fun _ _ _ _ h => h) rfl 3 (.tmp 20) rfl lb lo rfl (.int .i64 K) _ (fun u' hu => hu) Try.underlying3 rfl HS.out ?_
  (try simp only [Act.put, List.setIfInBounds_toArray, List.set_cons_zero, List.set_cons_succ])
  refine wpAnyH_take (i := 3) (oi := ⟨some 22, _, _, _, _, _⟩) (v := .slice va vl vc) rfl (by kernel_rfl) (by kernel_rfl) (by kernel_rfl) (fun _ _ _ h => h) (Or.inl ⟨by rfl, fun wz hz => ?_⟩) HS.out ?_
  · clear hz; go_simp; first | done | with_reducible rfl | rfl
  (try simp only [Act.put, List.setIfInBounds_toArray, List.set_cons_zero, List.set_cons_succ])
  refine wpAnyH_take (i := 4) (oi := ⟨some 23, _, _, _, _, _⟩) (v := .int .i64 (fr : Nat)) rfl (by kernel_rfl) (by kernel_rfl) (by kernel_rfl) (fun _ _ _ h => h) (Or.inl ⟨by rfl, fun wz hz => ?_⟩) HS.out ?_
  · clear hz; go_simp; first | done | with_reducible rfl | rfl
  (try simp only [Act.put, List.setIfInBounds_toArray, List.set_cons_zero, List.set_cons_succ])
  refine wpAnyH_take (i := 5) (oi := ⟨some 24, _, _, _, _, _⟩) (v := bv) rfl (by kernel_rfl) (by kernel_rfl) (by kernel_rfl) (fun _ _ _ h => h) (Or.inl ⟨by rfl, fun wz hz => ?_⟩) HS.out ?_
  · clear hz; rw [← hbv.out]; go_simp; first | done | with_reducible rfl | rfl
  (try simp only [Act.put, List.setIfInBounds_toArray, List.set_cons_zero, List.set_cons_succ])
  refine wpAnyH_ready (rs := [6]) (by kernel_rfl) (by simp) ?_
  refine AllReadyH.cons rfl (fun K0 hK => ?_) AllReadyH.nil
  go_simp
  refine (HD2.out _ HB2.out).mono ?_
  rintro e w3 ⟨X, n, rfl, hX0, hX1, hXS, hb3⟩
  have K3 := Lib.hid (K2.out.call hb3)
  have HB3 := Lib.hid (HB2.out.trans (hb3.mono HB2.out.size))
  have HX1 := Lib.hid hX1
  have HXS := Lib.hid hXS
  have HIX : Hid ((Try.prog.info? 48).map (·.size) = some X.size) := by show _ = _; rw [hX0]; exact info_op
  have HZX : Hid (Z.size = X.size) := by show _ = _; rw [hX0, hZ0.out]
  have HS3 : Hid (w3.cell? ⟨lb, lo, none⟩ = some (.int .i64 K)) := by show _ = _; rw [hb3.cell (p := ⟨lb, lo, none⟩) HLT.out]; exact HS.out
  clear hX0 hX1 hXS hb3
  refine hK.out _ _ (HS3.out) (fun _ => ?_)
  clear hK K0
  (try simp only [Act.put, List.setIfInBounds_toArray, List.set_cons_zero, List.set_cons_succ])
  refine wpAnyH_take (i := 7) (oi := ⟨some 18, _, _, _, _, _⟩) (v := .tuple #[.agg X, .int .i64 n, .int .i64 E2]) rfl (by kernel_rfl) (by kernel_rfl) (by kernel_rfl) (fun _ _ _ h => h) (Or.inl ⟨by rfl, fun wz hz => ?_⟩) HS3.out ?_
  · clear hz; go_simp; first | done | with_reducible rfl | rfl
  (try simp only [Act.put, List.setIfInBounds_toArray, List.set_cons_zero, List.set_cons_succ])
  refine wpAnyH_take (i := 8) (oi := ⟨some 26, _, _, _, _, _⟩) (v := .agg X) rfl (by kernel_rfl) (by kernel_rfl) (by kernel_rfl) (fun _ _ _ h => h) (Or.inl ⟨by rfl, fun wz hz => ?_⟩) HS3.out ?_
  · clear hz; go_simp; first | done | with_reducible rfl | rfl
  (try simp only [Act.put, List.setIfInBounds_toArray, List.set_cons_zero, List.set_cons_succ])
  refine wpAnyH_take (i := 9) (oi := ⟨some 27, _, _, _, _, _⟩) (v := .int .i64 n) rfl (by kernel_rfl) (by kernel_rfl) (by kernel_rfl) (fun _ _ _ h => h) (Or.inl ⟨by rfl, fun wz hz => ?_⟩) HS3.out ?_
  · clear hz; go_simp; first | done | with_reducible rfl | rfl
  (try simp only [Act.put, List.setIfInBounds_toArray, List.set_cons_zero, List.set_cons_succ])
  refine wpAnyH_take (i := 10) (oi := ⟨some 28, _, _, _, _, _⟩) (v := .int .i64 E2) rfl (by kernel_rfl) (by kernel_rfl) (by kernel_rfl) (fun _ _ _ h => h) (Or.inl ⟨by rfl, fun wz hz => ?_⟩) HS3.out ?_
  · clear hz; go_simp; first | done | with_reducible rfl | rfl
  (try simp only [Act.put, List.setIfInBounds_toArray, List.set_cons_zero, List.set_cons_succ])
  refine wpAnyH_ready (rs := [11]) (by kernel_rfl) (by simp) ?_
  refine AllReadyH.cons rfl (fun K0 hK => ?_) AllReadyH.nil
  rw [if_pos (by rfl)]
  refine wp_store_blk 48 (.tmp 2) (.tmp 26) rfl w.heap.size X rfl rfl Z K3.out HZX.out HIX.out HX1.out ?_
  intro w4 U4 B4
  have K4 := Lib.hid B4
  have HB4 := Lib.hid (U4.below HB3.out (Nat.le_refl _))
  have HU4 := Lib.hid U4
  have HS4 : Hid (w4.cell? ⟨lb, lo, none⟩ = some (.int .i64 K)) := by show _ = _; rw [← HS3.out]; simp only [World.cell?, U4.block lb HNE.out]
  clear U4 B4
  refine hK.out _ _ (HS4.out) (fun _ => ?_)
  clear hK K0
  (try simp only [Act.put, List.setIfInBounds_toArray, List.set_cons_zero, List.set_cons_succ])
  refine wpAnyH_ready (rs := [12]) (by kernel_rfl) (by simp) ?_
  refine AllReadyH.cons rfl (fun K0 hK => ?_) AllReadyH.nil
  go_simp
  refine hK.out _ _ (HS4.out) (fun _ => ?_)
  clear hK K0
  (try simp only [Act.put, List.setIfInBounds_toArray, List.set_cons_zero, List.set_cons_succ])
  refine wpAnyH_ready (rs := [13]) (by kernel_rfl) (by simp) ?_
  refine AllReadyH.cons rfl (fun K0 hK => ?_) AllReadyH.nil
  go_simp
  refine hK.out _ _ (HS4.out) (fun _ => ?_)
  clear hK K0
  (try simp only [Act.put, List.setIfInBounds_toArray, List.set_cons_zero, List.set_cons_succ])
  refine wpAnyH_done (by kernel_rfl) ?_ _
  have HIX4 := HIX.out
  go_wp2_with (first
    | ((with_reducible refine at_load (.tmp 2) ?_); refine wpList_load_g 48 (.tmp 2) rfl w.heap.size rfl X _ K4.out Try.underlying48 rfl HIX.out rfl ?_)
    | ((with_reducible refine at_store (.tmp 2) ?_); refine wpList_store_blk rfl 48 (.tmp 2) _ rfl w.heap.size X rfl rfl X K4.out rfl HIX.out HX1.out ?_; intro w9 U9 B9))
  refine bodyPost_ret (res_cell_tmp2 rfl rfl rfl rfl B9 Try.underlying48 rfl HIX.out) rfl ⟨X, _, by rw [hE2.out]; rfl, by have := HIX.out; rw [info_op] at this; simpa using this.symm, HX1.out, fun h0 => ?_, U9.below HB4.out (Nat.le_refl _)⟩
  obtain ⟨g1, g2⟩ := HXS.out (hE2.out ▸ h0)
  subst g1
  refine ⟨by rw [← hUU.out]; have h8 := HBL.out; have h9 := HLN.out; unfold wrap64; omega, ?_⟩
  rw [hND.out]
  exact ((g2.grown HU4.out.gb (fun g y e hy => by cases e; exact hy.off HX9.out)).grown U9.gb (fun g y e hy => by cases e; exact hy.off HX9.out)).mono fun y hy => hy.mono (Nat.le_of_lt HX9.out)
end

/-! ScD -/
section
set_option linter.unusedVariables false
set_option linter.unusedSimpArgs false
open Go.RowKit

theorem opE : ElOK 446 OpIn where
  size := OpIn.size
  one := OpIn.one
  mono := OpIn.mono
  grown := OpIn.grown
  off := by
    rintro P w X a g ⟨v1, v2, v3, v4, h1, h2, h3, h4, h5, h6⟩ hg
    exact ⟨v1, v2, v3, v4, h1, h2, ⟨h3.1, h3.2, h3.1.1.off hg⟩, ⟨h4.1, h4.2, h4.1.1.off hg⟩, ⟨h5.1, h5.2, h5.1.1.off hg⟩, ⟨h6.1, h6.2, h6.1.1.off hg⟩⟩

theorem info_opc : (Try.prog.info? 48).map (fun i => (i.zero, i.size, i.bytes)) = some (some (.agg (flatP ((kOp 0).parts nilV nilV nilV nilV))), 446, 720) := by kernel_rfl
set_option maxRecDepth 100000 in
theorem zop_run (w : World) : (zeroValue 48).run Try.prog w = .ok (.agg (flatP ((kOp 0).parts nilV nilV nilV nilV))) w :=
  (zero_array (P := Try.prog) (t := 48) (n := 446) _ zop_zero rfl zop_one).1 w

theorem zop_size : (Value.agg (flatP ((kOp 0).parts nilV nilV nilV nilV))).cells.size = 446 := OpD.size (kOp_ok (k := 0) (by unfold i64R; omega)) _ _ _ _
set_option maxRecDepth 100000 in
theorem build_op {X : Array Value} (h : X.size = 446) (u : World) : (Instr.buildSlice 56 1 #[(0, .agg X)]).run Try.prog u = .ok (.slice (some ⟨u.heap.size, 0, none⟩) 1 1) (u.alloc (.cells X 48)) :=
  buildEl Try.underlying56 zop_run info_op (OpD.size (kOp_ok (k := 0) (by unfold i64R; omega)) _ _ _ _) h (by omega) (by omega) u

/-- b[k:]. -/
theorem wpList_slice_l {ops : Array Oper} {rest : List Oper} {op : Oper} {a : Act} {w : World} {Q : Exit → Act → World → Prop} (hgd : op.guard = none) (x y : Operand) (ho : op.op = .slice 51 x (some y) none none)
    (va : Option Addr) (vl vc k : Nat) (hx : a.eval x = .slice va vl vc) (hy : a.eval y = .int .i64 (k : Int)) (hk : k ≤ vl) (bv : Value) (hv : Value.slice (if vc = k then va else va.map (·.add k)) (vl - k) (vc - k) = bv)
    (h : wpList Try.prog ops Q rest (a.put op.dst bv) w) : wpList Try.prog ops Q (op :: rest) a w :=
  wpList_yields hgd bv (by
    have ht : Try.prog.underlying 51 = some (.slice (Try.prog.elem 51)) := by kernel_rfl
    have h1 := run_sliceAt_slice (P := Try.prog) (w := w) 51 (.slice va vl vc) (some (.int .i64 (k : Int))) none none ht
    rw [run_slice_l (P := Try.prog) (w := w) 51 va vl vc ht .i64 k (by omega) (by omega)] at h1
    have hs : (sizeOf (Try.prog.elem 51)).run Try.prog w = .ok 1 w := by
      obtain ⟨i0, hi, _, hz1, _⟩ := info_parts info_u8c
      have he : Try.prog.elem 51 = 5 := by kernel_rfl
      rw [he]
      simp [sizeOf, typeInfo, hi, hz1]
    rw [hs] at h1
    unfold execOp
    simp only [ho, hx, hy, Option.map_some, Option.map_none, Sem.run_bind, h1, Result.andThen_ok, Sem.run_pure]
    rw [← hv]
    simp [sliced]) h
theorem at_slice {P : Program} {ops : Array Oper} {Q : Exit → Act → World → Prop} (dst : Option Tmp) {t ty' : TypeId} {x : Operand} {l h m : Option Operand} {pos : String} {aft : Array Edge} {g : Option (Nat × Bool)} {rest : List Oper} {a : Act} {w : World}
    (hh : wpList P ops Q (⟨dst, .slice t x l h m, ty', pos, aft, g⟩ :: rest) a w) : wpList P ops Q (⟨dst, .slice t x l h m, ty', pos, aft, g⟩ :: rest) a w := hh

/-- What stands at the loop's head. -/
def DoI (w : World) (bs : List Int) (T : List OpD × Nat × Int) (v u : Value) (wr : World) : Prop :=
  ∃ (ds : List OpD) (k f : Nat), u = .int .i64 (k : Nat) ∧ k ≤ bs.length ∧ ds.length ≤ 4096 ∧ bs.length - k < f ∧ OwnEl OpIn 48 446 wr w.heap.size v ds ∧ Below w.heap.size w wr ∧ (ds ++ (dops bs f ds.length k).1, (dops bs f ds.length k).2) = T

/-- What decodeOps gives. -/
def DosR (w : World) (T : List OpD × Nat × Int) (en : Ending) (w' : World) : Prop :=
  ∃ v, en = .returned (.tuple #[v, .int .i64 (T.2.1 : Nat), .int .i64 T.2.2]) ∧ ElV OpIn 446 w' v T.1 ∧ Below w.heap.size w w'
noncomputable def dopT (bs : List Int) : List OpD × Nat × Int := dops bs (bs.length + 1) 0 0

set_option maxRecDepth 100000 in
set_option maxHeartbeats 8000000 in
theorem decos_any (v : Value) (bs : List Int) (w : World) (h : Byt w v bs) (hb : bs.length ≤ 20604) :
    Calls Try.prog 21 #[v] w (DosR w (dopT bs)) := by
  obtain ⟨va, vl, vc, rfl⟩ := h.shape
  have hln : bs.length = vl := by obtain ⟨_, _, _, e', hl, _⟩ := h.ints; cases e'; exact hl
  have hfits := h.fits _ _ _ rfl
  unfold maxLen at hfits
  have hvl : vl ≤ 20604 := by omega
  have HY := Lib.hid (fun u (hu : Below w.heap.size w u) => h.below hu)
  obtain ⟨T, hT⟩ : ∃ T, Hid (dopT bs = T) := ⟨_, rfl⟩
  rw [hT.out]
  obtain ⟨Z, hZ⟩ : ∃ Z, Hid (Z = flatP ((kOp 0).parts nilV nilV nilV nilV)) := ⟨_, rfl⟩
  have hZ0 : Z.size = 446 := by rw [hZ.out]; rfl
  obtain ⟨hzz, hst⟩ := zero_array (P := Try.prog) (t := 48) (n := 446) Z (by rw [hZ.out]; exact zop_zero) hZ0 (by rw [hZ.out]; exact zop_one)
  have HZ0 := Lib.hid hZ0
  have HLN := Lib.hid hln
  have HZI : Hid (Try.prog.info? 48 |>.map (fun i => (i.zero, i.size, i.bytes))).isSome := by show _ = true; rw [info_opc]; rfl
  clear h hln hb hZ0
  go_enter Try.func21, Try.ntmps21
  go_wp2_with fail
  go_loopw [5, 6] (fun v u wr => DoI w bs T v u wr) (fun _ u _ => vl - (intOf u).toNat)
  case atStart =>
    refine ⟨[], 0, bs.length + 1, rfl, Nat.zero_le _, Nat.zero_le _, by omega, ⟨[], World.ownsRow_made w #[] 0 (Nat.le_refl _) (Nat.zero_le _) rfl, AllEl.nil _ _⟩, (Below.refl _ w).alloc (Nat.le_refl _) _, ?_⟩
    rw [← hT.out]; rfl
  case round =>
    obtain ⟨ds, k, f, rfl, hk, hd, hf, how, hbl, hTT⟩ := hrel
    obtain ⟨f, rfl⟩ : ∃ f', f = f' + 1 := ⟨f - 1, by omega⟩
    obtain ⟨oa, oc, rfl, _, _, _⟩ := how.shape
    rw [dops] at hTT
    have hk2 : k ≤ vl := by rw [← HLN.out]; exact hk
    have hnd : (ds.length : Int) ≤ 4096 := by omega
    by_cases hend : bs.length ≤ k
    · have hke : k = vl := by have := HLN.out; omega
      subst hke
      rw [if_pos hend, List.append_nil] at hTT
      have HE : Hid (DosR w T (.returned (.tuple #[.slice oa ds.length oc, .int .i64 (k : Nat), .int .i64 0])) wr) := by
        rw [← hTT]; exact ⟨_, rfl, how.elV opE, hbl⟩
      clear how hbl hTT hend
      go_wp2_with fail
      go_ret3
      exact HE.out
    · rw [if_neg hend] at hTT
      have hlt : k < vl := by have := HLN.out; omega
      have hlt2 : (k : Int) < (vl : Int) := by omega
      by_cases hfull : ds.length = 4096
      · rw [if_pos hfull, List.append_nil] at hTT
        have HE : Hid (DosR w T (.returned (.tuple #[.slice oa ds.length oc, .int .i64 (k : Nat), .int .i64 11])) wr) := by
          rw [← hTT]; exact ⟨_, rfl, how.elV opE, hbl⟩
        have hfi : ((ds.length : Int) == 4096) = true := by simp; omega
        have HFU := Lib.hid hfull
        clear how hbl hTT hend hfull
        go_wp2_with fail
        go_ret3
        exact HE.out
      · rw [if_neg hfull] at hTT
        have hfi : ((ds.length : Int) == 4096) = false := by simp; omega
        have hd2 : ds.length < 4096 := by omega
        obtain ⟨bv, hbv⟩ : ∃ bv, Hid (Value.slice (if vc = k then va else va.map (·.add k)) (vl - k) (vc - k) = bv) := ⟨_, rfl⟩
        have HYK := (HY.out wr hbl).drop hk2
        rw [hbv.out] at HYK
        have HD := Lib.hid (deco_any bv (bs.drop k) wr HYK (by rw [List.length_drop]; have := HLN.out; omega))
        unfold OpR T3 at HD
        obtain ⟨E, hE⟩ : ∃ E, Hid (nxE (bs.drop k) = E) := ⟨_, rfl⟩
        obtain ⟨U, hU⟩ : ∃ U : Nat, Hid (nxU (bs.drop k) = U) := ⟨_, rfl⟩
        obtain ⟨D, hD⟩ : ∃ D, Hid (nxD (bs.drop k) = D) := ⟨_, rfl⟩
        have HP : Hid (E = 0 → 1 ≤ U ∧ k + U ≤ vl) := fun e0 => by
          have := nxU_pos (bs := bs.drop k) (hE.out.trans e0)
          rw [hU.out, List.length_drop, HLN.out] at this; omega
        rw [hE.out, hU.out, hD.out] at HD hTT
        have HOW := Lib.hid how
        have HBL := Lib.hid hbl
        have HTT := Lib.hid hTT
        have HNF := Lib.hid hfull
        have HFF := Lib.hid hf; clear how hbl hTT hend HYK hfull hf hd
        by_cases he : E = 0
        case neg =>
          have HE : Hid (∀ u, Below wr.heap.size wr u → DosR w T (.returned (.tuple #[.slice oa ds.length oc, .int .i64 (k : Nat), .int .i64 E])) u) := fun u hu => by
            have := HTT.out
            rw [if_pos he, List.append_nil] at this
            rw [← this]; exact ⟨_, rfl, (HOW.out.call opE hu).elV opE, HBL.out.trans (hu.mono HBL.out.size)⟩
          have hne : (E != 0) = true := by simpa using he
          clear he
          go_wp2_with (first
            | ((with_reducible refine at_slice (some 26) ?_); refine wpList_slice_l rfl (.tmp 24) (.tmp 25) rfl va vl vc k rfl rfl hk2 bv hbv.out ?_)
            | (go_at_call 35; refine HD.out.mono ?_; rintro en w1 ⟨X, n, rfl, hX0, hX1, hXS, hb1⟩; have HX1 := Lib.hid hX1; have HXS := Lib.hid hXS; have HB1 := Lib.hid hb1; have HIX : Hid ((Try.prog.info? 48).map (·.size) = some X.size) := (by show _ = _; rw [hX0]; exact info_op); have HZX : Hid (Z.size = X.size) := (by show _ = _; rw [hX0, HZ0.out]); clear hX0 hX1 hXS hb1)
            | ((with_reducible refine at_store (.tmp 7) ?_); refine wpList_store_blk rfl 48 (.tmp 7) _ rfl w1.heap.size X rfl rfl Z (Blk.new rfl) HZX.out HIX.out HX1.out ?_; intro w2 U2 B2; have HB2 := Lib.hid (U2.below (HB1.out.alloc HB1.out.size (.cells Z 48)) (Nat.le_trans (Nat.le_refl _) HB1.out.size)); clear U2 B2))
          go_ret3
          exact HE.out _ HB2.out
        case pos =>
          subst he
          obtain ⟨hU1, hU2⟩ := HP.out rfl
          go_wp2_with (first
            | ((with_reducible refine at_slice (some 26) ?_); refine wpList_slice_l rfl (.tmp 24) (.tmp 25) rfl va vl vc k rfl rfl hk2 bv hbv.out ?_)
            | (go_at_call 35; refine HD.out.mono ?_; rintro en w1 ⟨X, n, rfl, hX0, hX1, hXS, hb1⟩; obtain ⟨rfl, hXO⟩ := hXS rfl; have HX1 := Lib.hid hX1; have HXO := Lib.hid hXO; have HB1 := Lib.hid hb1; have HIX : Hid ((Try.prog.info? 48).map (·.size) = some X.size) := (by show _ = _; rw [hX0]; exact info_op); have HX0 := Lib.hid hX0; have HZX : Hid (Z.size = X.size) := (by show _ = _; rw [hX0, HZ0.out]); clear hX0 hX1 hXS hb1 hXO)
            | ((with_reducible refine at_store (.tmp 7) ?_); refine wpList_store_blk rfl 48 (.tmp 7) _ rfl w1.heap.size X rfl rfl Z (Blk.new rfl) HZX.out HIX.out HX1.out ?_; intro w2 U2 B2; have HB2 := Lib.hid (U2.below (HB1.out.alloc HB1.out.size (.cells Z 48)) HB1.out.size); have HB12 := Lib.hid (U2.below ((Below.refl _ w1).alloc (Nat.le_refl _) (.cells Z 48)) (Nat.le_refl _)); have K2 := Lib.hid B2; clear U2 B2)
            | ((with_reducible refine at_load (.tmp 7) ?_); refine wpList_load_g 48 (.tmp 7) rfl w1.heap.size rfl X _ K2.out Try.underlying48 rfl HIX.out rfl ?_)
            | ((with_reducible refine at_buildSliceE (some 38) ?_); refine wpList_buildSliceE rfl 56 1 _ rfl #[(0, .agg X)] (by simp [Act.eval, Act.put]) _ (build_op HX0.out _) ?_)
            | ((with_reducible refine at_app _ _ ?_); refine wpList_appEl opE Try.underlying56 info_opc zop_size (by omega) _ _ rfl rfl w.heap.size (.slice oa ds.length oc) ds rfl ((HOW.out.call opE HB2.out).call opE ((Below.refl _ w2).alloc (Nat.le_refl _) _)) w2.heap.size 1 X D rfl ((opE.below (opE.below HXO.out HB12.out) ((Below.refl _ w2).alloc (Nat.le_refl _) _)).mono fun y hy g e => hy.off (HOW.out.lt g e).2) (Blk.new rfl).range (by omega) (by unfold maxLen; omega) (by have := HB2.out.size; have := HBL.out.size; simp; omega) ?_
               intro v5 w5 ho5 hg5 hn5
               have hs5 : w.heap.size ≤ (w2.alloc (.cells X 48)).heap.size := (by have := HB2.out.size; have := HBL.out.size; simp; omega)
               have HB5 := Lib.hid (((HBL.out.trans (HB2.out.mono HBL.out.size)).alloc (Nat.le_trans HBL.out.size HB2.out.size) (.cells X 48)).grown hg5 hs5 (fun j hj => (HOW.out.lt j hj).1))
               have HO5 := Lib.hid ho5; clear ho5 hg5 hn5 hs5))
          go_roundw
          case rel =>
            refine ⟨ds ++ [D], k + U, f, by go_num, by have := HLN.out; omega, by simp; omega, by have := HFF.out; have := HLN.out; omega, HO5.out, HB5.out, ?_⟩
            have := HTT.out
            rw [if_neg (by simp)] at this
            rw [← this]
            simp
          case measure => simp [intOf]; omega

/-- What Decode gives. -/
def DecR (w : World) (T : List OpD × Nat × Int) (en : Ending) (w' : World) : Prop :=
  ∃ v, en = .returned (.tuple #[v, .int .i64 T.2.2]) ∧ ElV OpIn 446 w' v (if T.2.2 ≠ 0 then [] else T.1) ∧ Below w.heap.size w w'
/-- What Prefix gives. -/
def PreR (w : World) (T : List OpD × Nat × Int) (en : Ending) (w' : World) : Prop :=
  ∃ v, en = .returned (.tuple #[v, .int .i64 (T.2.1 : Nat)]) ∧ ElV OpIn 446 w' v T.1 ∧ Below w.heap.size w w'

set_option maxRecDepth 100000 in
set_option maxHeartbeats 4000000 in
theorem sdec_any (v : Value) (bs : List Int) (w : World) (h : Byt w v bs) (hb : bs.length ≤ 20604) :
    Calls Try.prog 12 #[v] w (DecR w (dopT bs)) := by
  obtain ⟨va, vl, vc, rfl⟩ := h.shape
  have D := Lib.hid (decos_any (.slice va vl vc) bs w h hb)
  obtain ⟨T1, T2, T3, hT⟩ : ∃ T1 T2 T3, dopT bs = (T1, T2, T3) := ⟨_, _, _, rfl⟩
  rw [hT] at D ⊢
  unfold DosR at D
  clear h hb hT
  by_cases he : T3 = 0
  · subst he
    go_enter Try.func12, Try.ntmps12
    go_wp2_with (go_at_call 21; refine D.out.mono ?_; rintro en w1 ⟨v1, rfl, hv1, hb1⟩; have HV := Lib.hid hv1; have HB := Lib.hid hb1; clear hv1 hb1)
    go_ret2
    exact ⟨v1, rfl, HV.out, HB.out⟩
  · have hne : (T3 != 0) = true := by simpa using he
    have HE := Lib.hid he; clear he
    go_enter Try.func12, Try.ntmps12
    go_wp2_with (go_at_call 21; refine D.out.mono ?_; rintro en w1 ⟨v1, rfl, hv1, hb1⟩; have HV := Lib.hid hv1; have HB := Lib.hid hb1; clear hv1 hb1)
    go_ret2
    refine ⟨nilV, rfl, ?_, HB.out⟩
    show ElV OpIn 446 _ _ (if T3 ≠ 0 then [] else T1)
    rw [if_pos HE.out]
    exact ⟨none, 0, rfl, Nat.zero_le _, .inl rfl⟩
end

end Go.Proofs.Ytmnojgdfbhdkhaa
