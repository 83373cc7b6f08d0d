/- The records as data: their parts, cell by cell. -/
import Derived.Test.YtgcgjnjbhdhhgaaRcM
import Derived.Test.YtgcgjnjbhdhhgaaPt
set_option linter.unusedVariables false
namespace Go.Proofs.Ytgcgjnjbhdhhgaa
open Go.RowKit

/-- A checkpoint. -/
structure CpD where
  n : Int
  r : List Int
def CpD.ok (c : CpD) : Prop := 0 ≤ c.n ∧ c.n ≤ 18446744073709551615 ∧ IsBytes 32 c.r
def bytesL (xs : List Int) : List Value := xs.map (Value.int .u8)
def CpD.cells (c : CpD) : List Value := Value.int .u64 c.n :: bytesL c.r
theorem CpD.cpV (c : CpD) : cpV c.n c.r = c.cells.toArray := rfl
theorem bytesL_V (xs : List Int) : bytesV xs = (bytesL xs).toArray := rfl
theorem bytesL_len {n : Nat} {xs : List Int} (h : IsBytes n xs) : (bytesL xs).length = n := by simp [bytesL, h.1]
theorem CpD.len {c : CpD} (h : c.ok) : c.cells.length = 33 := by simp [CpD.cells, bytesL_len h.2.2]
theorem bytesL_one (xs : List Int) : ∀ v ∈ bytesL xs, v.oneCell' = true := by
  intro v hv
  obtain ⟨x, _, rfl⟩ := List.mem_map.1 hv
  rfl
theorem CpD.one (c : CpD) : ∀ v ∈ c.cells, v.oneCell' = true := by
  intro v hv
  rcases List.mem_cons.1 hv with rfl | hv
  · rfl
  · exact bytesL_one _ v hv

def wideL (n : Int) : List Value := [.int .u64 (l0 n), .int .u64 (l1 n), .int .u64 (l2 n), .int .u64 (l3 n)]
theorem wideL_one (n : Int) : ∀ v ∈ wideL n, v.oneCell' = true := by
  intro v hv
  simp only [wideL, List.mem_cons, List.not_mem_nil, or_false] at hv
  rcases hv with rfl | rfl | rfl | rfl <;> rfl

/-- A block. -/
structure BkD where
  pj : CpD
  pf : CpD
  slot : Int
  root : List Int
  parent : List Int
  payload : List Int
  d : Int
  pd : Int
  j : CpD
  f : CpD
  t : Bool
def BkD.ok (x : BkD) : Prop := x.pj.ok ∧ x.pf.ok ∧ (0 ≤ x.slot ∧ x.slot ≤ 18446744073709551615) ∧ IsBytes 32 x.root ∧ IsBytes 32 x.parent ∧ IsBytes 32 x.payload ∧ W256 x.d ∧ W256 x.pd ∧ x.j.ok ∧ x.f.ok
def BkD.parts (x : BkD) : List (List Value) :=
  [x.pj.cells, x.pf.cells, [.int .u64 x.slot], bytesL x.root, bytesL x.parent, bytesL x.payload, wideL x.d, wideL x.pd, x.j.cells, x.f.cells, [.bool x.t]]

/-- An attestation; its list is the slice v. -/
structure AtD where
  slot : Int
  root : List Int
  target : CpD
  v : Value
def AtD.ok (x : AtD) : Prop := (0 ≤ x.slot ∧ x.slot ≤ 18446744073709551615) ∧ IsBytes 32 x.root ∧ x.target.ok
def AtD.parts (x : AtD) : List (List Value) := [[.int .u64 x.slot], bytesL x.root, x.target.cells, [x.v]]

/-- A claim. -/
structure ClD where
  source : Int
  target : Int
  root : List Int
  v : Value
def ClD.ok (x : ClD) : Prop := (0 ≤ x.source ∧ x.source ≤ 18446744073709551615) ∧ (0 ≤ x.target ∧ x.target ≤ 18446744073709551615) ∧ IsBytes 32 x.root
def ClD.parts (x : ClD) : List (List Value) := [[.int .u64 x.source], [.int .u64 x.target], bytesL x.root, [x.v]]
def ClD.cells (x : ClD) : List Value := x.parts.flatten
theorem ClD.len {x : ClD} (h : x.ok) : x.cells.length = 35 := by simp [ClD.cells, ClD.parts, bytesL_len h.2.2]

/-- A table. -/
structure TbD where
  cp : CpD
  v : Value
def TbD.parts (x : TbD) : List (List Value) := [x.cp.cells, [x.v]]

/-- A verdict. -/
structure VdD where
  tag : Int
  kind : Int
  latest : List Int
def VdD.ok (x : VdD) : Prop := (0 ≤ x.tag ∧ x.tag ≤ 18446744073709551615) ∧ (-9223372036854775808 ≤ x.kind ∧ x.kind ≤ 9223372036854775807) ∧ IsBytes 32 x.latest
def VdD.parts (x : VdD) : List (List Value) := [[.int .u64 x.tag], [.int .i64 x.kind], bytesL x.latest]

/-- A slice of ints. -/
def IntsV (w : World) (v : Value) (l : List Int) : Prop := Ints .i64 w v l ∧ ∀ x ∈ l, -9223372036854775808 ≤ x ∧ x ≤ 9223372036854775807
/-- A slice of balances. -/
def NumsV (w : World) (v : Value) (l : List Int) : Prop := Ints .u64 w v l ∧ ∀ x ∈ l, 0 ≤ x ∧ x ≤ 18446744073709551615
theorem IntsV.below {w w' : World} {v : Value} {l : List Int} (h : IntsV w v l) (hb : Below w.heap.size w w') : IntsV w' v l := ⟨h.1.below hb, h.2⟩
theorem NumsV.below {w w' : World} {v : Value} {l : List Int} (h : NumsV w v l) (hb : Below w.heap.size w w') : NumsV w' v l := ⟨h.1.below hb, h.2⟩
theorem getD_mem {l : List Int} {k : Nat} (hk : k < l.length) : l.getD k 0 ∈ l := by
  have e : l.getD k 0 = l[k] := by simp [List.getD, List.getElem?_eq_getElem hk]
  rw [e]; exact List.getElem_mem hk

/-! ### The encodings -/
def CpD.enc (c : CpD) : List Int := uenc c.n.toNat ++ c.r
def BkD.enc (x : BkD) : List Int :=
  uenc x.slot.toNat ++ (x.root ++ (x.parent ++ (x.payload ++ (bytesN x.d ++ (bytesN x.pd ++ (x.j.enc ++ (x.f.enc ++ (x.pj.enc ++ (x.pf.enc ++ [if x.t then 1 else 0])))))))))
def AtD.enc (x : AtD) (l : List Int) : List Int := uenc x.slot.toNat ++ (x.root ++ (x.target.enc ++ lenc l))
def ClD.enc (x : ClD) (l : List Int) : List Int := uenc x.source.toNat ++ (uenc x.target.toNat ++ (x.root ++ lenc l))
def TbD.enc (x : TbD) (l : List Int) : List Int := x.cp.enc ++ tenc l
def VdD.enc (x : VdD) : List Int := uenc x.tag.toNat ++ (uenc x.kind.toNat ++ x.latest)

theorem CpD.encl {c : CpD} (h : c.ok) : c.enc.length ≤ 42 := by
  have h1 := uenc_len10 (n := c.n.toNat) (by have := h.2.1; omega)
  have h2 := h.2.2.1
  simp only [CpD.enc, List.length_append]; omega

theorem bytesN_inj {a b : Int} (ha : W256 a) (hb : W256 b) (h : bytesN a = bytesN b) : a = b := by
  have hk : ∀ k, k < 32 → byteN a k = byteN b k := fun k hk => by rw [← bytesN_at a hk, ← bytesN_at b hk, h]
  have hm : ∀ k, k ≤ 32 → a % (2 : Int) ^ (8 * k) = b % (2 : Int) ^ (8 * k) := by
    intro k
    induction k with
    | zero => intro _; simp
    | succ k ih => intro hk1; rw [mod_byte, mod_byte, ih (by omega), hk k (by omega)]
  have h32 := hm 32 (Nat.le_refl _)
  rw [show (2 : Int) ^ (8 * 32) = 115792089237316195423570985008687907853269984665640564039457584007913129639936 by decide +kernel] at h32
  have h1 := ha.1
  have h2 := ha.2
  have h3 := hb.1
  have h4 := hb.2
  rw [Int.emod_eq_of_lt h1 h2, Int.emod_eq_of_lt h3 h4] at h32
  exact h32

/-! ### What is read -/
noncomputable def numOf (xs : List Int) : Int := open Classical in if h : IsBytes 32 xs then Classical.choose (bytes_of_num h) else 0
theorem numOf_ok {xs : List Int} (h : IsBytes 32 xs) : W256 (numOf xs) ∧ bytesN (numOf xs) = xs := by
  unfold numOf
  rw [dif_pos h]
  exact Classical.choose_spec (bytes_of_num h)

def vCD (s : RS) : CpD := if cpE s.r s.e = 0 then ⟨cpN s.r s.e, wV (cpR1 s.r s.e) (cpE1 s.r s.e)⟩ else ⟨0, zeroR⟩
theorem vCD_eq (s : RS) : vC s = (vCD s).cells.toArray := by
  unfold vC cpX vCD
  split <;> rfl
theorem vCD_ok {s : RS} (h : byteL s.r) : (vCD s).ok := by
  unfold vCD
  split
  · have h1 := ruV_rng' (e := s.e) h (show (0 : Int) ≤ 18446744073709551615 by omega)
    exact ⟨h1.1, h1.2, wV_is (ruR_rng h)⟩
  · exact ⟨by show (0 : Int) ≤ 0; omega, by show (0 : Int) ≤ _; omega, zeroR_is⟩

theorem nW_byte {s : RS} (h : byteL s.r) : byteL (nW s).r := by
  unfold nW tkR
  split
  · exact h
  · split
    · exact h
    · exact fun x hx => h x (List.mem_of_mem_drop hx)
theorem nC_byte {s : RS} (h : byteL s.r) : byteL (nC s).r := by
  unfold nC cpR
  split
  · exact nW_byte (s := ⟨cpR1 s.r s.e, cpE1 s.r s.e⟩) (ruR_rng h)
  · exact h
theorem nB_byte {s : RS} (h : byteL s.r) : byteL (nB s).r := by
  unfold nB bR
  split
  · exact fun x hx => h x (List.mem_of_mem_drop hx)
  · exact h
theorem vW_is {s : RS} (h : byteL s.r) : IsBytes 32 (vW s) := wV_is h
theorem lsN_byte {s : RS} (h : byteL s.r) : byteL (lsN s).r := stK_byte (nU_byte h) _
theorem tbN_byte {s : RS} (h : byteL s.r) : byteL (tbN s).r := stK_byte (nU_byte h) _

theorem lsN_err {s : RS} (h : s.e ≠ 0) : lsN s = s := by unfold lsN; rw [nU_err h, stK_err h]
theorem tbN_err {s : RS} (h : s.e ≠ 0) : tbN s = s := by unfold tbN; rw [nU_err h, stK_err h]

/-- A block's parts are read one after another. -/
def bk1 (s : RS) : RS := nU mxU s
def bk2 (s : RS) : RS := nW (bk1 s)
def bk3 (s : RS) : RS := nW (bk2 s)
def bk4 (s : RS) : RS := nW (bk3 s)
def bk5 (s : RS) : RS := nW (bk4 s)
def bk6 (s : RS) : RS := nW (bk5 s)
def bk7 (s : RS) : RS := nC (bk6 s)
def bk8 (s : RS) : RS := nC (bk7 s)
def bk9 (s : RS) : RS := nC (bk8 s)
def bk10 (s : RS) : RS := nC (bk9 s)
def bk11 (s : RS) : RS := nB (bk10 s)
noncomputable def bkV (s : RS) : BkD :=
  { slot := vU mxU s, root := vW (bk1 s), parent := vW (bk2 s), payload := vW (bk3 s), d := numOf (vW (bk4 s)), pd := numOf (vW (bk5 s)),
    j := vCD (bk6 s), f := vCD (bk7 s), pj := vCD (bk8 s), pf := vCD (bk9 s), t := vB (bk10 s) }

theorem bk_back {x : BkD} (h : x.ok) (t : List Int) : bk11 ⟨x.enc ++ t, 0⟩ = ⟨t, 0⟩ ∧ (bkV ⟨x.enc ++ t, 0⟩).parts = x.parts := by
  obtain ⟨⟨a1, a2, a3⟩, ⟨b1, b2, b3⟩, ⟨c1, c2⟩, hr, hp, hy, hd, hpd, ⟨e1, e2, e3⟩, ⟨f1, f2, f3⟩⟩ := h
  have i1 := (bytesN_is x.d).1
  have i2 := (bytesN_is x.pd).1
  have E : x.enc ++ t = uenc x.slot.toNat ++ (x.root ++ (x.parent ++ (x.payload ++ (bytesN x.d ++ (bytesN x.pd ++ (uenc x.j.n.toNat ++ (x.j.r ++ (uenc x.f.n.toNat ++ (x.f.r ++ (uenc x.pj.n.toNat ++ (x.pj.r ++ (uenc x.pf.n.toNat ++ (x.pf.r ++ ((if x.t then 1 else 0) :: t)))))))))))))) := by
    simp [BkD.enc, CpD.enc]
  rw [E]
  obtain ⟨u1, v1⟩ := U_back (m := mxU) c1 c2 (by unfold mxU; omega) (x.root ++ (x.parent ++ (x.payload ++ (bytesN x.d ++ (bytesN x.pd ++ (uenc x.j.n.toNat ++ (x.j.r ++ (uenc x.f.n.toNat ++ (x.f.r ++ (uenc x.pj.n.toNat ++ (x.pj.r ++ (uenc x.pf.n.toNat ++ (x.pf.r ++ ((if x.t then 1 else 0) :: t))))))))))))))
  obtain ⟨u2, v2⟩ := W_back hr.1 (x.parent ++ (x.payload ++ (bytesN x.d ++ (bytesN x.pd ++ (uenc x.j.n.toNat ++ (x.j.r ++ (uenc x.f.n.toNat ++ (x.f.r ++ (uenc x.pj.n.toNat ++ (x.pj.r ++ (uenc x.pf.n.toNat ++ (x.pf.r ++ ((if x.t then 1 else 0) :: t)))))))))))))
  obtain ⟨u3, v3⟩ := W_back hp.1 (x.payload ++ (bytesN x.d ++ (bytesN x.pd ++ (uenc x.j.n.toNat ++ (x.j.r ++ (uenc x.f.n.toNat ++ (x.f.r ++ (uenc x.pj.n.toNat ++ (x.pj.r ++ (uenc x.pf.n.toNat ++ (x.pf.r ++ ((if x.t then 1 else 0) :: t))))))))))))
  obtain ⟨u4, v4⟩ := W_back hy.1 (bytesN x.d ++ (bytesN x.pd ++ (uenc x.j.n.toNat ++ (x.j.r ++ (uenc x.f.n.toNat ++ (x.f.r ++ (uenc x.pj.n.toNat ++ (x.pj.r ++ (uenc x.pf.n.toNat ++ (x.pf.r ++ ((if x.t then 1 else 0) :: t)))))))))))
  obtain ⟨u5, v5⟩ := W_back i1 (bytesN x.pd ++ (uenc x.j.n.toNat ++ (x.j.r ++ (uenc x.f.n.toNat ++ (x.f.r ++ (uenc x.pj.n.toNat ++ (x.pj.r ++ (uenc x.pf.n.toNat ++ (x.pf.r ++ ((if x.t then 1 else 0) :: t))))))))))
  obtain ⟨u6, v6⟩ := W_back i2 (uenc x.j.n.toNat ++ (x.j.r ++ (uenc x.f.n.toNat ++ (x.f.r ++ (uenc x.pj.n.toNat ++ (x.pj.r ++ (uenc x.pf.n.toNat ++ (x.pf.r ++ ((if x.t then 1 else 0) :: t)))))))))
  obtain ⟨u7, v7⟩ := C_back e1 e2 e3.1 (uenc x.f.n.toNat ++ (x.f.r ++ (uenc x.pj.n.toNat ++ (x.pj.r ++ (uenc x.pf.n.toNat ++ (x.pf.r ++ ((if x.t then 1 else 0) :: t)))))))
  obtain ⟨u8, v8⟩ := C_back f1 f2 f3.1 (uenc x.pj.n.toNat ++ (x.pj.r ++ (uenc x.pf.n.toNat ++ (x.pf.r ++ ((if x.t then 1 else 0) :: t)))))
  obtain ⟨u9, v9⟩ := C_back a1 a2 a3.1 (uenc x.pf.n.toNat ++ (x.pf.r ++ ((if x.t then 1 else 0) :: t)))
  obtain ⟨ua, va⟩ := C_back b1 b2 b3.1 ((if x.t then 1 else 0) :: t)
  obtain ⟨ub, vb⟩ := B_back x.t t
  have n1 : numOf (bytesN x.d) = x.d := bytesN_inj (numOf_ok (bytesN_is x.d)).1 hd (numOf_ok (bytesN_is x.d)).2
  have n2 : numOf (bytesN x.pd) = x.pd := bytesN_inj (numOf_ok (bytesN_is x.pd)).1 hpd (numOf_ok (bytesN_is x.pd)).2
  rw [vCD_eq] at u7 u8 u9 ua
  have w7 := congrArg Array.toList u7
  have w8 := congrArg Array.toList u8
  have w9 := congrArg Array.toList u9
  have wa := congrArg Array.toList ua
  simp only [List.toList_toArray, CpD.cpV] at w7 w8 w9 wa
  refine ⟨by simp only [bk1, bk2, bk3, bk4, bk5, bk6, bk7, bk8, bk9, bk10, bk11, v1, v2, v3, v4, v5, v6, v7, v8, v9, va, vb], ?_⟩
  simp only [bkV, BkD.parts, bk1, bk2, bk3, bk4, bk5, bk6, bk7, bk8, bk9, bk10, u1, v1, u2, v2, u3, v3, u4, v4, u5, v5, u6, v6, v7, v8, v9, va, ub, n1, n2, w7, w8, w9, wa]

end Go.Proofs.Ytgcgjnjbhdhhgaa
