/- Blocks and nodes as data, where they lie; slices of nodes; trees. -/
import Derived.Test.YtdmjpmigejpkmaaEls
import Derived.Test.YtdmjpmigejpkmaaCl
import Derived.Test.YtdmjpmigejpkmaaMath
set_option linter.unusedVariables false

set_option linter.unusedSimpArgs false
namespace Go.Proofs.Ytdmjpmigejpkmaa
open Go.RowKit

def wideL (n : Int) : List Value := [.int .u64 (l0 n), .int .u64 (l1 n), .int .u64 (l2 n), .int .u64 (l3 n)]

theorem wideL_one (n : Int) : ∀ v ∈ wideL n, v.oneCell' = true := by
  intro v hv
  simp only [wideL, List.mem_cons, List.not_mem_nil, or_false] at hv
  rcases hv with rfl | rfl | rfl | rfl <;> rfl

/-- A block. -/
structure BkD where
  pj : CpD
  pf : CpD
  slot : Int
  root : List Int
  parent : List Int
  payload : List Int
  d : Int
  pd : Int
  j : CpD
  f : CpD
  t : Bool

def BkD.ok (x : BkD) : Prop := x.pj.ok ∧ x.pf.ok ∧ (0 ≤ x.slot ∧ x.slot ≤ 18446744073709551615) ∧ IsBytes 32 x.root ∧ IsBytes 32 x.parent ∧ IsBytes 32 x.payload ∧ W256 x.d ∧ W256 x.pd ∧ x.j.ok ∧ x.f.ok

def BkD.parts (x : BkD) : List (List Value) :=
  [x.pj.cells, x.pf.cells, [.int .u64 x.slot], bytesL x.root, bytesL x.parent, bytesL x.payload, wideL x.d, wideL x.pd, x.j.cells, x.f.cells, [.bool x.t]]

theorem BkD.flat (x : BkD) : x.parts.flatten = x.pj.cells ++ (x.pf.cells ++ (.int .u64 x.slot :: (bytesL x.root ++ (bytesL x.parent ++ (bytesL x.payload ++ (wideL x.d ++ (wideL x.pd ++ (x.j.cells ++ (x.f.cells ++ [.bool x.t]))))))))) := by simp [BkD.parts]

theorem BkD.flen {x : BkD} (h : x.ok) : x.parts.flatten.length = 238 := by
  obtain ⟨h1, h2, _, h3, h4, h5, _, _, h6, h7⟩ := h
  rw [BkD.flat]
  simp [CpD.len h1, CpD.len h2, bytesL_len h3, bytesL_len h4, bytesL_len h5, CpD.len h6, CpD.len h7, wideL]

theorem BkD.one (x : BkD) : ∀ v ∈ x.parts.flatten, v.oneCell' = true := by
  intro v hv
  rw [BkD.flat] at hv
  simp only [List.mem_append, List.mem_cons, List.not_mem_nil, or_false] at hv
  rcases hv with h | h | rfl | h | h | h | h | h | h | h | rfl
  · exact CpD.one _ v h
  · exact CpD.one _ v h
  · rfl
  · exact bytesL_one _ v h
  · exact bytesL_one _ v h
  · exact bytesL_one _ v h
  · exact wideL_one _ v h
  · exact wideL_one _ v h
  · exact CpD.one _ v h
  · exact CpD.one _ v h
  · rfl

/-- Where the fields of a block lie. -/
structure BkAt (w : World) (b o : Nat) (x : BkD) : Prop where
  pj : w.rangeAt b o x.pj.cells
  pf : w.rangeAt b (o + 33) x.pf.cells
  slot : w.cell? ⟨b, o + 66, none⟩ = some (.int .u64 x.slot)
  root : w.rangeAt b (o + 67) (bytesL x.root)
  parent : w.rangeAt b (o + 99) (bytesL x.parent)
  payload : w.rangeAt b (o + 131) (bytesL x.payload)
  d : w.rangeAt b (o + 163) (wideL x.d)
  pd : w.rangeAt b (o + 167) (wideL x.pd)
  j : w.rangeAt b (o + 171) x.j.cells
  f : w.rangeAt b (o + 204) x.f.cells
  t : w.cell? ⟨b, o + 237, none⟩ = some (.bool x.t)

theorem bk_at {w : World} {b o : Nat} {x : BkD} (h : w.rangeAt b o x.parts.flatten) (hx : x.ok) : BkAt w b o x := by
  obtain ⟨h1, h2, _, h3, h4, h5, _, _, h6, h7⟩ := hx
  rw [BkD.flat] at h
  obtain ⟨a1, h⟩ := rng_app h (CpD.len h1)
  obtain ⟨a2, h⟩ := rng_app h (CpD.len h2)
  obtain ⟨a3, h⟩ := rng_cons h
  obtain ⟨a4, h⟩ := rng_app h (bytesL_len h3)
  obtain ⟨a5, h⟩ := rng_app h (bytesL_len h4)
  obtain ⟨a6, h⟩ := rng_app h (bytesL_len h5)
  obtain ⟨a7, h⟩ := rng_app h (n := 4) rfl
  obtain ⟨a8, h⟩ := rng_app h (n := 4) rfl
  obtain ⟨a9, h⟩ := rng_app h (CpD.len h6)
  obtain ⟨a10, h⟩ := rng_app h (CpD.len h7)
  exact ⟨a1, a2, a3, a4, a5, a6, a7, a8, a9, a10, rng_one h⟩

/-- A node. -/
structure NdD where
  b : BkD
  up : Int
  st : Int

def NdD.ok (x : NdD) : Prop := x.b.ok ∧ (-9223372036854775808 ≤ x.up ∧ x.up ≤ 9223372036854775807) ∧ (-9223372036854775808 ≤ x.st ∧ x.st ≤ 9223372036854775807)

def NdD.cells (x : NdD) : List Value := x.b.parts.flatten ++ [.int .i64 x.up, .int .i64 x.st]

theorem NdD.len {x : NdD} (h : x.ok) : x.cells.length = 240 := by simp only [NdD.cells, List.length_append, BkD.flen h.1]; rfl

theorem NdD.one (x : NdD) : ∀ v ∈ x.cells, v.oneCell' = true := by
  intro v hv
  simp only [NdD.cells, List.mem_append, List.mem_cons, List.not_mem_nil, or_false] at hv
  rcases hv with h | rfl | rfl
  · exact BkD.one _ v h
  · rfl
  · rfl

structure NdAt (w : World) (b o : Nat) (x : NdD) : Prop where
  all : w.rangeAt b o x.cells
  blk : w.rangeAt b o x.b.parts.flatten
  bk : BkAt w b o x.b
  up : w.cell? ⟨b, o + 238, none⟩ = some (.int .i64 x.up)
  st : w.cell? ⟨b, o + 239, none⟩ = some (.int .i64 x.st)

theorem nd_at {w : World} {b o : Nat} {x : NdD} (h : w.rangeAt b o x.cells) (hx : x.ok) : NdAt w b o x := by
  have h' := h
  unfold NdD.cells at h'
  obtain ⟨a1, a2⟩ := rng_app h' (BkD.flen hx.1)
  obtain ⟨a3, a4⟩ := rng_cons a2
  exact ⟨h, a1, bk_at a1 hx.1, a3, rng_one a4⟩

theorem NdAt.below {N : Nat} {w u : World} {b o : Nat} {x : NdD} (h : NdAt w b o x) (hx : x.ok) (hb : Below N w u) (hN : b < N) : NdAt u b o x := nd_at (Below.rng hb hN h.all) hx

/-- An element of a slice of nodes. -/
def NdEl (P : Value → Prop) (w : World) (X : Array Value) (d : NdD) : Prop := X = d.cells.toArray ∧ d.ok

theorem ndOK : ElOK 240 NdEl where
  size := fun h => by rw [h.1, List.size_toArray, NdD.len h.2]
  one := fun h v hv => by rw [h.1] at hv; exact NdD.one _ v (by simpa using hv)
  mono := fun h _ => h
  grown := fun h _ _ => h
  off := fun h _ => h

/-- A slice of nodes. -/
abbrev NodesV (w : World) (v : Value) (ns : List NdD) : Prop := ElV NdEl 240 w v ns

theorem NodesV.call {w w' : World} {v : Value} {ns : List NdD} (h : NodesV w v ns) (hb : Below w.heap.size w w') : NodesV w' v ns := ElV.below ndOK h hb

theorem NodesV.elem {w : World} {a : Option Addr} {l cap : Nat} {ns : List NdD} (h : NodesV w (.slice a l cap) ns) {i : Nat} (hi : i < ns.length) :
    ∃ b off, a = some ⟨b, off, none⟩ ∧ l = ns.length ∧ b < w.heap.size ∧ NdAt w b (off + i * 240) ns[i] ∧ ns[i].ok := by
  obtain ⟨b, off, X, h1, h2, h3, h4, ⟨h5, h6⟩, _⟩ := ElV.at ndOK h hi
  exact ⟨b, off, h1, h2, h3, nd_at (by rw [h5] at h4; exact h4) h6, h6⟩

theorem NodesV.oks {w : World} {v : Value} {ns : List NdD} (h : NodesV w v ns) : ∀ d ∈ ns, d.ok := by
  obtain ⟨a, cap, rfl, hl, hr⟩ := h
  rcases hr with h0 | ⟨b, off, rfl, hlt, Xs, h1, h2⟩
  · rw [List.eq_nil_of_length_eq_zero h0]; simp
  · intro d hd
    obtain ⟨i, hi, rfl⟩ := List.mem_iff_getElem.1 hd
    exact (h2.at hi).2

/-- The value of a tree. -/
def TreeV (w : World) (v : Value) (ns : List NdD) : Prop := ∃ s, v = .agg #[s] ∧ NodesV w s ns

theorem TreeV.call {w w' : World} {v : Value} {ns : List NdD} (h : TreeV w v ns) (hb : Below w.heap.size w w') : TreeV w' v ns := by
  obtain ⟨s, e, h⟩ := h; exact ⟨s, e, h.call hb⟩

def zeBkP : List (List Value) := [.int .u64 0 :: bytesL zeroR, .int .u64 0 :: bytesL zeroR, [.int .u64 0], bytesL zeroR, bytesL zeroR, bytesL zeroR, List.replicate 4 (.int .u64 0), List.replicate 4 (.int .u64 0), .int .u64 0 :: bytesL zeroR, .int .u64 0 :: bytesL zeroR, [.bool false]]

theorem info_node : (Try.prog.info? 41).map (fun i => (i.zero, i.size, i.bytes)) = some (some (.agg (flatP (zeBkP ++ [[.int .i64 0], [.int .i64 0]]))), 240, 352) := by kernel_rfl
end Go.Proofs.Ytdmjpmigejpkmaa
