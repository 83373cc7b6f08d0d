/- Several texts as one: BtB, BtC, BtE, BtF, L11s, AnB, AnC, AnE, Kb, SuF, AnF. -/
import Derived.Test.YtdmjpmigejpkmaaZ3
import Derived.Test.YtdmjpmigejpkmaaGrN
import Derived.OwnWalk
import Derived.Test.YtdmjpmigejpkmaaZ2
import Derived.Test.YtdmjpmigejpkmaaZ4
import Derived.Test.YtdmjpmigejpkmaaZ7
import Derived.Test.YtdmjpmigejpkmaaHeld4
import Derived.Deep.CutRange
import Derived.Deep.RegionHeld3
import Derived.Test.YtdmjpmigejpkmaaZ5
import Derived.Test.YtdmjpmigejpkmaaZ6
import Derived.Test.YtdmjpmigejpkmaaNd
import Derived.Test.YtdmjpmigejpkmaaZ8
import Derived.Laws.OwnMore
namespace Go.Proofs.Ytdmjpmigejpkmaa

/-! BtB -/
section
set_option linter.unusedVariables false
set_option linter.unusedSimpArgs false
open Go.RowKit

set_option maxRecDepth 100000

theorem flatN_len {α : Type} (ds : List (List α)) (k : Nat) : (ds.take k).flatten.length ≤ ds.flatten.length := by
  have h : ds.flatten = (ds.take k).flatten ++ (ds.drop k).flatten := by rw [← List.flatten_append, List.take_append_drop]
  rw [h, List.length_append]; omega

theorem flatN_take {α : Type} {ds : List (List α)} {k : Nat} (h : k < ds.length) : (ds.take (k + 1)).flatten = (ds.take k).flatten ++ ds.getD k [] := by
  rw [List.take_succ_eq_append_getElem h, List.flatten_append]
  simp only [List.flatten_cons, List.flatten_nil, List.append_nil, List.getD, List.getElem?_eq_getElem h, Option.getD_some]

/-- Several structs are appended, in a walk. -/
theorem wpList_appElsN {α : Type} {sz : Nat} {El : (Value → Prop) → World → Array Value → α → Prop} (E : ElOK sz El) {t e : TypeId} {z : Value} {bytes : Nat} (ht : Try.prog.underlying t = some (.slice e)) (hinfo : (Try.prog.info? e).map (fun i => (i.zero, i.size, i.bytes)) = some (some z, sz, bytes)) (hzs : z.cells.size = sz) (hsz : 0 < sz)
    {ops : Array Oper} {rest : List Oper} {o : Oper} {a : Act} {w : World} {Q : Exit → Act → World → Prop} (s x : Operand)
    (ho : o.op = .call { callee := .builtin .append, args := #[s, x], argTypes := #[t, t] }) (hw : Region.wanted o (yielded ops a.tmps) = true)
    (B : Nat) (v : Value) (ds : List α) (hs : a.eval s = v) (hown : OwnEl El e sz w B v ds) (ad : Option Addr) (n c : Nat) (es : List α) (Ys : List (Array Value)) (hx : a.eval x = .slice ad n c) (hn : es.length = n) (hy : es.length = 0 ∨ ∃ b off, ad = some ⟨b, off, none⟩ ∧ w.rangeAt b off (rowsL Ys)) (hA : AllEl El (OffB v) w Ys es)
    (h47 : (ds.length + es.length) * bytes ≤ 140737488355328) (hm : ds.length + es.length ≤ maxLen) (hB : B ≤ w.heap.size)
    (h : ∀ v' w', OwnEl El e sz w' B v' (ds ++ es) → w.grownBy w' v.ownBlock → (v'.ownBlock = v.ownBlock ∨ v'.ownBlock = some w.heap.size) → wpList Try.prog ops Q rest (a.put o.dst v') w') : wpList Try.prog ops Q (o :: rest) a w :=
  BigFrame.wpList_want hw fun _ hK => by
    subst hn
    obtain ⟨v', w', h1, h2, h3, h4⟩ := run_appEls E (ty := o.type) ht hinfo hzs hsz w B v ds hown ad c es Ys hy hA h47 hm hB
    unfold Oper.wp execOp
    simp only [ho, resolve, invoke, builtin, Sem.run_bind, Sem.run_pure, Result.andThen_ok, List.map_toArray, List.map_cons, List.map_nil, hs, hx, h1]
    exact hK _ _ (h v' w' h2 h3 h4)

/-- The slices that are to be joined. -/
def PartsN (w : World) (g m : Nat) (vs : Array Value) (ds : List (List NdD)) : Prop := Blk w g vs ∧ vs.size = m ∧ ds.length = m ∧ ∀ k, k < m → NodesV w (vs.getD k undef) (ds.getD k [])

theorem PartsN.below {w w' : World} {g m : Nat} {vs : Array Value} {ds : List (List NdD)} (h : PartsN w g m vs ds) (hb : Below w.heap.size w w') : PartsN w' g m vs ds :=
  ⟨h.1.call hb, h.2.1, h.2.2.1, fun k hk => (h.2.2.2 k hk).call hb⟩

theorem PartsN.cell {w : World} {g m : Nat} {vs : Array Value} {ds : List (List NdD)} (h : PartsN w g m vs ds) {k : Nat} (hk : k < m) : w.cell? ⟨g, k, none⟩ = some (vs.getD k undef) := by
  rw [h.1.cell]
  simp [Array.getD, h.2.1, hk]

theorem ownN_below {N B : Nat} {w0 w w' : World} {v : Value} {xs : List NdD} (hb : Below N w0 w) (hg : w.grownBy w' v.ownBlock) (ho : OwnEl NdEl 41 240 w B v xs) (hN : N ≤ B) (hB : B ≤ w.heap.size) : Below N w0 w' :=
  hb.grown hg (by omega) (fun k hk => by have := (ho.lt k hk).1; omega)
end

/-! BtC -/
section
set_option linter.unusedVariables false
set_option linter.unusedSimpArgs false
open Go.RowKit

set_option maxRecDepth 100000

theorem al2 (u : World) (x y : Obj) : Below u.heap.size u ((u.alloc x).alloc y) := ((Below.refl _ u).alloc (Nat.le_refl _) x).alloc (by simp) y
end

/-! BtE -/
section
set_option linter.unusedVariables false
set_option linter.unusedSimpArgs false
open Go.RowKit

set_option maxRecDepth 100000

/-- A tree in a variable of the call's own, and an error number. -/
def TreC (ns : List NdD) (er : Int) (w1 : World) (p q : Value) (wx : World) : Prop :=
  ∃ (B : Nat) (a : Option Addr) (c : Nat), p = .pointer (some ⟨B, 0, none⟩) ∧ q = .int .i64 er ∧ Blk wx B #[.slice a ns.length c] ∧ NodesV wx (.slice a ns.length c) ns ∧ ns.length ≤ c ∧ Off B (.slice a ns.length c) ∧ New w1.heap.size (.slice a ns.length c) ∧ w1.heap.size ≤ B ∧ Below w1.heap.size w1 wx

theorem TreC.mk {ns : List NdD} {er : Int} {w1 w3 w9 : World} {B : Nat} {a : Option Addr} {c : Nat} (hU : Upd B w3 w9) (hB : Blk w9 B #[.slice a ns.length c]) (hN : NodesV w3 (.slice a ns.length c) ns) (hc : ns.length ≤ c) (hO : Off B (.slice a ns.length c)) (hW : New w1.heap.size (.slice a ns.length c)) (hg : w1.heap.size ≤ B) (hb : Below w1.heap.size w1 w9) :
    TreC ns er w1 (.pointer (some ⟨B, 0, none⟩)) (.int .i64 er) w9 := ⟨B, a, c, rfl, rfl, hB, hN.grownOff (upd_grown hU) hO, hc, hO, hW, hg, hb⟩
/-! ### The trees of awake, as data -/

def awA : BkD := bk4 0 (rootK 1) zeroR zeroR

def awB : BkD := bk4 1 (rootK 2) (rootK 1) zeroR

def awC : BkD := bk4 2 (rootK 3) (rootK 1) zeroR

def aw1 : List NdD := [⟨awA, -1, 1⟩]

def aw2 : List NdD := [⟨awA, -1, 1⟩, ⟨awB, 0, 1⟩]

def aw3 : List NdD := [⟨awA, -1, 1⟩, ⟨awB, 0, 1⟩, ⟨awC, 0, 0⟩]

theorem awA_ok : awA.ok := bk4_ok (by omega) (rootK_is 1) zeroR_is zeroR_is

theorem awB_ok : awB.ok := bk4_ok (by omega) (rootK_is 2) (rootK_is 1) zeroR_is

theorem awC_ok : awC.ok := bk4_ok (by omega) (rootK_is 3) (rootK_is 1) zeroR_is

theorem aw_ins1 : insT aw1 awB 1 = (aw2, 0) := by
  have h1 : findN aw1 awB.root = -1 := by kernel_rfl
  have h2 : findN aw1 awB.parent = 0 := by kernel_rfl
  have h3 : slotAt aw1 0 = 0 := by kernel_rfl
  unfold insT
  rw [h1, h2, h3, if_neg (by omega), if_neg (by omega), if_neg (by omega), if_neg (by decide), if_neg (by decide)]
  rfl

theorem aw_ins2 : insT aw2 awC 0 = (aw3, 0) := by
  have h1 : findN aw2 awC.root = -1 := by kernel_rfl
  have h2 : findN aw2 awC.parent = 0 := by kernel_rfl
  have h3 : slotAt aw2 0 = 0 := by kernel_rfl
  unfold insT
  rw [h1, h2, h3, if_neg (by omega), if_neg (by omega), if_neg (by omega), if_neg (by decide), if_neg (by decide)]
  rfl

theorem aw_find : findN aw3 (rootK 3) = 2 := by kernel_rfl

theorem aw_child : childN aw3 0 = [1, 2] := by kernel_rfl

theorem aw_leaf : leafN aw3 = [1, 2] := by kernel_rfl
end

/-! BtF -/
section
set_option linter.unusedVariables false
set_option linter.unusedSimpArgs false
open Go.RowKit

/-- A valid tree. -/
structure TrVal (ns : List NdD) : Prop where
  pos : 0 < ns.length
  root : ∀ h : 0 < ns.length, ns[0].up = -1
  up : ∀ i (hi : i < ns.length), 0 < i → ∃ u : Nat, ∃ hu : u < ns.length, u < i ∧ ns[i].up = u ∧ ns[i].b.parent = ns[u].b.root ∧ ns[u].b.slot < ns[i].b.slot
  ne : ∀ i j (hi : i < ns.length) (hj : j < ns.length), i < j → ns[i].b.root ≠ ns[j].b.root
  st : ∀ i (hi : i < ns.length), 0 ≤ ns[i].st ∧ ns[i].st ≤ 2

theorem TrOK.val {ns : List NdD} (h : TrOK ns) : TrVal ns := ⟨h.pos, h.root, fun i hi h0 => by obtain ⟨u, hu, h1, h2, h3, h4, _⟩ := h.up i hi h0; exact ⟨u, hu, h1, h2, h3, h4⟩, h.ne, h.st⟩

theorem nodeE_val {ns : List NdD} (h : TrVal ns) {k : Nat} (hk : k < ns.length) : nodeE ns ns[k] k = 0 := by
  have hs := h.st k hk
  have hb : ¬ badForm ns[k] k := by
    unfold badForm
    by_cases h0 : k = 0
    · subst h0
      have := h.root hk
      omega
    · obtain ⟨u, hu, h1, h2, _⟩ := h.up k hk (by omega)
      omega
  have hf : ¬ 0 ≤ findN (ns.take k) ns[k].b.root := by
    rcases findN_spec (ns.take k) ns[k].b.root with ⟨h1, _⟩ | ⟨j, hj, _, h2, _⟩
    · rw [h1]; omega
    · have hj' : j < k := by rw [List.length_take] at hj; omega
      rw [List.getElem_take] at h2
      exact absurd h2 (h.ne j k (by omega) hk hj')
  unfold nodeE
  rw [if_neg hb, if_neg hf]
  by_cases h0 : k = 0
  · rw [if_neg (by omega), if_neg (by omega)]
  · obtain ⟨u, hu, h1, h2, h3, h4⟩ := h.up k hk (by omega)
    have hr : rootAt ns ns[k].up = ns[u].b.root := by rw [h2]; simp [rootAt, List.getElem?_eq_getElem hu]
    have hsl : slotAt ns ns[k].up = ns[u].b.slot := by rw [h2]; simp [slotAt, List.getElem?_eq_getElem hu]
    rw [hr, hsl, if_neg (fun hh => hh.2 h3), if_neg (by omega)]

theorem vtGo_val {ns : List NdD} (h : TrVal ns) : ∀ f k, vtGo ns f k = 0
  | 0, _ => rfl
  | f + 1, k => by
    show (match ns[k]? with | none => 0 | some d => if nodeE ns d k = 0 then vtGo ns f (k + 1) else nodeE ns d k) = 0
    by_cases hk : k < ns.length
    · rw [List.getElem?_eq_getElem hk]
      show (if nodeE ns ns[k] k = 0 then vtGo ns f (k + 1) else nodeE ns ns[k] k) = 0
      rw [if_pos (nodeE_val h hk), vtGo_val h f (k + 1)]
    · rw [List.getElem?_eq_none (by omega)]

theorem vtE_val {ns : List NdD} (h : TrVal ns) (hl : ns.length ≤ 4096) : vtE ns = 0 := by
  unfold vtE
  rw [if_neg (by have := h.pos; omega)]
  exact vtGo_val h _ _

theorem insT_st {ns : List NdD} {x : BkD} {st : Int} (he : (insT ns x st).2 = 0) : 0 ≤ st ∧ st ≤ 2 := by
  by_cases h : 0 ≤ st ∧ st ≤ 2
  · exact h
  · unfold insT at he
    rw [if_pos h] at he
    cases he

theorem TrVal.add {ns : List NdD} (h : TrVal ns) {x : BkD} {st : Int} (he : (insT ns x st).2 = 0) : TrVal (insT ns x st).1 ∧ (insT ns x st).1.length ≤ 4096 := by
  have hst := insT_st he
  obtain ⟨h1, h2, h3, h4, h5⟩ := insT_cases he
  rw [h5]
  obtain ⟨q, hf⟩ : ∃ q : Nat, findN ns x.parent = q := ⟨(findN ns x.parent).toNat, by omega⟩
  obtain ⟨hq, hp⟩ : ∃ hq : q < ns.length, x.parent = ns[q].b.root := by
    rcases findN_spec ns x.parent with ⟨e, _⟩ | ⟨k, hk, e, e2, _⟩
    · omega
    · obtain rfl : k = q := by omega
      exact ⟨hk, e2.symm⟩
  rw [hf] at h3 ⊢
  have hs : slotAt ns (q : Int) = ns[q].b.slot := by simp [slotAt, List.getElem?_eq_getElem hq]
  rw [hs] at h3
  refine ⟨⟨by simp, fun _ => ?_, fun i hi h0 => ?_, fun i j hi hj hij => ?_, fun i hi => ?_⟩, by simp; omega⟩
  · rw [List.getElem_append_left h.pos]; exact h.root h.pos
  · by_cases hil : i < ns.length
    · obtain ⟨u, hu, a1, a2, a3, a4⟩ := h.up i hil h0
      refine ⟨u, by simp; omega, a1, ?_⟩
      rw [List.getElem_append_left hil, List.getElem_append_left hu]
      exact ⟨a2, a3, a4⟩
    · obtain rfl : i = ns.length := by simp at hi; omega
      refine ⟨q, by simp; omega, hq, ?_⟩
      rw [List.getElem_append_right (Nat.le_refl _), List.getElem_append_left hq]
      simp only [Nat.sub_self, List.getElem_cons_zero]
      exact ⟨by trivial, hp, h3⟩
  · have hil : i < ns.length := by simp at hj; omega
    rw [List.getElem_append_left hil]
    by_cases hjl : j < ns.length
    · rw [List.getElem_append_left hjl]; exact h.ne i j hil hjl hij
    · obtain rfl : j = ns.length := by simp at hj; omega
      rw [List.getElem_append_right (Nat.le_refl _)]
      simp only [Nat.sub_self, List.getElem_cons_zero]
      rcases findN_spec ns x.root with ⟨_, b2⟩ | ⟨k, hk, b1, _, _⟩
      · exact b2 i hil
      · rw [b1] at h1; omega
  · by_cases hil : i < ns.length
    · rw [List.getElem_append_left hil]; exact h.st i hil
    · obtain rfl : i = ns.length := by simp at hi; omega
      rw [List.getElem_append_right (Nat.le_refl _)]
      simpa using hst

/-- A tree in a variable. -/
structure TvS (w : World) (b : Nat) (s : Value) (ns : List NdD) (u : World) : Prop where
  t : Blk u b #[s]
  n : NodesV u s ns
  b : Below w.heap.size w u

theorem TvS.call {w u u' : World} {b : Nat} {s : Value} {ns : List NdD} (h : TvS w b s ns u) (hb : Below u.heap.size u u') : TvS w b s ns u' := ⟨h.t.call hb, h.n.call hb, h.b.trans (hb.mono h.b.size)⟩
end

/-! L11s -/
section
set_option linter.unusedVariables false
set_option linter.unusedSimpArgs false
open Go.RowKit

set_option maxRecDepth 100000

theorem and_low (b : Nat) (hb : b ≤ 16) (n : Int) : bits .and .i64 n (((2 ^ b - 1 : Nat) : Nat) : Int) = n % ((2 ^ b : Nat) : Int) := by
  have h1 : 2 ^ b ≤ 2 ^ 16 := Nat.pow_le_pow_right (by omega) hb
  have h0 : 0 < 2 ^ b := Nat.pow_pos (by omega)
  have h3 : (BitVec.ofInt 64 (((2 ^ b - 1 : Nat) : Nat) : Int)).toNat = 2 ^ b - 1 := by
    rw [BitVec.toNat_ofInt]
    omega
  have key : (BitVec.ofInt 64 n &&& BitVec.ofInt 64 (((2 ^ b - 1 : Nat) : Nat) : Int)).toNat = (n % ((2 ^ 64 : Nat) : Int)).toNat % 2 ^ b := by
    rw [BitVec.toNat_and, BitVec.toNat_ofInt, h3, Nat.and_two_pow_sub_one_eq_mod]
  show IntKind.i64.wrap ((BitVec.ofInt 64 n &&& BitVec.ofInt 64 (((2 ^ b - 1 : Nat) : Nat) : Int)).toNat : Nat) = n % ((2 ^ b : Nat) : Int)
  rw [key, IntKind.wrap_i64]
  have hd : (2 ^ b : Nat) ∣ 2 ^ 64 := Nat.pow_dvd_pow 2 (by omega)
  have e1 : (((n % ((2 ^ 64 : Nat) : Int)).toNat % 2 ^ b : Nat) : Int) = n % ((2 ^ b : Nat) : Int) := by
    have hp : 0 ≤ n % ((2 ^ 64 : Nat) : Int) := Int.emod_nonneg _ (by omega)
    rw [Int.natCast_emod, Int.toNat_of_nonneg hp]
    exact Int.emod_emod_of_dvd n (Int.natCast_dvd_natCast.2 hd)
  rw [e1]
  have hr1 : 0 ≤ n % ((2 ^ b : Nat) : Int) := Int.emod_nonneg _ (by omega)
  have hr2 : n % ((2 ^ b : Nat) : Int) < ((2 ^ b : Nat) : Int) := Int.emod_lt_of_pos _ (by omega)
  omega

theorem and_nat (b : Nat) (hb : b ≤ 16) (n : Int) : ∃ m : Nat, m < 2 ^ b ∧ bits .and .i64 n (((2 ^ b - 1 : Nat) : Nat) : Int) = m := by
  have h0 : 0 < 2 ^ b := Nat.pow_pos (by omega)
  have hr1 : 0 ≤ n % ((2 ^ b : Nat) : Int) := Int.emod_nonneg _ (by omega)
  have hr2 : n % ((2 ^ b : Nat) : Int) < ((2 ^ b : Nat) : Int) := Int.emod_lt_of_pos _ (by omega)
  exact ⟨(n % ((2 ^ b : Nat) : Int)).toNat, by omega, by rw [and_low b hb]; omega⟩

/-- A part of an element of a row that may be written. -/
theorem rowB_part {w : World} {g sz : Nat} {Ls : List (List Value)} (h : RowB w g Ls) (hs : ∀ L ∈ Ls, L.length = sz) {k : Nat} (hk : k < Ls.length) {A p C : List Value} (hL : Ls[k] = A ++ (p ++ C)) :
    ∃ D E, Blk w g (flatP [D, p, E]) ∧ D.length = k * sz + A.length ∧ ∀ q w', Blk w' g (flatP [D, q, E]) → RowB w' g (Ls.set k (A ++ (q ++ C))) := by
  obtain ⟨sp, hB⟩ := h
  have hkk : Ls[k]? = some Ls[k] := List.getElem?_eq_getElem hk
  have e1 := flatP_split hkk
  refine ⟨(Ls.take k).flatten ++ A, C ++ ((Ls.drop (k + 1)).flatten ++ sp), ?_, ?_, fun q w' hB' => ⟨sp, ?_⟩⟩
  · have e : flatP (Ls ++ [sp]) = flatP [(Ls.take k).flatten ++ A, p, C ++ ((Ls.drop (k + 1)).flatten ++ sp)] := by
      unfold flatP
      rw [List.flatten_append, e1, hL]
      simp
    rw [← e]; exact hB
  · rw [List.length_append, flat_len (sz := sz) (fun L hL => hs L (List.mem_of_mem_take hL)), List.length_take, Nat.min_eq_left (by omega)]
  · have e : flatP (Ls.set k (A ++ (q ++ C)) ++ [sp]) = flatP [(Ls.take k).flatten ++ A, q, C ++ ((Ls.drop (k + 1)).flatten ++ sp)] := by
      unfold flatP
      rw [List.flatten_append, flatP_set hkk]
      simp
    rw [e]; exact hB'

theorem cells_sz {ns : List NdD} (h : ∀ d ∈ ns, d.ok) : ∀ L ∈ ns.map NdD.cells, L.length = 240 := by
  intro L hL
  obtain ⟨d, hd, rfl⟩ := List.mem_map.1 hL
  exact NdD.len (h d hd)

theorem rows_of (ns : List NdD) : rowsL (ns.map fun d => d.cells.toArray) = (ns.map NdD.cells).flatten := by simp [rowsL, List.map_map, Function.comp_def]

theorem rowB_nodes {w : World} {g c : Nat} {ns : List NdD} (h : RowB w g (ns.map NdD.cells)) (ho : ∀ d ∈ ns, d.ok) (hm : ns.length ≤ maxLen) : NodesV w (.slice (some ⟨g, 0, none⟩) ns.length c) ns := by
  refine ⟨_, _, rfl, hm, .inr ⟨g, 0, rfl, h.lt, ns.map fun d => d.cells.toArray, ?_, by simp, ?_⟩⟩
  · rw [rows_of]; exact h.range
  · intro p hp
    obtain ⟨i, hi, rfl⟩ := List.mem_iff_getElem.1 hp
    have hi' : i < ns.length := by simpa using hi
    simp only [List.getElem_zip, List.getElem_map]
    exact ⟨rfl, ho _ (List.getElem_mem _)⟩

theorem rowB_drop {w : World} {g c : Nat} {ns : List NdD} (h : RowB w g (ns.map NdD.cells)) (ho : ∀ d ∈ ns, d.ok) (hm : ns.length ≤ maxLen) (h1 : 1 ≤ ns.length) (hc : ns.length ≤ c) : NodesV w (.slice (if c = 1 then some ⟨g, 0, none⟩ else (some (⟨g, 0, none⟩ : Addr)).map (·.add (1 * 240))) (ns.length - 1) (c - 1)) (ns.drop 1) := by
  refine ⟨_, _, by rw [List.length_drop], by rw [List.length_drop]; omega, ?_⟩
  by_cases e : c = 1
  · exact .inl (by rw [List.length_drop]; omega)
  · rw [if_neg e]
    refine .inr ⟨g, 240, by simp [Go.WideShapes.add_plain], h.lt, (ns.drop 1).map fun d => d.cells.toArray, ?_, by simp, ?_⟩
    · rw [rows_of]
      intro j v hj
      have hr := h.range (j := 240 + j) (v := v)
      rw [Nat.zero_add] at hr
      refine hr ?_
      cases ns with
      | nil => simp at h1
      | cons d r =>
        have hl := NdD.len (ho d (by simp))
        rw [List.map_cons, List.flatten_cons, List.getElem?_append_right (by omega), hl, Nat.add_sub_cancel_left]
        exact hj
    · intro p hp
      obtain ⟨i, hi, rfl⟩ := List.mem_iff_getElem.1 hp
      have hi' : i < (ns.drop 1).length := by simpa using hi
      simp only [List.getElem_zip, List.getElem_map]
      exact ⟨rfl, ho _ (List.mem_of_mem_drop (List.getElem_mem hi'))⟩

/-- The copy's variable and its row. -/
structure SpS (w : World) (bu g n c : Nat) (ns : List NdD) (u : World) : Prop where
  t : Blk u bu #[.slice (some ⟨g, 0, none⟩) n c]
  r : RowB u g (ns.map NdD.cells)
  o : ∀ d ∈ ns, d.ok
  b : Below w.heap.size w u
  len : n = ns.length ∧ 1 ≤ n ∧ n ≤ 9 ∧ n ≤ c
  lt : w.heap.size ≤ g ∧ w.heap.size ≤ bu ∧ bu ≠ g

theorem SpS.call {w u u' : World} {bu g n c : Nat} {ns : List NdD} (h : SpS w bu g n c ns u) (hb : Below u.heap.size u u') : SpS w bu g n c ns u' := ⟨h.t.call hb, h.r.call hb, h.o, h.b.trans (hb.mono h.b.size), h.len, h.lt⟩

theorem SpS.put {w u u' : World} {bu g n c : Nat} {ns : List NdD} (h : SpS w bu g n c ns u) (U : Upd g u u') {k : Nat} {d : NdD} (hr : RowB u' g ((ns.map NdD.cells).set k d.cells)) (hd : d.ok) : SpS w bu g n c (ns.set k d) u' :=
  ⟨U.blk h.t h.lt.2.2, by rw [List.map_set]; exact hr, fun x hx => by rcases List.mem_or_eq_of_mem_set hx with e | e; exact h.o x e; rw [e]; exact hd, U.below h.b h.lt.1, by rw [List.length_set]; exact h.len, h.lt⟩

def SpR (w : World) (bu : Nat) (u : World) : Prop := ∃ (a : Option Addr) (n c : Nat) (ns : List NdD), Blk u bu #[.slice a n c] ∧ NodesV u (.slice a n c) ns ∧ n ≤ c ∧ Below w.heap.size w u

theorem SpS.out {w u : World} {bu g n c : Nat} {ns : List NdD} (h : SpS w bu g n c ns u) : SpR w bu u := by
  obtain ⟨h1, h2, h3, h4⟩ := h.len
  refine ⟨_, n, c, ns, h.t, ?_, h4, h.b⟩
  rw [h1]
  exact rowB_nodes h.r h.o (by unfold maxLen; omega)

theorem SpS.up {w u : World} {bu g n c j : Nat} {ns : List NdD} (h : SpS w bu g n c ns u) (hj : j < ns.length) : ∃ D E, Blk u g (flatP [D, [Value.int .i64 ns[j].up], E]) ∧ offP [D, [Value.int .i64 ns[j].up], E] 1 = j * 240 + 238 ∧ ∀ (V : Int) u' (hV : -9223372036854775808 ≤ V ∧ V ≤ 9223372036854775807), Upd g u u' → Blk u' g (flatP [D, [Value.int .i64 V], E]) → SpR w bu u' := by
  have hd : ns[j].ok := h.o _ (List.getElem_mem _)
  have hLj : (ns.map NdD.cells)[j]'(by simpa using hj) = ns[j].b.parts.flatten ++ ([Value.int .i64 ns[j].up] ++ [Value.int .i64 ns[j].st]) := by
    rw [List.getElem_map]
    simp [NdD.cells, BkD.parts]
  obtain ⟨D, E, h1, h2, h3⟩ := rowB_part h.r (cells_sz h.o) (k := j) (by simpa using hj) hLj
  refine ⟨D, E, h1, ?_, fun V u' hV U hB => ?_⟩
  · have e : offP [D, [Value.int .i64 ns[j].up], E] 1 = D.length := by simp [offP]
    have hf := BkD.flen hd.1
    have k1 := CpD.len hd.1.1
    have k2 := CpD.len hd.1.2.1
    have k3 := bytesL_len hd.1.2.2.2.1
    rw [e, h2]
    simp only [List.length_append, List.length_cons, List.length_nil, hf, k1, k2, k3]
  · have hr := h3 ([Value.int .i64 V]) u' hB
    have e : ns[j].b.parts.flatten ++ (([Value.int .i64 V]) ++ [Value.int .i64 ns[j].st]) = ({ns[j] with up := V} : NdD).cells := by simp [NdD.cells, BkD.parts]
    rw [e] at hr
    exact (h.put U hr ⟨hd.1, hV, hd.2.2⟩).out

theorem SpS.st {w u : World} {bu g n c j : Nat} {ns : List NdD} (h : SpS w bu g n c ns u) (hj : j < ns.length) : ∃ D E, Blk u g (flatP [D, [Value.int .i64 ns[j].st], E]) ∧ offP [D, [Value.int .i64 ns[j].st], E] 1 = j * 240 + 239 ∧ ∀ (V : Int) u' (hV : -9223372036854775808 ≤ V ∧ V ≤ 9223372036854775807), Upd g u u' → Blk u' g (flatP [D, [Value.int .i64 V], E]) → SpR w bu u' := by
  have hd : ns[j].ok := h.o _ (List.getElem_mem _)
  have hLj : (ns.map NdD.cells)[j]'(by simpa using hj) = (ns[j].b.parts.flatten ++ [Value.int .i64 ns[j].up]) ++ ([Value.int .i64 ns[j].st] ++ []) := by
    rw [List.getElem_map]
    simp [NdD.cells, BkD.parts]
  obtain ⟨D, E, h1, h2, h3⟩ := rowB_part h.r (cells_sz h.o) (k := j) (by simpa using hj) hLj
  refine ⟨D, E, h1, ?_, fun V u' hV U hB => ?_⟩
  · have e : offP [D, [Value.int .i64 ns[j].st], E] 1 = D.length := by simp [offP]
    have hf := BkD.flen hd.1
    have k1 := CpD.len hd.1.1
    have k2 := CpD.len hd.1.2.1
    have k3 := bytesL_len hd.1.2.2.2.1
    rw [e, h2]
    simp only [List.length_append, List.length_cons, List.length_nil, hf, k1, k2, k3]
  · have hr := h3 ([Value.int .i64 V]) u' hB
    have e : (ns[j].b.parts.flatten ++ [Value.int .i64 ns[j].up]) ++ (([Value.int .i64 V]) ++ []) = ({ns[j] with st := V} : NdD).cells := by simp [NdD.cells, BkD.parts]
    rw [e] at hr
    exact (h.put U hr ⟨hd.1, hd.2.1, hV⟩).out

theorem SpS.root {w u : World} {bu g n c j : Nat} {ns : List NdD} (h : SpS w bu g n c ns u) (hj : j < ns.length) : ∃ D E, Blk u g (flatP [D, bytesL ns[j].b.root, E]) ∧ offP [D, bytesL ns[j].b.root, E] 1 = j * 240 + 67 ∧ ∀ (V : List Int) u' (hV : IsBytes 32 V), Upd g u u' → Blk u' g (flatP [D, bytesL V, E]) → SpR w bu u' := by
  have hd : ns[j].ok := h.o _ (List.getElem_mem _)
  have hLj : (ns.map NdD.cells)[j]'(by simpa using hj) = (ns[j].b.pj.cells ++ (ns[j].b.pf.cells ++ [Value.int .u64 ns[j].b.slot])) ++ (bytesL ns[j].b.root ++ (bytesL ns[j].b.parent ++ (bytesL ns[j].b.payload ++ (wideL ns[j].b.d ++ (wideL ns[j].b.pd ++ (ns[j].b.j.cells ++ (ns[j].b.f.cells ++ [Value.bool ns[j].b.t, Value.int .i64 ns[j].up, Value.int .i64 ns[j].st]))))))) := by
    rw [List.getElem_map]
    simp [NdD.cells, BkD.parts]
  obtain ⟨D, E, h1, h2, h3⟩ := rowB_part h.r (cells_sz h.o) (k := j) (by simpa using hj) hLj
  refine ⟨D, E, h1, ?_, fun V u' hV U hB => ?_⟩
  · have e : offP [D, bytesL ns[j].b.root, E] 1 = D.length := by simp [offP]
    have hf := BkD.flen hd.1
    have k1 := CpD.len hd.1.1
    have k2 := CpD.len hd.1.2.1
    have k3 := bytesL_len hd.1.2.2.2.1
    rw [e, h2]
    simp only [List.length_append, List.length_cons, List.length_nil, hf, k1, k2, k3]
  · have hr := h3 (bytesL V) u' hB
    have e : (ns[j].b.pj.cells ++ (ns[j].b.pf.cells ++ [Value.int .u64 ns[j].b.slot])) ++ ((bytesL V) ++ (bytesL ns[j].b.parent ++ (bytesL ns[j].b.payload ++ (wideL ns[j].b.d ++ (wideL ns[j].b.pd ++ (ns[j].b.j.cells ++ (ns[j].b.f.cells ++ [Value.bool ns[j].b.t, Value.int .i64 ns[j].up, Value.int .i64 ns[j].st]))))))) = ({ns[j] with b := {ns[j].b with root := V}} : NdD).cells := by simp [NdD.cells, BkD.parts]
    rw [e] at hr
    exact (h.put U hr ⟨(by obtain ⟨o1, o2, o3, _, o5⟩ := hd.1; exact ⟨o1, o2, o3, hV, o5⟩), hd.2⟩).out

theorem SpS.parent {w u : World} {bu g n c j : Nat} {ns : List NdD} (h : SpS w bu g n c ns u) (hj : j < ns.length) : ∃ D E, Blk u g (flatP [D, bytesL ns[j].b.parent, E]) ∧ offP [D, bytesL ns[j].b.parent, E] 1 = j * 240 + 99 ∧ ∀ (V : List Int) u' (hV : IsBytes 32 V), Upd g u u' → Blk u' g (flatP [D, bytesL V, E]) → SpR w bu u' := by
  have hd : ns[j].ok := h.o _ (List.getElem_mem _)
  have hLj : (ns.map NdD.cells)[j]'(by simpa using hj) = (ns[j].b.pj.cells ++ (ns[j].b.pf.cells ++ (Value.int .u64 ns[j].b.slot :: bytesL ns[j].b.root))) ++ (bytesL ns[j].b.parent ++ (bytesL ns[j].b.payload ++ (wideL ns[j].b.d ++ (wideL ns[j].b.pd ++ (ns[j].b.j.cells ++ (ns[j].b.f.cells ++ [Value.bool ns[j].b.t, Value.int .i64 ns[j].up, Value.int .i64 ns[j].st])))))) := by
    rw [List.getElem_map]
    simp [NdD.cells, BkD.parts]
  obtain ⟨D, E, h1, h2, h3⟩ := rowB_part h.r (cells_sz h.o) (k := j) (by simpa using hj) hLj
  refine ⟨D, E, h1, ?_, fun V u' hV U hB => ?_⟩
  · have e : offP [D, bytesL ns[j].b.parent, E] 1 = D.length := by simp [offP]
    have hf := BkD.flen hd.1
    have k1 := CpD.len hd.1.1
    have k2 := CpD.len hd.1.2.1
    have k3 := bytesL_len hd.1.2.2.2.1
    rw [e, h2]
    simp only [List.length_append, List.length_cons, List.length_nil, hf, k1, k2, k3]
  · have hr := h3 (bytesL V) u' hB
    have e : (ns[j].b.pj.cells ++ (ns[j].b.pf.cells ++ (Value.int .u64 ns[j].b.slot :: bytesL ns[j].b.root))) ++ ((bytesL V) ++ (bytesL ns[j].b.payload ++ (wideL ns[j].b.d ++ (wideL ns[j].b.pd ++ (ns[j].b.j.cells ++ (ns[j].b.f.cells ++ [Value.bool ns[j].b.t, Value.int .i64 ns[j].up, Value.int .i64 ns[j].st])))))) = ({ns[j] with b := {ns[j].b with parent := V}} : NdD).cells := by simp [NdD.cells, BkD.parts]
    rw [e] at hr
    exact (h.put U hr ⟨(by obtain ⟨o1, o2, o3, o4, _, o6⟩ := hd.1; exact ⟨o1, o2, o3, o4, hV, o6⟩), hd.2⟩).out

theorem SpS.slot {w u : World} {bu g n c j : Nat} {ns : List NdD} (h : SpS w bu g n c ns u) (hj : j < ns.length) : ∃ D E, Blk u g (flatP [D, [Value.int .u64 ns[j].b.slot], E]) ∧ offP [D, [Value.int .u64 ns[j].b.slot], E] 1 = j * 240 + 66 ∧ ∀ (V : Int) u' (hV : 0 ≤ V ∧ V ≤ 18446744073709551615), Upd g u u' → Blk u' g (flatP [D, [Value.int .u64 V], E]) → SpR w bu u' := by
  have hd : ns[j].ok := h.o _ (List.getElem_mem _)
  have hLj : (ns.map NdD.cells)[j]'(by simpa using hj) = (ns[j].b.pj.cells ++ ns[j].b.pf.cells) ++ ([Value.int .u64 ns[j].b.slot] ++ (bytesL ns[j].b.root ++ (bytesL ns[j].b.parent ++ (bytesL ns[j].b.payload ++ (wideL ns[j].b.d ++ (wideL ns[j].b.pd ++ (ns[j].b.j.cells ++ (ns[j].b.f.cells ++ [Value.bool ns[j].b.t, Value.int .i64 ns[j].up, Value.int .i64 ns[j].st])))))))) := by
    rw [List.getElem_map]
    simp [NdD.cells, BkD.parts]
  obtain ⟨D, E, h1, h2, h3⟩ := rowB_part h.r (cells_sz h.o) (k := j) (by simpa using hj) hLj
  refine ⟨D, E, h1, ?_, fun V u' hV U hB => ?_⟩
  · have e : offP [D, [Value.int .u64 ns[j].b.slot], E] 1 = D.length := by simp [offP]
    have hf := BkD.flen hd.1
    have k1 := CpD.len hd.1.1
    have k2 := CpD.len hd.1.2.1
    have k3 := bytesL_len hd.1.2.2.2.1
    rw [e, h2]
    simp only [List.length_append, List.length_cons, List.length_nil, hf, k1, k2, k3]
  · have hr := h3 ([Value.int .u64 V]) u' hB
    have e : (ns[j].b.pj.cells ++ ns[j].b.pf.cells) ++ (([Value.int .u64 V]) ++ (bytesL ns[j].b.root ++ (bytesL ns[j].b.parent ++ (bytesL ns[j].b.payload ++ (wideL ns[j].b.d ++ (wideL ns[j].b.pd ++ (ns[j].b.j.cells ++ (ns[j].b.f.cells ++ [Value.bool ns[j].b.t, Value.int .i64 ns[j].up, Value.int .i64 ns[j].st])))))))) = ({ns[j] with b := {ns[j].b with slot := V}} : NdD).cells := by simp [NdD.cells, BkD.parts]
    rw [e] at hr
    exact (h.put U hr ⟨(by obtain ⟨o1, o2, _, o4⟩ := hd.1; exact ⟨o1, o2, hV, o4⟩), hd.2⟩).out

theorem wpList_slLo {ops : Array Oper} {rest : List Oper} {op : Oper} {a : Act} {w : World} {Q : Exit → Act → World → Prop} (hgd : op.guard = none) (t : TypeId) (x y : Operand) (ho : op.op = .slice t x (some y) none none) (xv yv v : Value) (hx : a.eval x = xv) (hy : a.eval y = yv)
    (hr : (Instr.sliceAt t xv (some yv) none none).run Try.prog w = .ok v w) (h : wpList Try.prog ops Q rest (a.put op.dst v) w) : wpList Try.prog ops Q (op :: rest) a w :=
  wpList_plain hgd fun _ hK => by
    unfold Oper.wp execOp
    simp only [ho, hx, hy, Option.map_some, Option.map_none, Sem.run_bind, hr, Result.andThen_ok, Sem.run_pure]
    exact hK _ _ h

theorem at_sl {P : Program} {ops : Array Oper} {Q : Exit → Act → World → Prop} (dst : Option Tmp) {t ty' : TypeId} {x : Operand} {l h m : Option Operand} {pos : String} {aft : Array Edge} {g : Option (Nat × Bool)} {rest : List Oper} {a : Act} {w : World}
    (h' : wpList P ops Q (⟨dst, .slice t x l h m, ty', pos, aft, g⟩ :: rest) a w) : wpList P ops Q (⟨dst, .slice t x l h m, ty', pos, aft, g⟩ :: rest) a w := h'
end

/-! AnB -/
section
set_option linter.unusedVariables false
set_option linter.unusedSimpArgs false
open Go.RowKit

set_option maxRecDepth 100000
/-! ### At -/

def AtcI (w : World) (T : Array Value) (ns : List NdD) (s r : Int) (iv : Value) (wr : World) : Prop :=
  ∃ i : Int, -1 ≤ i ∧ i < ns.length ∧ iv = .int .i64 i ∧ atP ns i s = r ∧ PaS w T wr
/-! ### Heir -/

def HecI (w : World) (T : Array Value) (ns : List NdD) (x r : Int) (bv : Value) (wr : World) : Prop :=
  ∃ k : Nat, k < ns.length ∧ x ∈ pathN ns (k : Int) ∧ x ≠ k ∧ bv = .int .i64 k ∧ heirN ns x (k : Int) = r ∧ PaS w T wr

theorem heirN_self {ns : List NdD} (h : TrOK ns) (x : Int) : heirN ns x x = -1 := by
  by_cases hx : 0 ≤ x ∧ x < ns.length
  · obtain ⟨k, rfl⟩ : ∃ k : Nat, x = k := ⟨x.toNat, by omega⟩
    have hk : k < ns.length := by omega
    refine heirN_no h hk fun hm => ?_
    have h1 := path_le h hm
    have h2 := (up_path h hk).2.1
    omega
  · exact heirN_out hx

theorem heirN_not {ns : List NdD} (h : TrOK ns) {x y : Int} (hn : x ∉ pathN ns y) : heirN ns x y = -1 := by
  by_cases hx : 0 ≤ y ∧ y < ns.length
  · obtain ⟨k, rfl⟩ : ∃ k : Nat, y = k := ⟨y.toNat, by omega⟩
    have hk : k < ns.length := by omega
    exact heirN_no h hk fun hm => hn ((path_up h hk).2 (.inl hm))
  · exact heirN_out hx
end

/-! AnC -/
section
set_option linter.unusedVariables false
set_option linter.unusedSimpArgs false
open Go.RowKit

set_option maxRecDepth 100000
/-! ### meet -/

/-- Both nodes have the same common ancestors as at the start. -/
def MeI (w : World) (T : Array Value) (ns : List NdD) (A : Int → Prop) (av bv : Value) (wr : World) : Prop :=
  ∃ i j : Nat, i < ns.length ∧ j < ns.length ∧ av = .int .i64 i ∧ bv = .int .i64 j ∧ (∀ x, (x ∈ pathN ns (i : Int) ∧ x ∈ pathN ns (j : Int)) ↔ A x) ∧ PaS w T wr

/-- What meet promises. -/
def MeE (ns : List NdD) (A : Int → Prop) (w : World) (e : Ending) (w' : World) : Prop :=
  ∃ c : Nat, e = .returned (.int .i64 c) ∧ c < ns.length ∧ (∀ x, x ∈ pathN ns (c : Int) ↔ A x) ∧ Below w.heap.size w w'
/-! ### Common -/

def CmP (ns : List NdD) (l : List Int) (k : Nat) (cv : Int) : Prop :=
  (k = 0 ∧ cv = -1) ∨ (0 < k ∧ ∃ c : Nat, cv = c ∧ c < ns.length ∧ ∀ x, x ∈ pathN ns (c : Int) ↔ ∀ y ∈ l.take k, x ∈ pathN ns y)

def CmI (w : World) (T : Array Value) (ns : List NdD) (l : List Int) (cv kv : Value) (wr : World) : Prop :=
  ∃ (k : Nat) (c : Int), k ≤ l.length ∧ kv = .int .i64 k ∧ cv = .int .i64 c ∧ CmP ns l k c ∧ PaS w T wr

theorem CmP.first {ns : List NdD} {l : List Int} (hl : 0 < l.length) {z c : Nat} (hz : l.getD 0 0 = z) (hc : c < ns.length) (h : ∀ x, x ∈ pathN ns (c : Int) ↔ (x ∈ pathN ns (z : Int) ∧ x ∈ pathN ns (z : Int))) : CmP ns l 1 c := by
  refine .inr ⟨by omega, c, rfl, hc, fun x => ?_⟩
  rw [h x]
  constructor
  · rintro ⟨h1, _⟩ y hy
    rcases (mem_take_succ (k := 0) hl).1 hy with h2 | h2
    · simp at h2
    · rw [h2, hz]; exact h1
  · intro h1
    have := h1 _ ((mem_take_succ (k := 0) hl).2 (.inr rfl))
    rw [hz] at this
    exact ⟨this, this⟩

theorem CmP.next {ns : List NdD} {l : List Int} {k : Nat} (hl : k < l.length) {z c p : Nat} (hp : ∀ x, x ∈ pathN ns (p : Int) ↔ ∀ y ∈ l.take k, x ∈ pathN ns y) (hz : l.getD k 0 = z) (hc : c < ns.length) (h : ∀ x, x ∈ pathN ns (c : Int) ↔ (x ∈ pathN ns (p : Int) ∧ x ∈ pathN ns (z : Int))) : CmP ns l (k + 1) c := by
  refine .inr ⟨by omega, c, rfl, hc, fun x => ?_⟩
  rw [h x, hp x]
  constructor
  · rintro ⟨h1, h2⟩ y hy
    rcases (mem_take_succ hl).1 hy with h3 | h3
    · exact h1 y h3
    · rw [h3, hz]; exact h2
  · intro h1
    refine ⟨fun y hy => h1 y ((mem_take_succ hl).2 (.inl hy)), ?_⟩
    have := h1 _ ((mem_take_succ hl).2 (.inr rfl))
    rwa [hz] at this

theorem CmP.last {ns : List NdD} (hok : TrOK ns) {l : List Int} {c : Int} (h : CmP ns l l.length c) : comN ns l = c := by
  rcases h with ⟨h1, rfl⟩ | ⟨h1, c, rfl, hc, hx⟩
  · rw [List.eq_nil_of_length_eq_zero h1]; exact comN_nil ns
  · rw [List.take_length] at hx
    exact comN_of hok h1 hc hx
end

/-! AnE -/
section
set_option linter.unusedVariables false
set_option linter.unusedSimpArgs false
open Go.RowKit

set_option maxRecDepth 100000
/-! ### awake's chain -/

def anA : BkD := bk4 0 (rootK 1) zeroR zeroR

def anB : BkD := bk4 3 (rootK 2) (rootK 1) zeroR

def anC : BkD := bk4 5 (rootK 3) (rootK 2) zeroR

def an3 : List NdD := [⟨anA, -1, 0⟩, ⟨anB, 0, 0⟩, ⟨anC, 1, 0⟩]

theorem anA_ok : anA.ok := bk4_ok (by omega) (rootK_is 1) zeroR_is zeroR_is

theorem anB_ok : anB.ok := bk4_ok (by omega) (rootK_is 2) (rootK_is 1) zeroR_is

theorem anC_ok : anC.ok := bk4_ok (by omega) (rootK_is 3) (rootK_is 2) zeroR_is

theorem an3_ok : TrOK an3 := by
  have h1 : TrOK [(⟨anA, -1, 0⟩ : NdD)] := TrOK.one anA 0 (by omega)
  have e1 : (insT [(⟨anA, -1, 0⟩ : NdD)] anB 0).2 = 0 := by
    have h1 : findN [(⟨anA, -1, 0⟩ : NdD)] anB.root = -1 := by kernel_rfl
    have h2 : findN [(⟨anA, -1, 0⟩ : NdD)] anB.parent = 0 := by kernel_rfl
    have h3 : slotAt [(⟨anA, -1, 0⟩ : NdD)] 0 = 0 := by kernel_rfl
    unfold insT
    rw [h1, h2, h3, if_neg (by omega), if_neg (by omega), if_neg (by omega), if_neg (by decide), if_neg (by decide)]
  have h2 := (h1.add (q := 0) (by simp) (x := anB) (st := 0) rfl (by omega) (fun h => by cases h) (fun h => by cases h) e1).2
  have e2 : (insT ([(⟨anA, -1, 0⟩ : NdD)] ++ [⟨anB, (0 : Nat), 0⟩]) anC 0).2 = 0 := by
    have h1 : findN ([(⟨anA, -1, 0⟩ : NdD)] ++ [⟨anB, (0 : Nat), 0⟩]) anC.root = -1 := by kernel_rfl
    have h2 : findN ([(⟨anA, -1, 0⟩ : NdD)] ++ [⟨anB, (0 : Nat), 0⟩]) anC.parent = 1 := by kernel_rfl
    have h3 : slotAt ([(⟨anA, -1, 0⟩ : NdD)] ++ [⟨anB, (0 : Nat), 0⟩]) 1 = 3 := by kernel_rfl
    unfold insT
    rw [h1, h2, h3, if_neg (by omega), if_neg (by omega), if_neg (by omega), if_neg (by decide), if_neg (by decide)]
  exact (h2.add (q := 1) (by simp) (x := anC) (st := 0) rfl (by omega) (fun h => by cases h) (fun h => by cases h) e2).2

theorem an_at : atP an3 2 4 = 1 := by kernel_rfl

theorem an_heir : heirN an3 0 2 = 1 := by kernel_rfl

theorem an_path : pathN an3 2 = [0, 1, 2] := by kernel_rfl
end

/-! Kb -/
section
set_option linter.unusedVariables false
set_option linter.unusedSimpArgs false
set_option maxRecDepth 100000
open Go.RowKit

theorem offP_lens' {ps : List (List Value)} {ls : List Nat} (h : ps.map List.length = ls) (k : Nat) : offP ps k = (ls.take k).sum := by
  subst h
  unfold offP
  rw [List.length_flatten, List.map_take]

theorem part_cut {ps : List (List Value)} {k o n : Nat} {p : List Value} (hk : ps[k]? = some p) (ho : offP ps k = o) (hn : p.length = n) : (ps.flatten.drop o).take n = p := by
  rw [flatP_split hk, ← ho, ← hn]
  unfold offP
  rw [List.drop_left, List.take_left]

theorem keyLits_pair {d : Nat} {c e : CpD} (h : c.ok) (k : e.ok) : ∃ ls, Try.prog.keyLits (d + 4) 35 (c.cells ++ e.cells) = some ls := by
  refine keyLits_struct Try.underlying35 (by rw [List.length_append, CpD.len h, CpD.len k]; kernel_rfl) (by kernel_rfl) ?_
  intro f hf
  have hc33 : Try.prog.cellsOf 33 = 33 := by kernel_rfl
  simp only [List.mem_cons, List.not_mem_nil, or_false] at hf
  rcases hf with rfl | rfl
  · show ∃ l, Try.prog.keyLits (d + 3) 33 (((c.cells ++ e.cells).drop 0).take (Try.prog.cellsOf 33)) = some l
    rw [hc33, List.drop_zero, List.take_left' (CpD.len h)]
    exact keyLits_cp h
  · show ∃ l, Try.prog.keyLits (d + 3) 33 (((c.cells ++ e.cells).drop 33).take (Try.prog.cellsOf 33)) = some l
    rw [hc33]
    have : (c.cells ++ e.cells).drop 33 = e.cells := by rw [← CpD.len h, List.drop_left]
    rw [this, List.take_of_length_le (by rw [CpD.len k]; exact Nat.le_refl _)]
    exact keyLits_cp k

theorem keyLits_wide {d : Nat} (n : Int) : ∃ ls, Try.prog.keyLits (d + 2) 37 (wideL n) = some ls := by
  have hr : ∀ x ∈ [l0 n, l1 n, l2 n, l3 n], (Lit.int .u64 x).wf = true := by
    obtain ⟨p0, p1, p2, p3⟩ := limbs_rng n
    intro x hx
    simp at hx
    rcases hx with rfl | rfl | rfl | rfl <;> exact wf_of_u64 (by assumption)
  exact ⟨_, keyLits_ints Try.underlying37 Try.underlying29 (by kernel_rfl) (by kernel_rfl) d [l0 n, l1 n, l2 n, l3 n] rfl hr⟩

theorem keyLits_blk {x : BkD} (h : x.ok) : ∃ ls, Try.prog.keyLits 5 39 x.parts.flatten = some ls := by
  obtain ⟨h1, h2, hs, h3, h4, h5, _, _, h6, h7⟩ := h
  obtain ⟨ps, hps⟩ : ∃ ps, ps = [x.pj.cells ++ x.pf.cells, [Value.int .u64 x.slot], bytesL x.root, bytesL x.parent, bytesL x.payload, wideL x.d, wideL x.pd, x.j.cells, x.f.cells, [Value.bool x.t]] := ⟨_, rfl⟩
  have hl : ps.map List.length = [66, 1, 32, 32, 32, 4, 4, 33, 33, 1] := by rw [hps]; simp [CpD.len h1, CpD.len h2, bytesL_len h3, bytesL_len h4, bytesL_len h5, wideL, CpD.len h6, CpD.len h7]
  have e : x.parts.flatten = ps.flatten := by rw [hps]; simp [BkD.parts]
  have ho : ∀ k, offP ps k = ([66, 1, 32, 32, 32, 4, 4, 33, 33, 1].take k).sum := fun k => offP_lens' hl k
  have c66 : Try.prog.cellsOf 35 = 66 := by kernel_rfl
  have c1 : Try.prog.cellsOf 29 = 1 := by kernel_rfl
  have c32 : Try.prog.cellsOf 31 = 32 := by kernel_rfl
  have c4 : Try.prog.cellsOf 37 = 4 := by kernel_rfl
  have c33 : Try.prog.cellsOf 33 = 33 := by kernel_rfl
  have cb : Try.prog.cellsOf 4 = 1 := by kernel_rfl
  rw [e]
  refine keyLits_struct Try.underlying39 (by rw [List.length_flatten, hl]; kernel_rfl) (by kernel_rfl) ?_
  intro f hf
  simp only [List.mem_cons, List.not_mem_nil, or_false] at hf
  rcases hf with rfl | rfl | rfl | rfl | rfl | rfl | rfl | rfl | rfl | rfl
  · show ∃ l, Try.prog.keyLits 4 35 ((ps.flatten.drop 0).take (Try.prog.cellsOf 35)) = some l
    rw [c66, part_cut (k := 0) (o := 0) (n := 66) (by rw [hps]; rfl) (ho 0) (by rw [List.length_append, CpD.len h1, CpD.len h2])]
    exact keyLits_pair h1 h2
  · show ∃ l, Try.prog.keyLits 4 29 ((ps.flatten.drop 66).take (Try.prog.cellsOf 29)) = some l
    rw [c1, part_cut (k := 1) (o := 66) (n := 1) (by rw [hps]; rfl) (ho 1) rfl]
    exact keyLits_int Try.underlying29 (wf_of_u64 hs)
  · show ∃ l, Try.prog.keyLits 4 31 ((ps.flatten.drop 67).take (Try.prog.cellsOf 31)) = some l
    rw [c32, part_cut (k := 2) (o := 67) (n := 32) (by rw [hps]; rfl) (ho 2) (bytesL_len h3)]
    exact keyLits_bytes Try.underlying31 (by kernel_rfl) h3
  · show ∃ l, Try.prog.keyLits 4 31 ((ps.flatten.drop 99).take (Try.prog.cellsOf 31)) = some l
    rw [c32, part_cut (k := 3) (o := 99) (n := 32) (by rw [hps]; rfl) (ho 3) (bytesL_len h4)]
    exact keyLits_bytes Try.underlying31 (by kernel_rfl) h4
  · show ∃ l, Try.prog.keyLits 4 31 ((ps.flatten.drop 131).take (Try.prog.cellsOf 31)) = some l
    rw [c32, part_cut (k := 4) (o := 131) (n := 32) (by rw [hps]; rfl) (ho 4) (bytesL_len h5)]
    exact keyLits_bytes Try.underlying31 (by kernel_rfl) h5
  · show ∃ l, Try.prog.keyLits 4 37 ((ps.flatten.drop 163).take (Try.prog.cellsOf 37)) = some l
    rw [c4, part_cut (k := 5) (o := 163) (n := 4) (by rw [hps]; rfl) (ho 5) rfl]
    exact keyLits_wide _
  · show ∃ l, Try.prog.keyLits 4 37 ((ps.flatten.drop 167).take (Try.prog.cellsOf 37)) = some l
    rw [c4, part_cut (k := 6) (o := 167) (n := 4) (by rw [hps]; rfl) (ho 6) rfl]
    exact keyLits_wide _
  · show ∃ l, Try.prog.keyLits 4 33 ((ps.flatten.drop 171).take (Try.prog.cellsOf 33)) = some l
    rw [c33, part_cut (k := 7) (o := 171) (n := 33) (by rw [hps]; rfl) (ho 7) (CpD.len h6)]
    exact keyLits_cp h6
  · show ∃ l, Try.prog.keyLits 4 33 ((ps.flatten.drop 204).take (Try.prog.cellsOf 33)) = some l
    rw [c33, part_cut (k := 8) (o := 204) (n := 33) (by rw [hps]; rfl) (ho 8) (CpD.len h7)]
    exact keyLits_cp h7
  · show ∃ l, Try.prog.keyLits 4 4 ((ps.flatten.drop 237).take (Try.prog.cellsOf 4)) = some l
    rw [cb, part_cut (k := 9) (o := 237) (n := 1) (by rw [hps]; rfl) (ho 9) rfl]
    exact keyLits_bool Try.underlying4

theorem wf_of_i64 {n : Int} (h : -9223372036854775808 ≤ n ∧ n ≤ 9223372036854775807) : (Lit.int .i64 n).wf = true := by
  simpa [Lit.wf, IntKind.min, IntKind.max, IntKind.signed, IntKind.bits] using h

theorem keyLits_nd {x : NdD} (h : x.ok) : ∃ ls, Try.prog.keyLits 6 41 x.cells = some ls := by
  have hl := BkD.flen h.1
  have c1 : Try.prog.cellsOf 3 = 1 := by kernel_rfl
  have cb : Try.prog.cellsOf 39 = 238 := by kernel_rfl
  refine keyLits_struct Try.underlying41 (by rw [NdD.len h]; kernel_rfl) (by kernel_rfl) ?_
  intro f hf
  simp only [List.mem_cons, List.not_mem_nil, or_false] at hf
  rcases hf with rfl | rfl | rfl
  · show ∃ l, Try.prog.keyLits 5 39 ((x.cells.drop 0).take (Try.prog.cellsOf 39)) = some l
    rw [cb, List.drop_zero, ← hl]
    unfold NdD.cells
    rw [List.take_left]
    exact keyLits_blk h.1
  · show ∃ l, Try.prog.keyLits 5 3 ((x.cells.drop 238).take (Try.prog.cellsOf 3)) = some l
    rw [c1]
    unfold NdD.cells
    rw [← hl, List.drop_left]
    exact keyLits_int Try.underlying3 (wf_of_i64 h.2.1)
  · show ∃ l, Try.prog.keyLits 5 3 ((x.cells.drop 239).take (Try.prog.cellsOf 3)) = some l
    rw [c1]
    have e : x.cells.drop 239 = [.int .i64 x.st] := by
      have e1 : x.cells.drop 238 = [.int .i64 x.up, .int .i64 x.st] := by unfold NdD.cells; rw [← hl, List.drop_left]
      rw [show 239 = 238 + 1 from rfl, ← List.drop_drop, e1]; rfl
    rw [e]
    exact keyLits_int Try.underlying3 (wf_of_i64 h.2.2)

theorem eq_nd {x : NdD} (h : x.ok) (w : World) : Sem.run Try.prog (Op.equalIn 10000 41 (.agg x.cells.toArray) (.agg x.cells.toArray)) w = .ok true w :=
  eq_self (m := 6) (by kernel_rfl) (by omega) _ (by
    have hc : Try.prog.cellsOf 41 = 240 := by kernel_rfl
    simp [Value.formed, Try.underlying41, NdD.len h, hc]) (by simpa using keyLits_nd h) w

set_option maxHeartbeats 4000000 in
theorem stree_yes (v1 v2 : Value) (ns : List NdD) (w : World) (h1 : NodesV w v1 ns) (h2 : NodesV w v2 ns) :
    Calls Try.prog 22 #[.agg #[v1], .agg #[v2]] w fun e w' => e = .returned (.bool true) ∧ Below w.heap.size w w' := by
  obtain ⟨a1, c1, rfl, hmx⟩ := h1.shape
  obtain ⟨a2, c2, rfl, _⟩ := h2.shape
  unfold maxLen at hmx
  have H1 := Lib.hid h1
  have H2 := Lib.hid h2
  obtain ⟨m, hml⟩ : ∃ m, ns.length = m := ⟨_, rfl⟩
  rw [hml] at hmx H1 H2 ⊢
  have HM := Lib.hid hml
  have hne : ((m : Int) != (m : Int)) = false := by simp
  have HBA := Lib.hid (((Below.refl w.heap.size w).alloc (Nat.le_refl _) (.cells #[.slice a1 m c1] 25)).alloc (by simp) (.cells #[.slice a2 m c2] 25))
  have HT1 : Hid (Blk ((w.alloc (.cells #[.slice a1 m c1] 25)).alloc (.cells #[.slice a2 m c2] 25)) w.heap.size #[.slice a1 m c1]) := (Blk.new rfl).alloc _
  have HT2 : Hid (Blk ((w.alloc (.cells #[.slice a1 m c1] 25)).alloc (.cells #[.slice a2 m c2] 25)) (w.heap.size + 1) #[.slice a2 m c2]) := Blk.new (by simp)
  clear h1 h2 hml
  go_enter Try.func22, Try.ntmps22
  go_wp2_with (first
    | ((with_reducible refine at_load (.tmp 6) ?_); refine wpList_load_1 23 (.tmp 6) rfl w.heap.size 0 (.slice a1 m c1) (HT1.out.cell 0) rfl _ Try.underlying23 rfl rfl ?_)
    | ((with_reducible refine at_load (.tmp 9) ?_); refine wpList_load_1 23 (.tmp 9) rfl (w.heap.size + 1) 0 (.slice a2 m c2) (HT2.out.cell 0) rfl _ Try.underlying23 rfl rfl ?_))
  go_loopw [5] (fun i wr => ∃ k : Nat, k ≤ m ∧ i = .int .i64 k ∧ Blk wr w.heap.size #[.slice a1 m c1] ∧ Blk wr (w.heap.size + 1) #[.slice a2 m c2] ∧ Below w.heap.size w wr) (fun i _ => m - (intOf i).toNat)
  case atStart => exact ⟨0, Nat.zero_le _, rfl, HT1.out, HT2.out, HBA.out⟩
  case round =>
    obtain ⟨k, hk, rfl, ht1, ht2, hbl⟩ := hrel
    have HBL := Lib.hid hbl
    have HR1 := Lib.hid ht1
    have HR2 := Lib.hid ht2
    have hl1 := ht1.lt
    have hl2 := ht2.lt
    clear hbl ht1 ht2
    by_cases hlt : k < m
    case neg =>
      obtain rfl : k = m := by omega
      go_wp2_with (first
        | ((with_reducible refine at_load (.tmp 14) ?_); refine wpList_load_1 23 (.tmp 14) rfl w.heap.size 0 (.slice a1 k c1) (HR1.out.cell 0) rfl _ Try.underlying23 rfl rfl ?_))
      go_ret
      exact ⟨rfl, HBL.out⟩
    have hlt' : (k : Int) < m := by omega
    have hkn : k < ns.length := by rw [HM.out]; exact hlt
    obtain ⟨b1, o1, rfl, hm1, hb1, hn1, hok⟩ := H1.out.elem hkn
    obtain ⟨b2, o2, rfl, hm2, hb2, hn2, _⟩ := H2.out.elem hkn
    have EQ := fun u => eq_nd hok u
    have hiL : (Try.prog.info? 41).map (·.size) = some ns[k].cells.length := by rw [NdD.len hok]; kernel_rfl
    have G1 := Lib.hid hn1.all
    have G2 := Lib.hid hn2.all
    obtain ⟨L, hL⟩ : ∃ L, ns[k].cells = L := ⟨_, rfl⟩
    rw [hL] at G1 G2 EQ hiL
    clear hn1 hn2 hok hL hm1 hm2
    go_wp2_with (first
      | ((with_reducible refine at_load (.tmp 14) ?_); refine wpList_load_1 23 (.tmp 14) rfl w.heap.size 0 (.slice (some ⟨b1, o1, none⟩) m c1) (HR1.out.cell 0) rfl _ Try.underlying23 rfl rfl ?_))
    refine wp_region_fam2 (by kernel_rfl) (by kernel_rfl) ?_
    intro T F hT hF hG
    have d1 : ∀ t, (F t).cell? ⟨w.heap.size, 0, none⟩ = some (.slice (some ⟨b1, o1, none⟩) m c1) := fun t => (HR1.out.call (hF t)).cell 0
    have d2 : ∀ t, (F t).cell? ⟨w.heap.size + 1, 0, none⟩ = some (.slice (some ⟨b2, o2, none⟩) m c2) := fun t => (HR2.out.call (hF t)).cell 0
    have C1 := Lib.hid (show ∀ u, (∃ t, u = F t) → u.rangeAt b1 (o1 + k * 240) L by rintro _ ⟨t, rfl⟩; exact Below.rng (HBL.out.trans ((hF t).mono HBL.out.size)) hb1 G1.out)
    have C2 := Lib.hid (show ∀ u, (∃ t, u = F t) → u.rangeAt b2 (o2 + k * 240) L by rintro _ ⟨t, rfl⟩; exact Below.rng (HBL.out.trans ((hF t).mono HBL.out.size)) hb2 G2.out)
    repeat (first
      | ((with_reducible refine at_qload (.tmp 23) ?_); refine wpQuiet_load_midE 41 _ rfl b1 (o1 + k * 240) (by simp [Act.eval]) L C1.out Try.underlying41 rfl hiL (by kernel_rfl) ?_; simp only [Act.put, List.setIfInBounds_toArray, List.set_cons_succ, List.set_cons_zero])
      | ((with_reducible refine at_qload (.tmp 28) ?_); refine wpQuiet_load_midE 41 _ rfl b2 (o2 + k * 240) (by simp [Act.eval]) L C2.out Try.underlying41 rfl hiL (by kernel_rfl) ?_; simp only [Act.put, List.setIfInBounds_toArray, List.set_cons_succ, List.set_cons_zero])
      | (go_big_quiet_step (fail)))
    refine wpQuiet_nil ?_
    rintro _ ⟨t, rfl⟩
    have hft := hF t
    have HF := Lib.hid (HBL.out.trans (hft.mono HBL.out.size))
    have HF1 := Lib.hid (HR1.out.call hft)
    have HF2 := Lib.hid (HR2.out.call hft)
    clear C1 C2 d1 d2 hG hft
    go_wp2_with fail
    go_roundw
    case rel => exact ⟨k + 1, by omega, by go_num, HF1.out, HF2.out, HF.out⟩
    case measure => simp [intOf]; omega
end

/-! SuF -/
section
set_option linter.unusedVariables false
set_option linter.unusedSimpArgs false
open Go.RowKit

set_option maxRecDepth 100000

structure FoS (w : World) (tv uv : Value) (u : World) : Prop where
  t : Blk u w.heap.size #[tv]
  x : Blk u (w.heap.size + 1) #[uv]
  b : Below w.heap.size w u

theorem FoS.call {w u u' : World} {tv uv : Value} (h : FoS w tv uv u) (hb : Below u.heap.size u u') : FoS w tv uv u' := ⟨h.t.call hb, h.x.call hb, h.b.trans (hb.mono h.b.size)⟩

set_option maxHeartbeats 16000000 in
theorem fol_any (ns us : List NdD) (p : Nat → Bool) (tq : Int) (hus : us = stN ns p tq) (hst : ∀ j (hj : j < ns.length), p j = true → ns[j].st = 0 ∨ ns[j].st = tq) (hok : TrOK us) (hlen : ns.length ≤ 4096) (v v' : Value) (w : World) (hN : NodesV w v ns) (hU : NodesV w v' us) (hc : CapOK v') :
    Calls Try.prog 21 #[.agg #[v], .agg #[v'], .int .i64 tq] w fun e w' => e = .returned (.bool true) ∧ Below w.heap.size w w' := by
  have hlu : us.length = ns.length := by rw [hus, stN_len]
  have HCL : Hid (∀ u, Below w.heap.size w u → Calls Try.prog 11 #[.agg #[v']] u fun e w' => e = .returned (.int .i64 0) ∧ Below u.heap.size u w') := fun u hu => by
    have h := clo_any v' us u (hU.call hu) hc
    rw [clo_ok hok (by omega)] at h
    exact h
  obtain ⟨a, cap, rfl, hmx⟩ := hN.shape
  obtain ⟨a2, cap2, rfl, _⟩ := hU.shape
  have HN := Lib.hid hN
  have HU := Lib.hid hU
  have hi1 : (Try.prog.info? 25).map (·.size) = some 1 := by kernel_rfl
  have hiI : (Try.prog.info? 3).map (·.size) = some 1 := by kernel_rfl
  obtain ⟨ZN, hZN⟩ : ∃ Z, flatP (zeBkP ++ [[.int .i64 0], [.int .i64 0]]) = Z := ⟨_, rfl⟩
  have hszN : ZN.size = 240 := by rw [← hZN]; rfl
  obtain ⟨hz240, hst240⟩ := zero_array (P := Try.prog) (t := 41) (n := 240) ZN (by rw [← hZN]; kernel_rfl) hszN (by rw [← hZN]; kernel_rfl)
  have HSZ := Lib.hid hszN
  have HUS := Lib.hid hus
  have HST := Lib.hid hst
  obtain ⟨m, hm⟩ : ∃ m, Hid (ns.length = m) := ⟨_, Lib.hid rfl⟩
  have HLU : Hid (us.length = m) := by show _ = _; rw [hlu, hm.out]
  rw [HLU.out] at HU HCL ⊢
  rw [hm.out] at HN hlen ⊢
  have S0 : Hid (FoS w (.slice a m cap) (.slice a2 m cap2) ((w.alloc (.cells #[.slice a m cap] 25)).alloc (.cells #[.slice a2 m cap2] 25))) := by
    have h := pas_new w #[.slice a m cap] 25
    exact ⟨h.t.alloc _, Blk.new (by simp), h.b.alloc h.b.size _⟩
  clear hN hU hst240 hZN hszN hus hst hlu hmx hc hok
  go_enter Try.func21, Try.ntmps21
  go_wp2_with (first
    | ((with_reducible refine at_load (.tmp 9) ?_); refine wpList_load_1 23 (.tmp 9) rfl (w.heap.size + 1) 0 (.slice a2 m cap2) (S0.out.x.cell 0) rfl _ Try.underlying23 rfl rfl ?_)
    | ((with_reducible refine at_load (.tmp 12) ?_); refine wpList_load_1 23 (.tmp 12) rfl w.heap.size 0 (.slice a m cap) (S0.out.t.cell 0) rfl _ Try.underlying23 rfl rfl ?_)
    | ((with_reducible refine at_load (.tmp 4) ?_); refine wpList_load_rng 25 (.tmp 4) rfl (w.heap.size + 1) 0 [.slice a2 m cap2] S0.out.x.rng rfl _ Try.underlying25 rfl hi1 rfl ?_)
    | (go_at_call 11; refine (HCL.out _ S0.out.b).mono ?_; rintro e w1 ⟨rfl, hb1⟩; have S1 := Lib.hid (S0.out.call hb1); clear hb1))
  go_loopw [7] (fun i wr => ∃ k : Nat, k ≤ m ∧ i = .int .i64 k ∧ FoS w (.slice a m cap) (.slice a2 m cap2) wr) (fun i _ => m - (intOf i).toNat)
  case atStart => exact ⟨0, Nat.zero_le _, rfl, S1.out⟩
  case round =>
    obtain ⟨k, hk, rfl, hs⟩ := hrel
    have S2 := Lib.hid hs
    clear hs
    by_cases hlt : k < m
    case neg =>
      obtain rfl : k = m := by omega
      go_wp2_with (first
        | ((with_reducible refine at_load (.tmp 22) ?_); refine wpList_load_1 23 (.tmp 22) rfl w.heap.size 0 (.slice a k cap) (S2.out.t.cell 0) rfl _ Try.underlying23 rfl rfl ?_))
      go_ret
      exact ⟨rfl, S2.out.b⟩
    have hlt' : (k : Int) < m := by omega
    have hkn : k < ns.length := by rw [hm.out]; exact hlt
    have hku : k < us.length := by rw [HLU.out]; exact hlt
    obtain ⟨b, off, rfl, hl1, hb, hna, hdn⟩ := HN.out.elem hkn
    obtain ⟨b2, off2, rfl, hl2, hb2, hnu, hdu⟩ := HU.out.elem hku
    have hsu : (us[k].b = ns[k].b ∧ us[k].up = ns[k].up) ∧ us[k].st = if p k = true then tq else ns[k].st := by
      have hus := HUS.out
      subst hus
      have h := stN_b ns p tq hkn hku
      exact ⟨⟨h.1, h.2.1⟩, h.2.2⟩
    have hcase : us[k].st = ns[k].st ∨ (us[k].st = tq ∧ ns[k].st = 0 ∧ tq ≠ 0) := by
      rw [hsu.2]
      by_cases hp : p k = true
      · rw [if_pos hp]
        rcases HST.out k hkn hp with h | h
        · by_cases ht : tq = 0
          · exact .inl (by rw [h, ht])
          · exact .inr ⟨rfl, h, ht⟩
        · exact .inl h.symm
      · rw [if_neg hp]; exact .inl rfl
    have HSC := Lib.hid ((S2.out.b.cell (p := ⟨b, off + k * 240 + 239, none⟩) hb).trans hna.st)
    have HRU := Lib.hid hnu.all
    have HRN := Lib.hid hna.all
    have hEQ := eq_nd hdn
    obtain ⟨d, hd⟩ : ∃ d, ns[k] = d := ⟨_, rfl⟩
    obtain ⟨x, hx⟩ : ∃ x, us[k] = x := ⟨_, rfl⟩
    rw [hd] at hEQ hdn HRN HSC hsu hcase
    rw [hx] at hdu HRU hsu hcase
    have hXC : x.cells = [x.b.parts.flatten, [.int .i64 x.up], [.int .i64 x.st]].flatten := by simp [NdD.cells]
    have hDC : d.cells = [x.b.parts.flatten, [.int .i64 x.up], [.int .i64 d.st]].flatten := by simp [NdD.cells, hsu.1.1, hsu.1.2]
    have hfl := BkD.flen hdu.1
    obtain ⟨F, hF⟩ : ∃ F, x.b.parts.flatten = F := ⟨_, rfl⟩
    obtain ⟨up, hup⟩ : ∃ z, x.up = z := ⟨_, rfl⟩
    obtain ⟨s1, hs1⟩ : ∃ z, x.st = z := ⟨_, rfl⟩
    obtain ⟨s0, hs0⟩ : ∃ z, d.st = z := ⟨_, rfl⟩
    have hld : d.cells.length = 240 := NdD.len hdn
    have hlx : x.cells.length = 240 := NdD.len hdu
    have HX1 : Hid (∀ v ∈ x.cells, v.oneCell' = true) := NdD.one _
    rw [hs1] at hXC hcase
    rw [hs0] at hDC HSC hcase
    rw [hF, hup] at hXC hDC
    rw [hF] at hfl
    obtain ⟨X, hX⟩ : ∃ X, x.cells = X := ⟨_, rfl⟩
    obtain ⟨Y, hY⟩ : ∃ Y, d.cells = Y := ⟨_, rfl⟩
    rw [hX] at hXC HRU hlx HX1
    rw [hY] at hDC HRN hEQ hld
    have HXC : Hid (X.toArray = flatP [F, [.int .i64 up], [.int .i64 s1]]) := by show _ = _; rw [hXC]; rfl
    have HDC : Hid (flatP [F, [.int .i64 up], [.int .i64 s0]] = Y.toArray) := by show _ = _; rw [hDC]; rfl
    have HOF : Hid (offP [F, [.int .i64 up], [.int .i64 s1]] 2 = 239) := by show _ = _; simp [offP, hfl]
    have HLX := Lib.hid hlx
    have hiX : (Try.prog.info? 41).map (·.size) = some X.length := by rw [hlx]; kernel_rfl
    have hiY : (Try.prog.info? 41).map (·.size) = some Y.length := by rw [hld]; kernel_rfl
    have hiYs : (Try.prog.info? 41).map (·.size) = some Y.toArray.size := by rw [List.size_toArray, hld]; kernel_rfl
    have HCASE := Lib.hid hcase
    clear hl1 hl2 hna hnu hdn hdu hsu hcase hd hx hXC hDC hfl hF hup hs1 hs0 hld hlx hX hY
    go_upto_region 7 with (first
      | ((with_reducible refine at_load (.tmp 22) ?_); refine wpList_load_1 23 (.tmp 22) rfl w.heap.size 0 (.slice (some ⟨b, off, none⟩) m cap) (S2.out.t.cell 0) rfl _ Try.underlying23 rfl rfl ?_)
      | ((with_reducible refine at_load (.tmp 28) ?_); refine wpList_load_1 23 (.tmp 28) rfl (w.heap.size + 1) 0 (.slice (some ⟨b2, off2, none⟩) m cap2) (S2.out.x.cell 0) rfl _ Try.underlying23 rfl rfl ?_)
      | ((with_reducible refine at_load (.tmp 31) ?_); refine wpList_load_rng 41 (.tmp 31) rfl b2 (off2 + k * 240) X (Below.rng S2.out.b hb2 HRU.out) rfl _ Try.underlying41 rfl hiX rfl ?_)
      | ((with_reducible refine at_store (.tmp 8) ?_); refine wpList_store_blk rfl 41 (.tmp 8) _ rfl wr.heap.size X.toArray rfl rfl ZN (Blk.new rfl) (by rw [HSZ.out, List.size_toArray, HLX.out]) (by simpa using hiX) (fun v hv => HX1.out v (by simpa using hv)) ?_; intro w2 U2 B2; have hb2' := U2.below ((Below.refl wr.heap.size wr).alloc (Nat.le_refl _) (.cells ZN 41)) (Nat.le_refl _); have S3 := Lib.hid (S2.out.call hb2'); have HBN : Hid (w.heap.size + 1 < wr.heap.size) := S2.out.x.lt; have BL3 : Hid (Blk w2 wr.heap.size (flatP [F, [.int .i64 up], [.int .i64 s1]])) := (by rw [← HXC.out]; exact B2); have HSC3 : Hid (w2.cell? ⟨b, off + k * 240 + 239, none⟩ = some (.int .i64 s0)) := (hb2'.cell (p := ⟨b, off + k * 240 + 239, none⟩) (Nat.lt_of_lt_of_le hb S2.out.b.size)).trans HSC.out; clear U2 B2 hb2'))
    obtain ⟨bn, hbn⟩ : ∃ x, wr.heap.size = x := ⟨_, rfl⟩
    rw [hbn] at BL3 HBN ⊢
    clear hbn HX1 HXC HRU HSC HLX HSZ hz240
    (try simp only [Act.put])
    rcases HCASE.out with he | ⟨he1, he2, he3⟩
    · subst he
      have hne : (s1 != s1) = false := by simp
      clear HCASE
      refine wp_region_fam2 (by kernel_rfl) (by kernel_rfl) ?_
      intro T F' hT hF hG
      have c0 : ∀ t, (F' t).cell? ⟨w.heap.size, 0, none⟩ = some (.slice (some ⟨b, off, none⟩) m cap) := fun t => (S3.out.call (hF t)).t.cell 0
      have c1 : ∀ t, (F' t).cell? ⟨bn, 239, none⟩ = some (.int .i64 s1) := fun t => by
        have h := (BL3.out.call (hF t)).part1 (k := 2) (v := .int .i64 s1) rfl
        rw [HOF.out] at h
        exact h
      have c2 : ∀ t, (F' t).cell? ⟨b, off + k * 240 + 239, none⟩ = some (.int .i64 s1) := fun t => ((hF t).cell (p := ⟨b, off + k * 240 + 239, none⟩) (Nat.lt_of_lt_of_le hb S3.out.b.size)).trans HSC3.out
      repeat (first | go_big_quiet_skip | (go_big_quiet_step (fail)))
      refine wpQuiet_nil ?_
      rintro _ ⟨t, rfl⟩
      have S4 := Lib.hid (S3.out.call (hF t))
      have BL4 := Lib.hid (BL3.out.call (hF t))
      have C4 := Lib.hid (c2 t)
      obtain ⟨w4, hw4⟩ : ∃ z, F' t = z := ⟨_, rfl⟩
      rw [hw4] at S4 BL4 C4 ⊢
      clear c0 c1 c2 hG hw4 hF hT HSC3 BL3 S3
      clear t F' T
      go_upto_region 10 with (first
        | ((with_reducible refine at_load (.tmp 57) ?_); refine wpList_load_1 23 (.tmp 57) rfl w.heap.size 0 (.slice (some ⟨b, off, none⟩) m cap) (S4.out.t.cell 0) rfl _ Try.underlying23 rfl rfl ?_)
        | ((with_reducible refine at_load (.tmp 61) ?_); refine wpList_load_1 3 (.tmp 61) rfl b (off + k * 240 + 239) (.int .i64 s1) C4.out rfl _ Try.underlying3 rfl rfl ?_)
        | ((with_reducible refine at_store (.tmp 63) ?_); refine wpList_store_part1 rfl 3 (.tmp 63) _ rfl bn [F, [.int .i64 up], [.int .i64 s1]] 2 (.int .i64 s1) (.int .i64 s1) BL4.out rfl (by rw [HOF.out]; rfl) rfl hiI rfl rfl ?_; intro w5 U5 B5; have S5 : Hid (FoS w (.slice (some ⟨b, off, none⟩) m cap) (.slice (some ⟨b2, off2, none⟩) m cap2) w5) := ⟨U5.blk S4.out.t (by have := HBN.out; omega), U5.blk S4.out.x (by have := HBN.out; omega), U5.below S4.out.b (by have := HBN.out; omega)⟩; have BL5 : Hid (Blk w5 bn Y.toArray) := (by rw [← HDC.out]; exact B5); clear U5 B5))
      (try simp only [Act.put])
      refine wp_region_fam2 (by kernel_rfl) (by kernel_rfl) ?_
      intro T F' hT hF hG
      have c0 : ∀ t, (F' t).cell? ⟨w.heap.size, 0, none⟩ = some (.slice (some ⟨b, off, none⟩) m cap) := fun t => (S5.out.call (hF t)).t.cell 0
      have C1 := Lib.hid (show ∀ u, (∃ t, u = F' t) → Blk u bn Y.toArray by rintro _ ⟨t, rfl⟩; exact BL5.out.call (hF t))
      have C2 := Lib.hid (show ∀ u, (∃ t, u = F' t) → u.rangeAt b (off + k * 240) Y by rintro _ ⟨t, rfl⟩; exact Below.rng (S5.out.call (hF t)).b hb HRN.out)
      repeat (first
        | ((with_reducible refine at_qload (.tmp 8) ?_); refine wpQuiet_load 41 _ rfl bn rfl Y.toArray C1.out Try.underlying41 rfl hiYs (by kernel_rfl) ?_; simp only [Act.put, List.setIfInBounds_toArray, List.set_cons_succ, List.set_cons_zero])
        | ((with_reducible refine at_qload (.tmp 68) ?_); refine wpQuiet_load_midE 41 _ rfl b (off + k * 240) (by simp [Act.eval]) Y C2.out Try.underlying41 rfl hiY (by kernel_rfl) ?_; simp only [Act.put, List.setIfInBounds_toArray, List.set_cons_succ, List.set_cons_zero])
        | (go_big_quiet_step (fail)))
      refine wpQuiet_nil ?_
      rintro _ ⟨t, rfl⟩
      have S6 := Lib.hid (S5.out.call (hF t))
      clear C1 C2 c0 hG
      go_wp2_with fail
      go_roundw
      case rel => exact ⟨k + 1, by omega, by go_num, S6.out⟩
      case measure => simp [intOf]; omega
    · subst he1
      subst he2
      have hne : (s1 != 0) = true := by simpa using he3
      have hne2 : ((0 : Int) != 0) = false := by simp
      have hne3 : (s1 != s1) = false := by simp
      clear he3
      clear HCASE
      refine wp_region_fam2 (by kernel_rfl) (by kernel_rfl) ?_
      intro T F' hT hF hG
      have c0 : ∀ t, (F' t).cell? ⟨w.heap.size, 0, none⟩ = some (.slice (some ⟨b, off, none⟩) m cap) := fun t => (S3.out.call (hF t)).t.cell 0
      have c1 : ∀ t, (F' t).cell? ⟨bn, 239, none⟩ = some (.int .i64 s1) := fun t => by
        have h := (BL3.out.call (hF t)).part1 (k := 2) (v := .int .i64 s1) rfl
        rw [HOF.out] at h
        exact h
      have c2 : ∀ t, (F' t).cell? ⟨b, off + k * 240 + 239, none⟩ = some (.int .i64 0) := fun t => ((hF t).cell (p := ⟨b, off + k * 240 + 239, none⟩) (Nat.lt_of_lt_of_le hb S3.out.b.size)).trans HSC3.out
      repeat (first | go_big_quiet_skip | (go_big_quiet_step (fail)))
      refine wpQuiet_nil ?_
      rintro _ ⟨t, rfl⟩
      have S4 := Lib.hid (S3.out.call (hF t))
      have BL4 := Lib.hid (BL3.out.call (hF t))
      have C4 := Lib.hid (c2 t)
      obtain ⟨w4, hw4⟩ : ∃ z, F' t = z := ⟨_, rfl⟩
      rw [hw4] at S4 BL4 C4 ⊢
      clear c0 c1 c2 hG hw4 hF hT HSC3 BL3 S3
      clear t F' T
      go_upto_region 10 with (first
        | ((with_reducible refine at_load (.tmp 57) ?_); refine wpList_load_1 23 (.tmp 57) rfl w.heap.size 0 (.slice (some ⟨b, off, none⟩) m cap) (S4.out.t.cell 0) rfl _ Try.underlying23 rfl rfl ?_)
        | ((with_reducible refine at_load (.tmp 61) ?_); refine wpList_load_1 3 (.tmp 61) rfl b (off + k * 240 + 239) (.int .i64 0) C4.out rfl _ Try.underlying3 rfl rfl ?_)
        | ((with_reducible refine at_store (.tmp 63) ?_); refine wpList_store_part1 rfl 3 (.tmp 63) _ rfl bn [F, [.int .i64 up], [.int .i64 s1]] 2 (.int .i64 s1) (.int .i64 0) BL4.out rfl (by rw [HOF.out]; rfl) rfl hiI rfl rfl ?_; intro w5 U5 B5; have S5 : Hid (FoS w (.slice (some ⟨b, off, none⟩) m cap) (.slice (some ⟨b2, off2, none⟩) m cap2) w5) := ⟨U5.blk S4.out.t (by have := HBN.out; omega), U5.blk S4.out.x (by have := HBN.out; omega), U5.below S4.out.b (by have := HBN.out; omega)⟩; have BL5 : Hid (Blk w5 bn Y.toArray) := (by rw [← HDC.out]; exact B5); clear U5 B5))
      (try simp only [Act.put])
      refine wp_region_fam2 (by kernel_rfl) (by kernel_rfl) ?_
      intro T F' hT hF hG
      have c0 : ∀ t, (F' t).cell? ⟨w.heap.size, 0, none⟩ = some (.slice (some ⟨b, off, none⟩) m cap) := fun t => (S5.out.call (hF t)).t.cell 0
      have C1 := Lib.hid (show ∀ u, (∃ t, u = F' t) → Blk u bn Y.toArray by rintro _ ⟨t, rfl⟩; exact BL5.out.call (hF t))
      have C2 := Lib.hid (show ∀ u, (∃ t, u = F' t) → u.rangeAt b (off + k * 240) Y by rintro _ ⟨t, rfl⟩; exact Below.rng (S5.out.call (hF t)).b hb HRN.out)
      repeat (first
        | ((with_reducible refine at_qload (.tmp 8) ?_); refine wpQuiet_load 41 _ rfl bn rfl Y.toArray C1.out Try.underlying41 rfl hiYs (by kernel_rfl) ?_; simp only [Act.put, List.setIfInBounds_toArray, List.set_cons_succ, List.set_cons_zero])
        | ((with_reducible refine at_qload (.tmp 68) ?_); refine wpQuiet_load_midE 41 _ rfl b (off + k * 240) (by simp [Act.eval]) Y C2.out Try.underlying41 rfl hiY (by kernel_rfl) ?_; simp only [Act.put, List.setIfInBounds_toArray, List.set_cons_succ, List.set_cons_zero])
        | (go_big_quiet_step (fail)))
      refine wpQuiet_nil ?_
      rintro _ ⟨t, rfl⟩
      have S6 := Lib.hid (S5.out.call (hF t))
      clear C1 C2 c0 hG
      go_wp2_with fail
      go_roundw
      case rel => exact ⟨k + 1, by omega, by go_num, S6.out⟩
      case measure => simp [intOf]; omega
end

/-! AnF -/
section
set_option linter.unusedVariables false
set_option linter.unusedSimpArgs false
open Go.RowKit

set_option maxRecDepth 100000

theorem path_cmp {ns : List NdD} (h : TrOK ns) {x y : Int} : ∀ k : Nat, k < ns.length → x ∈ pathN ns (k : Int) → y ∈ pathN ns (k : Int) → x ≤ y → x ∈ pathN ns y := by
  intro k
  induction k using Nat.strongRecOn with
  | ind k ih =>
    intro hk hx hy hxy
    by_cases e : y = (k : Int)
    · rw [e]; exact hx
    · have hy2 := ((path_up h hk).1 hy).resolve_right e
      have hyk := path_le h hy
      have hx2 := ((path_up h hk).1 hx).resolve_right (by omega)
      have hr := path_node hy2
      have hu := (up_path h hk).2.1
      obtain ⟨u, hu2⟩ : ∃ u : Nat, ns[k].up = u := ⟨ns[k].up.toNat, by omega⟩
      rw [hu2] at hx2 hy2 hr hu
      exact ih u (by omega) (by omega) hx2 hy2 hxy

theorem path_trans {ns : List NdD} (h : TrOK ns) {x y : Int} : ∀ k : Nat, k < ns.length → x ∈ pathN ns y → y ∈ pathN ns (k : Int) → x ∈ pathN ns (k : Int) := by
  intro k
  induction k using Nat.strongRecOn with
  | ind k ih =>
    intro hk hx hy
    by_cases e : y = (k : Int)
    · rw [← e]; exact hx
    · have hy2 := ((path_up h hk).1 hy).resolve_right e
      have hr := path_node hy2
      have hu := (up_path h hk).2.1
      obtain ⟨u, hu2⟩ : ∃ u : Nat, ns[k].up = u := ⟨ns[k].up.toNat, by omega⟩
      rw [hu2] at hy2 hr hu
      refine (path_up h hk).2 (.inl ?_)
      rw [hu2]
      exact ih u (by omega) (by omega) hx hy2

theorem path_root {ns : List NdD} (h : TrOK ns) : ∀ k : Nat, k < ns.length → (0 : Int) ∈ pathN ns (k : Int) := by
  intro k
  induction k using Nat.strongRecOn with
  | ind k ih =>
    intro hk
    by_cases h0 : k = 0
    · subst h0; exact path_self h hk
    · obtain ⟨g1, g2, g3⟩ := h.upAt hk (by omega)
      refine (path_up h hk).2 (.inl ?_)
      rw [g3]
      exact ih _ g1 g2

theorem at_spec {ns : List NdD} (h : TrOK ns) (s : Int) : ∀ k : Nat, (hk : k < ns.length) →
    (atP ns (k : Int) s = -1 ∧ ∀ j (hj : j < ns.length), (j : Int) ∈ pathN ns (k : Int) → s < ns[j].b.slot) ∨
    ∃ j : Nat, ∃ hj : j < ns.length, atP ns (k : Int) s = j ∧ (j : Int) ∈ pathN ns (k : Int) ∧ ns[j].b.slot ≤ s ∧ ∀ i (hi : i < ns.length), (i : Int) ∈ pathN ns (k : Int) → j < i → s < ns[i].b.slot := by
  intro k
  induction k using Nat.strongRecOn with
  | ind k ih =>
    intro hk
    rw [atP_step h hk s]
    by_cases hs : ns[k].b.slot ≤ s
    · rw [if_pos hs]
      refine .inr ⟨k, hk, rfl, path_self h hk, hs, fun i hi hm hlt => ?_⟩
      have := path_le h hm; omega
    · rw [if_neg hs]
      have hup := up_path h hk
      by_cases h0 : k = 0
      · subst h0
        have e := h.root hk
        rw [e]
        refine .inl ⟨atP_out (by omega), fun j hj hm => ?_⟩
        have := path_le h hm
        obtain rfl : j = 0 := by omega
        omega
      · obtain ⟨g1, g2, g3⟩ := h.upAt hk (by omega)
        rw [g3]
        have hpu : ∀ x : Int, x ∈ pathN ns (k : Int) → x ∈ pathN ns (upAt ns k : Int) ∨ x = k := fun x hx => by have := (path_up h hk).1 hx; rwa [g3] at this
        rcases ih _ g1 g2 with ⟨h1, h2⟩ | ⟨j, hj, h1, h2, h3, h4⟩
        · refine .inl ⟨h1, fun i hi hm => ?_⟩
          rcases hpu _ hm with hm | hm
          · exact h2 i hi hm
          · obtain rfl : i = k := by omega
            omega
        · refine .inr ⟨j, hj, h1, (path_up h hk).2 (.inl (by rw [g3]; exact h2)), h3, fun i hi hm hlt => ?_⟩
          rcases hpu _ hm with hm | hm
          · exact h4 i hi hm hlt
          · obtain rfl : i = k := by omega
            omega

theorem i64_and31 (n : Int) : bits .and .i64 n 31 = n % 32 := by
  have h3 : (BitVec.ofInt 64 31).toNat = 2 ^ 5 - 1 := by decide
  have key : (BitVec.ofInt 64 n &&& BitVec.ofInt 64 31).toNat = (n % ((2 ^ 64 : Nat) : Int)).toNat % 2 ^ 5 := by
    rw [BitVec.toNat_and, BitVec.toNat_ofInt, h3, Nat.and_two_pow_sub_one_eq_mod]
  show IntKind.i64.wrap ((BitVec.ofInt 64 n &&& BitVec.ofInt 64 31).toNat : Nat) = n % 32
  rw [key, IntKind.wrap_i64]
  omega

theorem i64_and31_nat (n : Int) : ∃ m : Nat, m ≤ 31 ∧ bits .and .i64 n 31 = m := ⟨(n % 32).toNat, by omega, by rw [i64_and31]; omega⟩

theorem u64_and31_nat (n : Int) : ∃ m : Nat, m ≤ 31 ∧ bits .and .u64 n 31 = m := by
  have h3 : (BitVec.ofInt 64 31).toNat = 2 ^ 5 - 1 := by decide
  have key : (BitVec.ofInt 64 n &&& BitVec.ofInt 64 31).toNat = (n % ((2 ^ 64 : Nat) : Int)).toNat % 2 ^ 5 := by
    rw [BitVec.toNat_and, BitVec.toNat_ofInt, h3, Nat.and_two_pow_sub_one_eq_mod]
  refine ⟨(n % ((2 ^ 64 : Nat) : Int)).toNat % 2 ^ 5, by omega, ?_⟩
  show IntKind.u64.wrap ((BitVec.ofInt 64 n &&& BitVec.ofInt 64 31).toNat : Nat) = _
  rw [key, IntKind.wrap_u64]
  omega

/-- A number is stored into a row that its function owns. -/
theorem wpList_store_own {P : Program} {ops : Array Oper} {rest : List Oper} {op : Oper} {a : Act} {w : World} {Q : Exit → Act → World → Prop} (hgd : op.guard = none) (ty : TypeId) (x y : Operand) (ho : op.op = .store ty x y)
    (k : IntKind) (e : TypeId) (B g cap i : Nat) (xs : List Int) (n : Int) (h : OwnK k e w B (.slice (some ⟨g, 0, none⟩) xs.length cap) xs) (hk : i < xs.length) (hx : a.eval x = .pointer (some ⟨g, i, none⟩)) (hy : a.eval y = .int k n) (hi : (P.info? ty).map (·.size) = some 1)
    (hK : ∀ w', w.grownBy w' (some g) → OwnK k e w' B (.slice (some ⟨g, 0, none⟩) (xs.set i n).length cap) (xs.set i n) → wpList P ops Q rest (a.put op.dst undef) w') : wpList P ops Q (op :: rest) a w := by
  have hcell := World.ownsRow.cellAt h i (by omega)
  have hfro := World.ownsRow.frozenAt h i
  obtain ⟨h1, h2⟩ := World.ownsRow.stored h i (.int k n)
  have hr := run_storeCells_cells (P := P) g i [.int k n] 0 w (fun j hj => by
    obtain rfl : j = 0 := by simpa using hj
    show (w.cell? ⟨g, i, none⟩).isSome = true
    rw [hcell, List.getElem?_map, List.getElem?_eq_getElem hk]; rfl) (fun j hj => by
    obtain rfl : j = 0 := by simpa using hj
    exact hfro) (fun z hz => by rw [List.mem_singleton.1 hz]; rfl)
  refine wpList_plain hgd fun _ hK' => ?_
  unfold Oper.wp execOp
  cases hq : P.info? ty with
  | none => simp [hq] at hi
  | some t =>
    have hs : t.size = 1 := by simpa [hq] using hi
    simp only [Nat.add_zero] at hr
    have hsv : (storeVar ty ⟨g, i, none⟩ (.int k n)).run P w = .ok () (w.setCells g i [.int k n]) := by
      simp [storeVar, sizeOf, typeInfo, hq, Value.cells, hs, hr]
    simp only [ho, hx, hy, Instr.storeAt, Instr.sureAddr, Sem.run_bind, Sem.run_pure, Result.andThen_ok, hsv]
    refine hK' _ _ (hK _ h2 ?_)
    have e1 : (xs.map (Value.int k)).set i (.int k n) = (xs.set i n).map (Value.int k) := by rw [List.map_set]
    rw [e1] at h1
    show (w.setCell ⟨g, i, none⟩ (.int k n)).ownsRow B e 1 _ _ _
    rw [List.length_set]
    exact h1

/-- A row of the call's own, from block B on, grows. -/
theorem AnS.grown {w u u' : World} {bt B : Nat} {s : Value} {ns : List NdD} {row : Option Nat} (h : AnS w bt s ns u) (hg : u.grownBy u' row) (hr : ∀ j, row = some j → B ≤ j) (h1 : bt < B) (h2 : w.heap.size ≤ B) (hoff : ∀ g, B ≤ g → Off g s) : AnS w bt s ns u' := by
  refine ⟨h.t.grown hg (fun e => by have := hr _ e.symm; omega), ?_, h.b.grown hg h.b.size (fun j hj => by have := hr j hj; omega)⟩
  cases row with
  | none =>
    refine h.n.grownOff (g := u.heap.size + B) ⟨hg.os, hg.tape, hg.output, hg.size, fun k hk _ => hg.block k hk (by simp)⟩ (hoff _ (by omega))
  | some j => exact h.n.grownOff hg (hoff _ (hr j rfl))

/-- Two nodes have a last common ancestor. -/
theorem meet_ex {ns : List NdD} (h : TrOK ns) : ∀ n p q : Nat, p + q ≤ n → p < ns.length → q < ns.length → ∃ c : Nat, c < ns.length ∧ ∀ x, x ∈ pathN ns (c : Int) ↔ (x ∈ pathN ns (p : Int) ∧ x ∈ pathN ns (q : Int)) := by
  intro n
  induction n with
  | zero =>
    intro p q h1 hp hq
    obtain rfl : p = q := by omega
    exact ⟨p, hp, fun x => ⟨fun h => ⟨h, h⟩, fun h => h.1⟩⟩
  | succ n ih =>
    intro p q h1 hp hq
    rcases Nat.lt_trichotomy p q with hlt | rfl | hgt
    · obtain ⟨g1, g2, g3⟩ := h.upAt hq (by omega)
      obtain ⟨c, hc, hx⟩ := ih p (upAt ns q) (by omega) hp g2
      refine ⟨c, hc, fun x => ?_⟩
      rw [hx x, path_up h hq, g3]
      exact ⟨fun h => ⟨h.1, .inl h.2⟩, fun h2 => ⟨h2.1, h2.2.resolve_right (fun e => by have := path_le h h2.1; omega)⟩⟩
    · exact ⟨p, hp, fun x => ⟨fun h => ⟨h, h⟩, fun h => h.1⟩⟩
    · obtain ⟨g1, g2, g3⟩ := h.upAt hp (by omega)
      obtain ⟨c, hc, hx⟩ := ih (upAt ns p) q (by omega) g2 hq
      refine ⟨c, hc, fun x => ?_⟩
      rw [hx x, path_up h hp, g3]
      exact ⟨fun h => ⟨.inl h.1, h.2⟩, fun h2 => ⟨h2.1.resolve_right (fun e => by have := path_le h h2.2; omega), h2.2⟩⟩

theorem heir_spec {ns : List NdD} (h : TrOK ns) {a : Int} : ∀ k : Nat, (hk : k < ns.length) → a ∈ pathN ns (k : Int) → a ≠ k → ∃ j : Nat, ∃ hj : j < ns.length, heirN ns a (k : Int) = j ∧ ns[j].up = a ∧ (j : Int) ∈ pathN ns (k : Int) := by
  intro k
  induction k using Nat.strongRecOn with
  | ind k ih =>
    intro hk ha hne
    have ha2 := ((path_up h hk).1 ha).resolve_right hne
    rw [heirN_up h hk ha2]
    have hr := path_node ha2
    have hu := (up_path h hk).2.1
    by_cases e : ns[k].up = a
    · rw [if_pos e]; exact ⟨k, hk, rfl, e, path_self h hk⟩
    · rw [if_neg e]
      obtain ⟨u, hu2⟩ : ∃ u : Nat, ns[k].up = u := ⟨ns[k].up.toNat, by omega⟩
      rw [hu2] at ha2 e hr hu ⊢
      obtain ⟨j, hj, h1, h2, h3⟩ := ih u (by omega) (by omega) ha2 (fun x => e x.symm)
      exact ⟨j, hj, h1, h2, (path_up h hk).2 (.inl (by rw [hu2]; exact h3))⟩

theorem com_two {ns : List NdD} (h : TrOK ns) {p q : Nat} (hp : p < ns.length) (hq : q < ns.length) : ∃ c : Nat, c < ns.length ∧ comN ns [(p : Int), (q : Int)] = c ∧ comN ns [(q : Int), (p : Int)] = c ∧ (c : Int) ∈ pathN ns (p : Int) ∧ (c : Int) ∈ pathN ns (q : Int) ∧ ∀ x, x ∈ pathN ns (p : Int) → x ∈ pathN ns (q : Int) → x ≤ c := by
  obtain ⟨c, hc, hx⟩ := meet_ex h _ p q (Nat.le_refl _) hp hq
  have hs := (hx c).1 (path_self h hc)
  refine ⟨c, hc, comN_of h (by simp) hc fun x => ?_, comN_of h (by simp) hc fun x => ?_, hs.1, hs.2, fun x h1 h2 => (path_le h ((hx x).2 ⟨h1, h2⟩)).2⟩
  · rw [hx x]; simp
  · rw [hx x]; simp [and_comm]

theorem com_one {ns : List NdD} (h : TrOK ns) {p : Nat} (hp : p < ns.length) : comN ns [(p : Int)] = p := comN_of h (by simp) hp fun x => by simp
end

end Go.Proofs.Ytdmjpmigejpkmaa
