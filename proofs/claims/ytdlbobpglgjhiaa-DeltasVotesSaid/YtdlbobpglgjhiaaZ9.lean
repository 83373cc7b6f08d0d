/- Several texts as one: WxA, L14v. -/
import Derived.Test.YtdlbobpglgjhiaaZ4
import Derived.Test.YtdlbobpglgjhiaaZ5
namespace Go.Proofs.Ytdlbobpglgjhiaa

/-! WxA -/
section
set_option linter.unusedVariables false
set_option linter.unusedSimpArgs false
open Go.RowKit

set_option maxRecDepth 100000

/-- Few balances, none of them large. -/
structure SmB (vs : List VoD) (bs : List Int) : Prop where
  len : bs.length = vs.length
  l6 : bs.length ≤ 6
  rng : ∀ x ∈ bs, 0 ≤ x ∧ x ≤ 144115188075855872

theorem SmB.at {vs : List VoD} {bs : List Int} (h : SmB vs bs) (i : Nat) : 0 ≤ bs.getD i 0 ∧ bs.getD i 0 ≤ 144115188075855872 := by
  by_cases hi : i < bs.length
  · have e : bs.getD i 0 = bs[i] := by simp [List.getD_eq_getElem?_getD, hi]
    rw [e]; exact h.rng _ (List.getElem_mem hi)
  · rw [List.getD_eq_getElem?_getD, List.getElem?_eq_none (by omega)]; simp

theorem BlP.sm {n : Nat} {ns : List NdD} {vs : List VoD} {es bs : List Int} (h : BlP n ns vs es bs) : SmB vs bs :=
  ⟨by rw [h.len, h.v.len], by rw [h.len]; exact h.n6, fun x hx => by have := h.rng x hx; omega⟩

def hb (es bs : List Int) (i : Nat) : Int := if (i : Int) ∈ es then 0 else bs.getD i 0

theorem hb_rng {vs : List VoD} {bs : List Int} (h : SmB vs bs) (es : List Int) (i : Nat) : 0 ≤ hb es bs i ∧ hb es bs i ≤ 144115188075855872 := by
  unfold hb
  split
  · omega
  · exact h.at i

theorem sumX_bd {f : Nat → Int} {c : Int} (h : ∀ i, 0 ≤ f i ∧ f i ≤ c) : ∀ k : Nat, 0 ≤ sumX f k ∧ sumX f k ≤ k * c
  | 0 => by simp [sumX]
  | k + 1 => by
    have h1 := sumX_bd h k
    have h2 := h k
    rw [sumX_succ]
    have e : ((k + 1 : Nat) : Int) * c = k * c + c := by rw [Int.natCast_succ, Int.add_mul, Int.one_mul]
    omega

theorem six_bd {k : Nat} (hk : k ≤ 6) : (k : Int) * 144115188075855872 ≤ 864691128455135232 := by omega
/-! ### Totals and direct weights -/

theorem tot_X {vs : List VoD} {bs : List Int} (h : SmB vs bs) (es : List Int) : ∀ k, k ≤ bs.length → totK es bs k = sumX (hb es bs) k
  | 0, _ => rfl
  | k + 1, hk => by
    have ih := tot_X h es k (by omega)
    have hb1 := sumX_bd (hb_rng h es) (k + 1)
    have h6 := h.l6
    have := six_bd (show k + 1 ≤ 6 by omega)
    rw [sumX_succ] at hb1 ⊢
    by_cases hm : (k : Int) ∈ es
    · rw [totK_yes (decide_eq_true hm), ih]; unfold hb; rw [if_pos hm]; omega
    · rw [totK_no (decide_eq_false hm), ih]
      have e : hb es bs k = bs.getD k 0 := by unfold hb; rw [if_neg hm]
      rw [e] at hb1 ⊢
      rw [IntKind.wrap_u64]; omega

/-- Whether validator i votes for the root r. -/
def vfr (vs : List VoD) (r : List Int) (i : Nat) : Bool := (vs.getD i zeV).has && decide ((vs.getD i zeV).r = r)

theorem wei_X {vs : List VoD} {bs : List Int} (h : SmB vs bs) (es : List Int) (r : List Int) : ∀ k, k ≤ bs.length → weiK vs es bs [r] k = sumX (fun i => if vfr vs r i = true then hb es bs i else 0) k
  | 0, _ => rfl
  | k + 1, hk => by
    have ih := wei_X h es r k (by omega)
    have hb1 := sumX_bd (f := fun i => if vfr vs r i = true then hb es bs i else 0) (c := 144115188075855872) (fun i => by
      have := hb_rng h es i
      show 0 ≤ (if vfr vs r i = true then hb es bs i else 0) ∧ (if vfr vs r i = true then hb es bs i else 0) ≤ _
      split <;> omega) (k + 1)
    have h6 := h.l6
    have := six_bd (show k + 1 ≤ 6 by omega)
    rw [sumX_succ] at hb1 ⊢
    by_cases hm : (k : Int) ∈ es
    · rw [weiK_no (by unfold weiP; simp [hm]), ih]
      have e : hb es bs k = 0 := by unfold hb; rw [if_pos hm]
      rw [e]; simp
    · have e : hb es bs k = bs.getD k 0 := by unfold hb; rw [if_neg hm]
      cases hv : vfr vs r k
      · rw [weiK_no (by unfold weiP; unfold vfr at hv; simp [hm]; intro h1; simpa [h1] using hv), ih]; simp
      · rw [weiK_yes (by unfold weiP; unfold vfr at hv; simp at hv; simp [hm, hv]), ih]
        rw [hv] at hb1
        simp only [if_true] at hb1 ⊢
        rw [e] at hb1 ⊢
        rw [IntKind.wrap_u64]; omega

/-- Whether validator i counts for node j. -/
def okV (ns : List NdD) (vs : List VoD) (j i : Nat) : Bool := match ns[j]? with
  | some x => !decide (x.st = 2) && vfr vs x.b.root i
  | none => false

theorem okV_at {ns : List NdD} (vs : List VoD) {j : Nat} (hj : j < ns.length) (i : Nat) : okV ns vs j i = (!decide (ns[j].st = 2) && vfr vs ns[j].b.root i) := by
  unfold okV; rw [List.getElem?_eq_getElem hj]

def dirX (ns : List NdD) (vs : List VoD) (es bs : List Int) (j : Nat) : Int := sumX (fun i => if okV ns vs j i = true then hb es bs i else 0) bs.length

theorem dir_X {ns : List NdD} {vs : List VoD} {bs : List Int} (h : SmB vs bs) (es : List Int) {j : Nat} (hj : j < ns.length) : (dirL ns vs es bs ns.length).getD j 0 = dirX ns vs es bs j := by
  have e : (dirL ns vs es bs ns.length).getD j 0 = dirV vs es bs ns[j] := by
    unfold dirL
    simp [List.getD_eq_getElem?_getD, hj]
  rw [e]
  unfold dirV dirX
  by_cases h2 : ns[j].st = 2
  · rw [if_pos h2, sumX_zero (fun i _ => by rw [okV_at vs hj]; simp [h2])]
  · rw [if_neg h2]
    unfold weiN
    rw [h.len, Nat.min_self, ← h.len, wei_X h es _ _ (Nat.le_refl _)]
    exact sumX_congr fun i _ => by rw [okV_at vs hj]; simp [h2]

theorem dirX_rng {ns : List NdD} {vs : List VoD} {bs : List Int} (h : SmB vs bs) (es : List Int) (j : Nat) : 0 ≤ dirX ns vs es bs j ∧ dirX ns vs es bs j ≤ 864691128455135232 := by
  have hb1 := sumX_bd (f := fun i => if okV ns vs j i = true then hb es bs i else 0) (c := 144115188075855872) (fun i => by
    have := hb_rng h es i
    show 0 ≤ (if okV ns vs j i = true then hb es bs i else 0) ∧ (if okV ns vs j i = true then hb es bs i else 0) ≤ _
    split <;> omega) bs.length
  have := six_bd h.l6
  unfold dirX
  omega
/-! ### Every validator counts for one node at most -/

def cnt (ns : List NdD) (vs : List VoD) (q : Nat → Bool) (i : Nat) : Int := sumX (fun j => if (q j && okV ns vs j i) = true then 1 else 0) ns.length

theorem cnt_one {ns : List NdD} (hok : TrOK ns) (vs : List VoD) (q : Nat → Bool) (i : Nat) : cnt ns vs q i = 0 ∨ cnt ns vs q i = 1 := by
  unfold cnt
  by_cases h : ∃ j, j < ns.length ∧ (q j && okV ns vs j i) = true
  · obtain ⟨j, hj, hq⟩ := h
    right
    rw [sumX_one hj, if_pos hq]
    intro k hk hne
    rw [if_neg]
    intro hk2
    simp only [Bool.and_eq_true] at hq hk2
    have h1 := hq.2
    have h2 := hk2.2
    rw [okV_at vs hj] at h1
    rw [okV_at vs hk] at h2
    unfold vfr at h1 h2
    simp only [Bool.and_eq_true, decide_eq_true_eq] at h1 h2
    have e : ns[j].b.root = ns[k].b.root := by rw [← h1.2.2, h2.2.2]
    by_cases hjk : j < k
    · exact hok.ne j k hj hk hjk e
    · exact hok.ne k j hk hj (by omega) e.symm
  · left
    exact sumX_zero fun j hj => by rw [if_neg (fun z => h ⟨j, hj, z⟩)]

/-- The weight of some nodes. -/
theorem sum_nodes (ns : List NdD) (vs : List VoD) (es bs : List Int) (q : Nat → Bool) : sumX (fun j => if q j = true then dirX ns vs es bs j else 0) ns.length = sumX (fun i => cnt ns vs q i * hb es bs i) bs.length := by
  have e : sumX (fun j => if q j = true then dirX ns vs es bs j else 0) ns.length = sumX (fun j => sumX (fun i => (if (q j && okV ns vs j i) = true then (1 : Int) else 0) * hb es bs i) bs.length) ns.length := by
    refine sumX_congr fun j _ => ?_
    unfold dirX
    cases q j
    · rw [if_neg (by decide)]
      symm
      exact sumX_zero fun i _ => by simp
    · rw [if_pos rfl]
      refine sumX_congr fun i _ => ?_
      by_cases hv : okV ns vs j i = true
      · rw [if_pos hv, if_pos (by simpa using hv)]; omega
      · rw [if_neg hv, if_neg (by simpa using hv)]; omega
  rw [e, sumX_swap]
  refine sumX_congr fun i _ => ?_
  rw [sumX_mul]; rfl

theorem sum_nodes_le {ns : List NdD} (hok : TrOK ns) {vs : List VoD} {bs : List Int} (h : SmB vs bs) (es : List Int) (q : Nat → Bool) : 0 ≤ sumX (fun j => if q j = true then dirX ns vs es bs j else 0) ns.length ∧ sumX (fun j => if q j = true then dirX ns vs es bs j else 0) ns.length ≤ sumX (hb es bs) bs.length := by
  rw [sum_nodes]
  refine ⟨sumX_pos fun i _ => ?_, sumX_le fun i _ => ?_⟩
  · have := hb_rng h es i
    rcases cnt_one hok vs q i with e | e <;> rw [e] <;> omega
  · have := hb_rng h es i
    rcases cnt_one hok vs q i with e | e <;> rw [e] <;> omega

theorem hb_sum {vs : List VoD} {bs : List Int} (h : SmB vs bs) (es : List Int) : 0 ≤ sumX (hb es bs) bs.length ∧ sumX (hb es bs) bs.length ≤ 864691128455135232 := by
  have h1 := sumX_bd (hb_rng h es) bs.length
  have := six_bd h.l6
  omega

/-- The weight of a subtree, exactly. -/
theorem sub_X {ns : List NdD} (hok : TrOK ns) {vs : List VoD} {bs : List Int} (h : SmB vs bs) (es : List Int) {j : Nat} (hj : j < ns.length) :
    (sbtL ns (dirL ns vs es bs ns.length) ns.length).getD j 0 = sumX (fun x => if ancB ns j x = true then dirX ns vs es bs x else 0) ns.length := by
  rw [sbtL_get ns _ _ hj]
  have e : sbX ns (fun x => (dirL ns vs es bs ns.length).getD x 0) j = sumX (fun x => if ancB ns j x = true then dirX ns vs es bs x else 0) ns.length := by
    refine sumX_congr fun x hx => ?_
    show (if ancB ns j x = true then (dirL ns vs es bs ns.length).getD x 0 else 0) = _
    rw [dir_X h es hx]
  rw [e]
  have h1 := sum_nodes_le hok h es (fun x => ancB ns j x)
  have h2 := hb_sum h es
  rw [IntKind.wrap_u64]; omega
/-! ### WeightsOwn -/

theorem sumX_wrap (f : Nat → Int) (p : Nat → Bool) : ∀ (n : Nat) (a : Int), IntKind.u64.wrap (a + sumX (fun k => if p k = true then IntKind.u64.wrap (f k) else 0) n) = IntKind.u64.wrap (a + sumX (fun k => if p k = true then f k else 0) n)
  | 0, a => rfl
  | n + 1, a => by
    have ih := sumX_wrap f p n
    rw [sumX_succ, sumX_succ]
    cases p n
    · simpa using ih a
    · simp only [if_true]
      have h1 := ih (a + IntKind.u64.wrap (f n))
      have e1 : a + (sumX (fun k => if p k = true then IntKind.u64.wrap (f k) else 0) n + IntKind.u64.wrap (f n)) = a + IntKind.u64.wrap (f n) + sumX (fun k => if p k = true then IntKind.u64.wrap (f k) else 0) n := by omega
      have e2 : a + (sumX (fun k => if p k = true then f k else 0) n + f n) = a + sumX (fun k => if p k = true then f k else 0) n + f n := by omega
      rw [e1, h1, e2, show a + IntKind.u64.wrap (f n) + sumX (fun k => if p k = true then f k else 0) n = a + sumX (fun k => if p k = true then f k else 0) n + IntKind.u64.wrap (f n) by omega, u64_two']

/-- own behind k children. -/
def ownE (x : Int) (wl c : List Int) : Nat → Int
  | 0 => x
  | k + 1 => IntKind.u64.wrap (ownE x wl c k + wl.getD (c.getD k 0).toNat 0)

theorem ownE_succ (x : Int) (wl c : List Int) (k : Nat) : ownE x wl c (k + 1) = IntKind.u64.wrap (ownE x wl c k + wl.getD (c.getD k 0).toNat 0) := rfl

theorem ownE_sum {x : Int} (hx : 0 ≤ x ∧ x ≤ 18446744073709551615) (wl c : List Int) : ∀ k, ownE x wl c k = IntKind.u64.wrap (x + sumDl wl c k)
  | 0 => by show x = IntKind.u64.wrap (x + 0); rw [IntKind.wrap_u64]; omega
  | k + 1 => by rw [ownE_succ, ownE_sum hx wl c k, sumDl_succ, u64_two, u64_two']; congr 1; omega

theorem own_all {ns : List NdD} (hok : TrOK ns) {dl : List Int} (hr : ∀ x ∈ dl, 0 ≤ x ∧ x ≤ 18446744073709551615) (hl : dl.length = ns.length) {i : Nat} (hi : i < ns.length) :
    ownE (dl.getD i 0) (sbtL ns dl ns.length) (childN ns (i : Int)) (childN ns (i : Int)).length = (sbtL ns dl ns.length).getD i 0 := by
  have hx : 0 ≤ dl.getD i 0 ∧ dl.getD i 0 ≤ 18446744073709551615 := by
    have e : dl.getD i 0 = dl[i]'(by omega) := by simp [List.getD_eq_getElem?_getD, show i < dl.length by omega]
    rw [e]; exact hr _ (List.getElem_mem _)
  rw [ownE_sum hx, sbtL_get ns dl _ hi]
  unfold childN
  rw [if_pos ⟨by omega, by omega⟩, sumDl_sel, u64_two', sbX_rec hok _ hi]
  have e : sumX (fun x => if decide (upI ns x = (i : Int)) = true then (sbtL ns dl ns.length).getD x 0 else 0) ns.length = sumX (fun x => if decide (upI ns x = (i : Int)) = true then IntKind.u64.wrap (sbX ns (fun x => dl.getD x 0) x) else 0) ns.length := by
    refine sumX_congr fun x hx => ?_
    show (if _ then _ else _) = (if _ then _ else _)
    rw [sbtL_get ns dl _ hx]
  rw [e, sumX_wrap]
  congr 2
  exact sumX_congr fun x _ => by simp

/-- The sum of the first k numbers, as the law adds them up. -/
def sumW (dl : List Int) : Nat → Int
  | 0 => 0
  | k + 1 => IntKind.u64.wrap (sumW dl k + dl.getD k 0)

theorem sumW_succ (dl : List Int) (k : Nat) : sumW dl (k + 1) = IntKind.u64.wrap (sumW dl k + dl.getD k 0) := rfl

theorem sumW_X (dl : List Int) : ∀ k, sumW dl k = IntKind.u64.wrap (sumX (fun x => dl.getD x 0) k)
  | 0 => rfl
  | k + 1 => by rw [sumW_succ, sumW_X dl k, sumX_succ, u64_two]

theorem anc_root {ns : List NdD} (h : TrOK ns) : ∀ (B x : Nat), x < B → x < ns.length → ancB ns 0 x = true
  | B + 1, x, hB, hx => by
    rw [ancB_up h hx]
    by_cases h0 : x = 0
    · exact .inr h0.symm
    · obtain ⟨u, _, hux, hup, _⟩ := h.up x hx (by omega)
      left
      rw [upI_at hx, hup]
      exact ⟨by omega, by rw [Int.toNat_natCast]; exact anc_root h B u (by omega) (by omega)⟩

theorem root_all {ns : List NdD} (h : TrOK ns) (dl : List Int) : (sbtL ns dl ns.length).getD 0 0 = sumW dl ns.length := by
  rw [sbtL_get ns dl _ h.pos, sumW_X]
  congr 1
  refine sumX_congr fun x hx => ?_
  show (if ancB ns 0 x = true then _ else _) = _
  rw [if_pos (anc_root h (x + 1) x (by omega) hx)]

theorem sum_total {ns : List NdD} (hok : TrOK ns) {vs : List VoD} {bs : List Int} (h : SmB vs bs) (es : List Int) : sumW (dirL ns vs es bs ns.length) ns.length ≤ totK es bs bs.length := by
  rw [tot_X h es _ (Nat.le_refl _), sumW_X]
  have e : sumX (fun x => (dirL ns vs es bs ns.length).getD x 0) ns.length = sumX (fun x => if true = true then dirX ns vs es bs x else 0) ns.length := sumX_congr fun x hx => by rw [dir_X h es hx]; simp
  rw [e]
  have h1 := sum_nodes_le hok h es (fun _ => true)
  have h2 := hb_sum h es
  rw [IntKind.wrap_u64]; omega

theorem child_rng (ns : List NdD) (i : Int) : ∀ x ∈ childN ns i, 0 ≤ x ∧ x < ns.length := by
  intro x hx
  unfold childN at hx
  split at hx
  · exact selK_rng _ _ x hx
  · cases hx

theorem dir_bad {ns : List NdD} (vs : List VoD) (es bs : List Int) {i : Nat} (hi : i < ns.length) (h2 : ns[i].st = 2) : (dirL ns vs es bs ns.length).getD i 0 = 0 := by
  unfold dirL
  simp [List.getD_eq_getElem?_getD, hi, dirV, h2]
end

/-! L14v -/
section
set_option linter.unusedVariables false
set_option linter.unusedSimpArgs false
open Go.RowKit

set_option maxRecDepth 100000

/-- What Built left, and the other votes and balances. -/
structure DvA (w : World) (bt b2 : Nat) (tv lv ev nv lv2 ev2 : Value) (ns : List NdD) (vs : List VoD) (es bs : List Int) (vs2 : List VoD) (es2 : List Int) (u : World) : Prop where
  s : LwS w bt tv lv ev nv ns vs es bs u
  x : Blk u b2 #[lv2, ev2]
  v : VotesV u lv2 vs2
  e : IntsV u ev2 es2

theorem DvA.call {w u u' : World} {bt b2 : Nat} {tv lv ev nv lv2 ev2 : Value} {ns : List NdD} {vs : List VoD} {es bs : List Int} {vs2 : List VoD} {es2 : List Int} (h : DvA w bt b2 tv lv ev nv lv2 ev2 ns vs es bs vs2 es2 u) (hb : Below u.heap.size u u') : DvA w bt b2 tv lv ev nv lv2 ev2 ns vs es bs vs2 es2 u' :=
  ⟨h.s.call hb, h.x.call hb, h.v.call hb, h.e.below hb⟩

/-- The tree, the other votes and balances, and two lists of direct weights. -/
structure DvS (w : World) (bt b2 : Nat) (s lv2 ev2 cv p q : Value) (ns : List NdD) (vs2 : List VoD) (es2 cs X Y : List Int) (u : World) : Prop where
  a : AnS w bt s ns u
  x : Blk u b2 #[lv2, ev2]
  v : VotesV u lv2 vs2
  e : IntsV u ev2 es2
  c : NumsV u cv cs
  p : NumsV u p X
  q : NumsV u q Y

theorem DvS.call {w u u' : World} {bt b2 : Nat} {s lv2 ev2 cv p q : Value} {ns : List NdD} {vs2 : List VoD} {es2 cs X Y : List Int} (h : DvS w bt b2 s lv2 ev2 cv p q ns vs2 es2 cs X Y u) (hb : Below u.heap.size u u') : DvS w bt b2 s lv2 ev2 cv p q ns vs2 es2 cs X Y u' :=
  ⟨h.a.call hb, h.x.call hb, h.v.call hb, h.e.below hb, ⟨h.c.1.below hb, h.c.2⟩, ⟨h.p.1.below hb, h.p.2⟩, ⟨h.q.1.below hb, h.q.2⟩⟩

theorem dir_rng {ns : List NdD} {vs : List VoD} {bs : List Int} (h : SmB vs bs) (es : List Int) (i : Nat) : 0 ≤ (dirL ns vs es bs ns.length).getD i 0 ∧ (dirL ns vs es bs ns.length).getD i 0 ≤ 864691128455135232 := by
  by_cases hi : i < ns.length
  · rw [dir_X h es hi]; exact dirX_rng h es i
  · rw [List.getD_eq_getElem?_getD, List.getElem?_eq_none (by rw [lw_dlen]; omega)]; simp

set_option maxHeartbeats 32000000 in
theorem walk_DeltasVotes (a0 : Option Addr) (len0 cap0 : Nat) (z0 : List Int) (a1 : Option Addr) (len1 cap1 : Nat) (z1 : List Int) (a2 : Option Addr) (len2 cap2 : Nat) (z2 : List Int) (w : World) (w0 : IsRow .i64 w a0 len0 cap0 z0) (w1 : IsRow .i64 w a1 len1 cap1 z1) (w2 : IsRow .i64 w a2 len2 cap2 z2) :
    Calls Try.prog 6 #[.slice a0 len0 cap0, .slice a1 len1 cap1, .slice a2 len2 cap2] w fun e w' => e = .returned (.bool true) ∧ Below w.heap.size w w' := by
  have HBL := Lib.hid (fun u (hu : Below w.heap.size w u) => built13_any (.slice a0 len0 cap0) (.slice a1 len1 cap1) _ _ u ((rowInts w0).below hu) ((rowInts w1).below hu))
  have HAW := Lib.hid awake14_any
  have hi1 : (Try.prog.info? 25).map (·.size) = some 1 := by kernel_rfl
  have hi2 : (Try.prog.info? 44).map (·.size) = some 2 := by kernel_rfl
  obtain ⟨hz1, hst1⟩ := zero_array (P := Try.prog) (t := 25) (n := 1) #[.slice none 0 0] (by kernel_rfl) rfl (by kernel_rfl)
  obtain ⟨hz2, hst2⟩ := zero_array (P := Try.prog) (t := 44) (n := 2) #[.slice none 0 0, .slice none 0 0] (by kernel_rfl) rfl (by kernel_rfl)
  have HI2 := Lib.hid (fun u (hu : Below w.heap.size w u) => (rowInts w2).below hu)
  obtain ⟨l2, hl2⟩ : ∃ l, z2.take len2 = l := ⟨_, rfl⟩
  rw [hl2] at HI2
  clear w0 w1 w2 hst1 hst2 hl2
  go_enter Try.func6, Try.ntmps6
  go_upto_region 2 with (first
    | (go_at_call 20; refine (HBL.out _ (Below.refl _ _)).mono ?_; rintro e w1 ⟨tv, lv, ev, nv, n, ns, vs, es, bs, rfl, hn, hv, he, hm, hp, hb⟩; obtain ⟨ta, tc, rfl, _⟩ := hn.shape; obtain ⟨la, lc, rfl, _⟩ := ElV.shape hv; obtain ⟨ea, el, ec, rfl⟩ := ints_shape' he.1; obtain ⟨na, nc, rfl, _⟩ := NumsV.shapeW hm; have HP := Lib.hid hp; have L1 := Lib.hid (LwV.mk hn hv he hm hb); clear hn hv he hm hp hb)
    | ((with_reducible refine at_store (.tmp 7) ?_); refine wpList_store_blk rfl 25 (.tmp 7) _ rfl w1.heap.size #[.slice ta ns.length tc] rfl rfl #[.slice none 0 0] ((Blk.new rfl).alloc _) rfl hi1 (by simp [Value.oneCell']) ?_; intro w2 U2 B2; have HU2 := Lib.hid U2; have HT2 := Lib.hid B2; clear U2 B2)
    | ((with_reducible refine at_store (.tmp 8) ?_); refine wpList_store_blk rfl 44 (.tmp 8) _ rfl (w1.heap.size + 1) #[.slice la vs.length lc, .slice ea el ec] (by first | rfl | simp [Act.eval, Act.put]) rfl #[.slice none 0 0, .slice none 0 0] (HU2.out.blk (Blk.new (by simp)) (by omega)) rfl hi2 (by simp [Value.oneCell']) ?_; intro w3 U3 B3; have S : Hid (LwS w w1.heap.size (.slice ta ns.length tc) (.slice la vs.length lc) (.slice ea el ec) (.slice na bs.length nc) ns vs es bs w3) := lws_new L1.out HT2.out HU2.out U3 B3; clear U3 B3))
  obtain ⟨bt, hbt⟩ : ∃ x, w1.heap.size = x := ⟨_, rfl⟩
  rw [hbt] at S ⊢
  clear hbt L1 HT2 HU2
  (try simp only [Act.put])
  have hb1M : bs.length ≤ 1000 := by rw [HP.out.len]; have := HP.out.n6; omega
  have HVO := Lib.hid (fun u (hu : LwS w bt (.slice ta ns.length tc) (.slice la vs.length lc) (.slice ea el ec) (.slice na bs.length nc) ns vs es bs u) => votes_any (.slice ta ns.length tc) (.slice a2 len2 cap2) ns l2 bs.length hb1M HP.out.ok.pos HP.out.nl u hu.l.n (HI2.out u hu.l.b))
  have HNU := Lib.hid (fun u (hu : LwS w bt (.slice ta ns.length tc) (.slice la vs.length lc) (.slice ea el ec) (.slice na bs.length nc) ns vs es bs u) => num_any (.slice a2 len2 cap2) l2 bs.length u (HI2.out u hu.l.b) (by omega))
  go_upto_region 3 with (first
    | ((with_reducible refine at_load (.tmp 7) ?_); refine wpList_load_g 25 (.tmp 7) rfl bt rfl #[.slice ta ns.length tc] _ S.out.t Try.underlying25 rfl hi1 rfl ?_)
    | (go_at_call 21; refine (HVO.out _ S.out).mono ?_; rintro e w4 ⟨lv2, ev2, vs2, es2, rfl, hlv, hev, hvo, _, _, _, _, hb4⟩; obtain ⟨la2, lc2, rfl, _⟩ := ElV.shape hlv; obtain ⟨ea2, el2, ec2, rfl⟩ := ints_shape' hev.1; have HLV := Lib.hid hlv; have HEV := Lib.hid hev; have HVK := Lib.hid hvo; have S := Lib.hid (S.out.call hb4); clear hlv hev hvo hb4)
    | ((with_reducible refine at_store (.tmp 10) ?_); refine wpList_store_blk rfl 44 (.tmp 10) _ rfl w4.heap.size #[.slice la2 vs2.length lc2, .slice ea2 el2 ec2] rfl rfl #[.slice none 0 0, .slice none 0 0] (Blk.new rfl) rfl hi2 (by simp [Value.oneCell']) ?_; intro w5 U5 B5; have hb5 := U5.below ((Below.refl w4.heap.size w4).alloc (Nat.le_refl _) (.cells #[.slice none 0 0, .slice none 0 0] 44)) (Nat.le_refl _); have SA : Hid (DvA w bt w4.heap.size (.slice ta ns.length tc) (.slice la vs.length lc) (.slice ea el ec) (.slice na bs.length nc) (.slice la2 vs2.length lc2) (.slice ea2 el2 ec2) ns vs es bs vs2 es2 w5) := ⟨S.out.call hb5, B5, HLV.out.call hb5, HEV.out.below hb5⟩; clear U5 B5 hb5))
  obtain ⟨b2, hb2⟩ : ∃ x, w4.heap.size = x := ⟨_, rfl⟩
  rw [hb2] at SA ⊢
  clear hb2 S HLV HEV HVO
  (try simp only [Act.put])
  go_upto_region 4 with (first
    | (go_at_call 10; refine (HNU.out _ SA.out.s).mono ?_; rintro e w6 ⟨v6, rfl, ho6, hb6⟩; have HC := Lib.hid (num_nums ho6 (by omega)); have SA := Lib.hid (SA.out.call hb6); clear ho6 hb6))
  obtain ⟨ca, cc, rfl, _⟩ := NumsV.shapeW HC.out
  have HCL := Lib.hid (numK_len l2 bs.length)
  have HS1 : Hid (SmB vs bs) := HP.out.sm
  have HS2 : Hid (SmB vs2 (numK l2 bs.length)) := ⟨by rw [HCL.out, HVK.out.len], by rw [HCL.out]; exact HS1.out.l6, fun x hx => by have := numK_rng l2 bs.length x hx; omega⟩
  have hcl1 : (numK l2 bs.length).length ≤ 1000000 := by rw [HCL.out]; omega
  obtain ⟨cs, hcs⟩ : ∃ x, numK l2 bs.length = x := ⟨_, rfl⟩
  rw [hcs] at HC HCL HS2 hcl1 ⊢
  clear hcs HNU HI2
  have HD1 := Lib.hid (fun u (hu : LwS w bt (.slice ta ns.length tc) (.slice la vs.length lc) (.slice ea el ec) (.slice na bs.length nc) ns vs es bs u) => lw_cdirect HP.out u hu.l (.slice na bs.length nc) bs hu.l.m HP.out.small)
  have HD2 : Hid (∀ u, DvA w bt b2 (.slice ta ns.length tc) (.slice la vs.length lc) (.slice ea el ec) (.slice na bs.length nc) (.slice la2 vs2.length lc2) (.slice ea2 el2 ec2) ns vs es bs vs2 es2 u → NumsV u (.slice ca cs.length cc) cs → Calls Try.prog 22 #[.agg #[.slice ta ns.length tc], .agg #[.slice la2 vs2.length lc2, .slice ea2 el2 ec2], .slice ca cs.length cc] u fun e w' => ∃ v', e = .returned v' ∧ NumsV w' v' (dirL ns vs2 es2 cs ns.length) ∧ Below u.heap.size u w') := fun u hu hc => by
    refine (cdirect_any ns HP.out.nl _ _ _ _ vs2 es2 cs u hu.s.l.n hu.v hu.e hc hcl1).mono ?_
    rintro e w' ⟨v', rfl, hr, hb⟩
    exact ⟨v', rfl, hr.nums (dirL_rng _ _ _ _ _), hb⟩
  have HRD : Hid (∀ u tv0, NodesV u tv0 ns → VotesV u (.slice la2 vs2.length lc2) vs2 → IntsV u (.slice ea2 el2 ec2) es2 → NumsV u (.slice ca cs.length cc) cs → Calls Try.prog 24 #[.agg #[tv0], .agg #[.slice la2 vs2.length lc2, .slice ea2 el2 ec2], .slice ca cs.length cc] u fun e w' => ∃ v', e = .returned v' ∧ NumsV w' v' (dirL ns vs2 es2 cs ns.length) ∧ Below u.heap.size u w') := fun u tv0 h1 h2 h3 h4 => by
    refine (direct_any ns HP.out.nl _ _ _ _ vs2 es2 cs u h1 h2 h3 h4).mono ?_
    rintro e w' ⟨v', rfl, hr, hb⟩
    exact ⟨v', rfl, ⟨hr.ints (by rw [dirL_len vs2 es2 cs (Nat.le_refl _)]; have := HP.out.l9; unfold maxLen; omega), dirL_rng _ _ _ _ _⟩, hb⟩
  have HRS : Hid (∀ u tv0 dv dl, NodesV u tv0 ns → NumsV u dv dl → dl.length = ns.length → Calls Try.prog 23 #[.agg #[tv0], dv] u fun e w' => ∃ v', e = .returned v' ∧ NumsV w' v' (sbtL ns dl ns.length) ∧ Below u.heap.size u w') := fun u tv0 dv dl h1 h2 h3 => by
    refine (subtree_any ns HP.out.ok HP.out.nl dl _ dv u h1 h2 h3).mono ?_
    rintro e w' ⟨v', rfl, hr, hb⟩
    exact ⟨v', rfl, ⟨hr.ints (by rw [sbtL_len]; have := HP.out.l9; unfold maxLen; omega), sbtL_rng _ _ _⟩, hb⟩
  have HBX := Lib.hid (dir_rng (ns := ns) HS1.out es)
  have HBY := Lib.hid (dir_rng (ns := ns) HS2.out es2)
  have HLX := Lib.hid (lw_dlen ns vs es bs)
  have HLY := Lib.hid (lw_dlen ns vs2 es2 cs)
  obtain ⟨X, hX⟩ : ∃ x, dirL ns vs es bs ns.length = x := ⟨_, rfl⟩
  obtain ⟨Y, hY⟩ : ∃ x, dirL ns vs2 es2 cs ns.length = x := ⟨_, rfl⟩
  rw [hX] at HD1 HBX HLX
  rw [hY] at HD2 HRD HBY HLY
  clear hX hY HS1 HS2 HVK
  obtain ⟨m, hm⟩ : ∃ m, Hid (ns.length = m) := ⟨_, Lib.hid rfl⟩
  have hm9 : m ≤ 9 := by have := HP.out.l9; have := hm.out; omega
  have HNL : Hid (ns.length ≤ 100000) := HP.out.nl
  have HOK : Hid (TrOK ns) := HP.out.ok
  rw [hm.out] at SA HD1 HD2 HLX HLY HRS ⊢
  go_cut [12, 13] from 32 to 39 (fun pv qv wx => ∃ p q, pv = p ∧ qv = q ∧ DvS w bt b2 (.slice ta m tc) (.slice la2 vs2.length lc2) (.slice ea2 el2 ec2) (.slice ca cs.length cc) p q ns vs2 es2 cs X Y wx)
  case first =>
    have HSx0 : Hid ((fun u => DvA w bt b2 (.slice ta m tc) (.slice la vs.length lc) (.slice ea el ec) (.slice na bs.length nc) (.slice la2 vs2.length lc2) (.slice ea2 el2 ec2) ns vs es bs vs2 es2 u) w6.drew) := SA.out.call (Below.drewN (n := 1) (Below.refl _ _) : Below w6.heap.size w6 w6.drew)
    refine wp_region_held_drew (S := fun u => DvA w bt b2 (.slice ta m tc) (.slice la vs.length lc) (.slice ea el ec) (.slice na bs.length nc) (.slice la2 vs2.length lc2) (.slice ea2 el2 ec2) ns vs es bs vs2 es2 u) (by kernel_rfl) (HSx0.out) (fun _ => ?_)
    (try simp only [Act.put, List.setIfInBounds_toArray, List.set_cons_zero, List.set_cons_succ])
    have HC0 : Hid (NumsV w6.drew (.slice ca cs.length cc) cs) := ⟨HC.out.1.below (below_drew w6), HC.out.2⟩
    obtain ⟨x0, hx0⟩ : ∃ x, w6.drew = x := ⟨_, rfl⟩
    rw [hx0] at HSx0 HC0 ⊢
    clear hx0
    refine held_load (oi := ⟨some 32, _, _, _, _, _⟩) 0 rfl (by kernel_rfl) (by kernel_rfl) (by kernel_rfl) (fun _ _ _ _ h => h) rfl 25 (.tmp 7) rfl bt (0) rfl [.slice ta m tc] _ (fun u' hu => hu.s.t.range) Try.underlying25 rfl (hi1) HSx0.out ?_
    (try simp only [Act.put, List.setIfInBounds_toArray, List.set_cons_zero, List.set_cons_succ])
    refine held_load (oi := ⟨some 33, _, _, _, _, _⟩) 1 rfl (by kernel_rfl) (by kernel_rfl) (by kernel_rfl) (fun _ _ _ _ h => h) rfl 44 (.tmp 8) rfl (bt + 1) (0) rfl [.slice la vs.length lc, .slice ea el ec] _ (fun u' hu => hu.s.x.range) Try.underlying44 rfl (hi2) HSx0.out ?_
    (try simp only [Act.put, List.setIfInBounds_toArray, List.set_cons_zero, List.set_cons_succ])
    refine wpAnyH_take (i := 2) (oi := ⟨some 34, _, _, _, _, _⟩) (v := .slice na bs.length nc) rfl (by kernel_rfl) (by kernel_rfl) (by kernel_rfl) (fun _ _ _ h => h) (Or.inl ⟨by rfl, fun wz hz => ?_⟩) HSx0.out ?_
    · clear hz; go_simp; first | done | with_reducible rfl | rfl
    (try simp only [Act.put, List.setIfInBounds_toArray, List.set_cons_zero, List.set_cons_succ])
    refine held_load (oi := ⟨some 36, _, _, _, _, _⟩) 4 rfl (by kernel_rfl) (by kernel_rfl) (by kernel_rfl) (fun _ _ _ _ h => h) rfl 25 (.tmp 7) rfl bt (0) rfl [.slice ta m tc] _ (fun u' hu => hu.s.t.range) Try.underlying25 rfl (hi1) HSx0.out ?_
    (try simp only [Act.put, List.setIfInBounds_toArray, List.set_cons_zero, List.set_cons_succ])
    refine held_load (oi := ⟨some 37, _, _, _, _, _⟩) 5 rfl (by kernel_rfl) (by kernel_rfl) (by kernel_rfl) (fun _ _ _ _ h => h) rfl 44 (.tmp 10) rfl b2 (0) rfl [.slice la2 vs2.length lc2, .slice ea2 el2 ec2] _ (fun u' hu => hu.x.range) Try.underlying44 rfl (hi2) HSx0.out ?_
    (try simp only [Act.put, List.setIfInBounds_toArray, List.set_cons_zero, List.set_cons_succ])
    refine wpAnyH_take (i := 6) (oi := ⟨some 38, _, _, _, _, _⟩) (v := .slice ca cs.length cc) rfl (by kernel_rfl) (by kernel_rfl) (by kernel_rfl) (fun _ _ _ h => h) (Or.inl ⟨by rfl, fun wz hz => ?_⟩) HSx0.out ?_
    · clear hz; go_simp; first | done | with_reducible rfl | rfl
    (try simp only [Act.put, List.setIfInBounds_toArray, List.set_cons_zero, List.set_cons_succ])
    refine wpAnyH_ready (rs := [3]) (by kernel_rfl) (by simp) ?_
    refine AllReadyH.cons (o := ⟨some 35, _, _, _, _, _⟩) rfl (fun K hK => ?_) AllReadyH.nil
    go_simp
    refine (HD1.out x0 HSx0.out.s).mono ?_
    rintro e x1 ⟨p1, rfl, hn1, hb⟩
    have HN1 := Lib.hid hn1
    clear hn1
    have HC0 := Lib.hid ((⟨HC0.out.1.below hb, HC0.out.2⟩ : NumsV _ _ _))
    have HSx1 : Hid ((fun u => DvA w bt b2 (.slice ta m tc) (.slice la vs.length lc) (.slice ea el ec) (.slice na bs.length nc) (.slice la2 vs2.length lc2) (.slice ea2 el2 ec2) ns vs es bs vs2 es2 u) x1) := HSx0.out.call hb
    clear hb
    refine hK.out _ _ (HSx1.out) (fun _ => ?_)
    clear hK K
    (try simp only [Act.put, List.setIfInBounds_toArray, List.set_cons_zero, List.set_cons_succ])
    refine wpAnyH_ready (rs := [7]) (by kernel_rfl) (by simp) ?_
    refine AllReadyH.cons (o := ⟨some 39, _, _, _, _, _⟩) rfl (fun K hK => ?_) AllReadyH.nil
    go_simp
    refine (HD2.out x1 HSx1.out HC0.out).mono ?_
    rintro e x2 ⟨p2, rfl, hn2, hb⟩
    have HN2 := Lib.hid hn2
    clear hn2
    have HN1 := Lib.hid ((⟨HN1.out.1.below hb, HN1.out.2⟩ : NumsV _ _ _))
    have HC0 := Lib.hid ((⟨HC0.out.1.below hb, HC0.out.2⟩ : NumsV _ _ _))
    have HSx2 : Hid ((fun u => DvA w bt b2 (.slice ta m tc) (.slice la vs.length lc) (.slice ea el ec) (.slice na bs.length nc) (.slice la2 vs2.length lc2) (.slice ea2 el2 ec2) ns vs es bs vs2 es2 u) x2) := HSx1.out.call hb
    clear hb
    refine hK.out _ _ (HSx2.out) (fun _ => ?_)
    clear hK K
    (try simp only [Act.put, List.setIfInBounds_toArray, List.set_cons_zero, List.set_cons_succ])
    refine wpAnyH_ready (rs := [8]) (by kernel_rfl) (by simp) ?_
    refine AllReadyH.cons (o := ⟨some 12, _, _, _, _, _⟩) rfl (fun K hK => ?_) AllReadyH.nil
    go_simp
    refine hK.out _ _ (HSx2.out) (fun _ => ?_)
    clear hK K
    (try simp only [Act.put, List.setIfInBounds_toArray, List.set_cons_zero, List.set_cons_succ])
    refine wpAnyH_ready (rs := [9]) (by kernel_rfl) (by simp) ?_
    refine AllReadyH.cons (o := ⟨some 13, _, _, _, _, _⟩) rfl (fun K hK => ?_) AllReadyH.nil
    go_simp
    refine hK.out _ _ (HSx2.out) (fun _ => ?_)
    clear hK K
    (try simp only [Act.put, List.setIfInBounds_toArray, List.set_cons_zero, List.set_cons_succ])
    refine wpAnyH_done (by kernel_rfl) ?_ _
    go_wp2_with fail
    go_meet
    case rel => exact ⟨p1, p2, rfl, rfl, ⟨HSx2.out.s.t, HSx2.out.s.l.n, HSx2.out.s.l.b⟩, HSx2.out.x, HSx2.out.v, HSx2.out.e, HC0.out, HN1.out, HN2.out⟩
  case rest =>
    obtain ⟨p, q, rfl, rfl, hs⟩ := hcut
    have S3 := Lib.hid hs
    obtain ⟨pa, pc, rfl, _⟩ := NumsV.shapeW hs.p
    obtain ⟨qa, qc, rfl, _⟩ := NumsV.shapeW hs.q
    clear hs SA HC HD1 HD2
    rw [HLX.out] at S3 ⊢
    rw [HLY.out] at S3 ⊢
    have HML : Hid (∀ u, DvS w bt b2 (.slice ta m tc) (.slice la2 vs2.length lc2) (.slice ea2 el2 ec2) (.slice ca cs.length cc) (.slice pa m pc) (.slice qa m qc) ns vs2 es2 cs X Y u → Calls Try.prog 12 #[.agg #[.slice ta m tc], .slice pa m pc, .slice qa m qc] u fun e w' => ∃ v', e = .returned v' ∧ DeltasV w' v' (movK X Y m) ∧ Below u.heap.size u w') := fun u hu => by
      have h := cmov_any (.slice ta m tc) (.slice pa m pc) (.slice qa m qc) ns X Y HNL.out u hu.a.n hu.p hu.q (by rw [HLX.out, hm.out]) (by rw [HLY.out, hm.out])
      rw [hm.out] at h
      exact h
    have HCS := Lib.hid (fun u (hu : AnS w bt (.slice ta m tc) ns u) dv dl hd hl => d_sub HOK.out HNL.out hm.out u hu dv dl hd hl)
    have HCA : Hid (∀ u, AnS w bt (.slice ta m tc) ns u → ∀ wv dv, NumsV u wv (sbtL ns X m) → DeltasV u dv (movK X Y m) → Calls Try.prog 16 #[.agg #[.slice ta m tc], wv, dv] u fun e w' => ∃ v', e = .returned (.tuple #[v', .int .i64 0]) ∧ NumsV w' v' (sbtL ns Y m) ∧ Below u.heap.size u w') := fun u hu wv dv hw hd => by
      have h := capl_any (.slice ta m tc) wv dv ns HOK.out (sbtL ns X m) (movK X Y m) HNL.out u hu.n hw hd
      have e := one_pass (ns := ns) (by rw [hm.out]; omega) HBX.out HBY.out
      rw [hm.out] at e
      rw [e] at h
      exact h
    have HSM := Lib.hid d_same
    have HRS2 : Hid (∀ u tv0 dv, NodesV u tv0 ns → NumsV u dv Y → Calls Try.prog 23 #[.agg #[tv0], dv] u fun e w' => ∃ v', e = .returned v' ∧ NumsV w' v' (sbtL ns Y m) ∧ Below u.heap.size u w') := fun u tv0 dv h1 h2 => HRS.out u tv0 dv Y h1 h2 HLY.out
    obtain ⟨Z, hZ⟩ : ∃ x, sbtL ns Y m = x := ⟨_, rfl⟩
    rw [hZ] at HCA HRS2
    clear hZ HRS
    have HC5 := Lib.hid (S3.out.a.t.cell 0)
    go_upto_region 7 with (first
      | ((with_reducible refine at_load (.tmp 42) ?_); refine wpList_load_1 23 (.tmp 42) rfl bt 0 (.slice ta m tc) HC5.out rfl _ Try.underlying23 rfl rfl ?_)
      | ((with_reducible refine at_load (.tmp 49) ?_); refine wpList_load_1 23 (.tmp 49) rfl bt 0 (.slice ta m tc) HC5.out rfl _ Try.underlying23 rfl rfl ?_))
    obtain ⟨w7, hw7⟩ : ∃ z, wc = z := ⟨_, rfl⟩
    rw [hw7] at S3 HC5 ⊢
    clear hw7 HC5
    go_cut [14, 15] from 54 to 65 (fun wv ev wx => ∃ v, wv = v ∧ ev = .int .i64 0 ∧ NumsV wx v Z ∧ DvS w bt b2 (.slice ta m tc) (.slice la2 vs2.length lc2) (.slice ea2 el2 ec2) (.slice ca cs.length cc) (.slice pa m pc) (.slice qa m qc) ns vs2 es2 cs X Y wx)
    case first =>
      have HSx0 : Hid ((fun u => DvS w bt b2 (.slice ta m tc) (.slice la2 vs2.length lc2) (.slice ea2 el2 ec2) (.slice ca cs.length cc) (.slice pa m pc) (.slice qa m qc) ns vs2 es2 cs X Y u) w7.drew) := S3.out.call (Below.drewN (n := 1) (Below.refl _ _) : Below w7.heap.size w7 w7.drew)
      refine wp_region_held_drew (S := fun u => DvS w bt b2 (.slice ta m tc) (.slice la2 vs2.length lc2) (.slice ea2 el2 ec2) (.slice ca cs.length cc) (.slice pa m pc) (.slice qa m qc) ns vs2 es2 cs X Y u) (by kernel_rfl) (HSx0.out) (fun _ => ?_)
      (try simp only [Act.put, List.setIfInBounds_toArray, List.set_cons_zero, List.set_cons_succ])
      obtain ⟨x0, hx0⟩ : ∃ x, w7.drew = x := ⟨_, rfl⟩
      rw [hx0] at HSx0 ⊢
      clear hx0
      refine held_load (oi := ⟨some 55, _, _, _, _, _⟩) 0 rfl (by kernel_rfl) (by kernel_rfl) (by kernel_rfl) (fun _ _ _ _ h => h) rfl 25 (.tmp 7) rfl bt (0) rfl [.slice ta m tc] _ (fun u' hu => hu.a.t.range) Try.underlying25 rfl (hi1) HSx0.out ?_
      (try simp only [Act.put, List.setIfInBounds_toArray, List.set_cons_zero, List.set_cons_succ])
      refine held_load (oi := ⟨some 56, _, _, _, _, _⟩) 1 rfl (by kernel_rfl) (by kernel_rfl) (by kernel_rfl) (fun _ _ _ _ h => h) rfl 25 (.tmp 7) rfl bt (0) rfl [.slice ta m tc] _ (fun u' hu => hu.a.t.range) Try.underlying25 rfl (hi1) HSx0.out ?_
      (try simp only [Act.put, List.setIfInBounds_toArray, List.set_cons_zero, List.set_cons_succ])
      refine wpAnyH_take (i := 2) (oi := ⟨some 57, _, _, _, _, _⟩) (v := .slice pa m pc) rfl (by kernel_rfl) (by kernel_rfl) (by kernel_rfl) (fun _ _ _ h => h) (Or.inl ⟨by rfl, fun wz hz => ?_⟩) HSx0.out ?_
      · clear hz; go_simp; first | done | with_reducible rfl | rfl
      (try simp only [Act.put, List.setIfInBounds_toArray, List.set_cons_zero, List.set_cons_succ])
      refine held_load (oi := ⟨some 59, _, _, _, _, _⟩) 4 rfl (by kernel_rfl) (by kernel_rfl) (by kernel_rfl) (fun _ _ _ _ h => h) rfl 25 (.tmp 7) rfl bt (0) rfl [.slice ta m tc] _ (fun u' hu => hu.a.t.range) Try.underlying25 rfl (hi1) HSx0.out ?_
      (try simp only [Act.put, List.setIfInBounds_toArray, List.set_cons_zero, List.set_cons_succ])
      refine wpAnyH_take (i := 5) (oi := ⟨some 60, _, _, _, _, _⟩) (v := .slice pa m pc) rfl (by kernel_rfl) (by kernel_rfl) (by kernel_rfl) (fun _ _ _ h => h) (Or.inl ⟨by rfl, fun wz hz => ?_⟩) HSx0.out ?_
      · clear hz; go_simp; first | done | with_reducible rfl | rfl
      (try simp only [Act.put, List.setIfInBounds_toArray, List.set_cons_zero, List.set_cons_succ])
      refine wpAnyH_take (i := 6) (oi := ⟨some 61, _, _, _, _, _⟩) (v := .slice qa m qc) rfl (by kernel_rfl) (by kernel_rfl) (by kernel_rfl) (fun _ _ _ h => h) (Or.inl ⟨by rfl, fun wz hz => ?_⟩) HSx0.out ?_
      · clear hz; go_simp; first | done | with_reducible rfl | rfl
      (try simp only [Act.put, List.setIfInBounds_toArray, List.set_cons_zero, List.set_cons_succ])
      refine wpAnyH_ready (rs := [3]) (by kernel_rfl) (by simp) ?_
      refine AllReadyH.cons (o := ⟨some 58, _, _, _, _, _⟩) rfl (fun K hK => ?_) AllReadyH.nil
      go_simp
      refine (HCS.out x0 HSx0.out.a _ X HSx0.out.p HLX.out).mono ?_
      rintro e x1 ⟨v1, rfl, hn1, hb⟩
      have HN1 := Lib.hid hn1
      clear hn1
      have HSx1 : Hid ((fun u => DvS w bt b2 (.slice ta m tc) (.slice la2 vs2.length lc2) (.slice ea2 el2 ec2) (.slice ca cs.length cc) (.slice pa m pc) (.slice qa m qc) ns vs2 es2 cs X Y u) x1) := HSx0.out.call hb
      clear hb
      refine hK.out _ _ (HSx1.out) (fun _ => ?_)
      clear hK K
      (try simp only [Act.put, List.setIfInBounds_toArray, List.set_cons_zero, List.set_cons_succ])
      refine wpAnyH_ready (rs := [7]) (by kernel_rfl) (by simp) ?_
      refine AllReadyH.cons (o := ⟨some 62, _, _, _, _, _⟩) rfl (fun K hK => ?_) AllReadyH.nil
      go_simp
      refine (HML.out x1 HSx1.out).mono ?_
      rintro e x2 ⟨v2, rfl, hd2, hb⟩
      have HD2 := Lib.hid hd2
      clear hd2
      have HN1 := Lib.hid ((⟨HN1.out.1.below hb, HN1.out.2⟩ : NumsV _ _ _))
      have HSx2 : Hid ((fun u => DvS w bt b2 (.slice ta m tc) (.slice la2 vs2.length lc2) (.slice ea2 el2 ec2) (.slice ca cs.length cc) (.slice pa m pc) (.slice qa m qc) ns vs2 es2 cs X Y u) x2) := HSx1.out.call hb
      clear hb
      refine hK.out _ _ (HSx2.out) (fun _ => ?_)
      clear hK K
      (try simp only [Act.put, List.setIfInBounds_toArray, List.set_cons_zero, List.set_cons_succ])
      refine wpAnyH_ready (rs := [8]) (by kernel_rfl) (by simp) ?_
      refine AllReadyH.cons (o := ⟨some 63, _, _, _, _, _⟩) rfl (fun K hK => ?_) AllReadyH.nil
      go_simp
      refine (HCA.out x2 HSx2.out.a v1 v2 HN1.out HD2.out).mono ?_
      rintro e x3 ⟨v3, rfl, hn3, hb⟩
      have HN3 := Lib.hid hn3
      clear hn3
      have HSx3 : Hid ((fun u => DvS w bt b2 (.slice ta m tc) (.slice la2 vs2.length lc2) (.slice ea2 el2 ec2) (.slice ca cs.length cc) (.slice pa m pc) (.slice qa m qc) ns vs2 es2 cs X Y u) x3) := HSx2.out.call hb
      clear hb
      refine hK.out _ _ (HSx3.out) (fun _ => ?_)
      clear hK K
      (try simp only [Act.put, List.setIfInBounds_toArray, List.set_cons_zero, List.set_cons_succ])
      refine wpAnyH_take (i := 9) (oi := ⟨some 54, _, _, _, _, _⟩) (v := .tuple #[v3, .int .i64 0]) rfl (by kernel_rfl) (by kernel_rfl) (by kernel_rfl) (fun _ _ _ h => h) (Or.inl ⟨by rfl, fun wz hz => ?_⟩) HSx3.out ?_
      · clear hz; go_simp; first | done | with_reducible rfl | rfl
      (try simp only [Act.put, List.setIfInBounds_toArray, List.set_cons_zero, List.set_cons_succ])
      refine wpAnyH_take (i := 10) (oi := ⟨some 64, _, _, _, _, _⟩) (v := v3) rfl (by kernel_rfl) (by kernel_rfl) (by kernel_rfl) (fun _ _ _ h => h) (Or.inl ⟨by rfl, fun wz hz => ?_⟩) HSx3.out ?_
      · clear hz; go_simp; first | done | with_reducible rfl | rfl
      (try simp only [Act.put, List.setIfInBounds_toArray, List.set_cons_zero, List.set_cons_succ])
      refine wpAnyH_take (i := 11) (oi := ⟨some 65, _, _, _, _, _⟩) (v := .int .i64 0) rfl (by kernel_rfl) (by kernel_rfl) (by kernel_rfl) (fun _ _ _ h => h) (Or.inl ⟨by rfl, fun wz hz => ?_⟩) HSx3.out ?_
      · clear hz; go_simp; first | done | with_reducible rfl | rfl
      (try simp only [Act.put, List.setIfInBounds_toArray, List.set_cons_zero, List.set_cons_succ])
      refine wpAnyH_ready (rs := [12]) (by kernel_rfl) (by simp) ?_
      refine AllReadyH.cons (o := ⟨some 14, _, _, _, _, _⟩) rfl (fun K hK => ?_) AllReadyH.nil
      go_simp
      refine hK.out _ _ (HSx3.out) (fun _ => ?_)
      clear hK K
      (try simp only [Act.put, List.setIfInBounds_toArray, List.set_cons_zero, List.set_cons_succ])
      refine wpAnyH_ready (rs := [13]) (by kernel_rfl) (by simp) ?_
      refine AllReadyH.cons (o := ⟨some 15, _, _, _, _, _⟩) rfl (fun K hK => ?_) AllReadyH.nil
      go_simp
      refine hK.out _ _ (HSx3.out) (fun _ => ?_)
      clear hK K
      (try simp only [Act.put, List.setIfInBounds_toArray, List.set_cons_zero, List.set_cons_succ])
      refine wpAnyH_done (by kernel_rfl) ?_ _
      go_wp2_with fail
      go_meet
      case rel => exact ⟨v3, rfl, rfl, HN3.out, HSx3.out⟩
    case rest =>
      obtain ⟨v, rfl, rfl, hn, hs⟩ := hcut
      obtain ⟨ga, gc, rfl, _⟩ := NumsV.shapeW hn
      have HN4 := Lib.hid hn
      have S4 := Lib.hid hs
      clear hn hs S3
      obtain ⟨w8, hw8⟩ : ∃ z, wc = z := ⟨_, rfl⟩
      rw [hw8] at S4 HN4 ⊢
      clear hw8
      go_upto_region 8 with fail
      have HSx0 : Hid ((fun u => DvS w bt b2 (.slice ta m tc) (.slice la2 vs2.length lc2) (.slice ea2 el2 ec2) (.slice ca cs.length cc) (.slice pa m pc) (.slice qa m qc) ns vs2 es2 cs X Y u) w8.drew) := S4.out.call (Below.drewN (n := 1) (Below.refl _ _) : Below w8.heap.size w8 w8.drew)
      refine wp_region_held_drew (S := fun u => DvS w bt b2 (.slice ta m tc) (.slice la2 vs2.length lc2) (.slice ea2 el2 ec2) (.slice ca cs.length cc) (.slice pa m pc) (.slice qa m qc) ns vs2 es2 cs X Y u) (by kernel_rfl) (HSx0.out) (fun _ => ?_)
      (try simp only [Act.put, List.setIfInBounds_toArray, List.set_cons_zero, List.set_cons_succ])
      have HN0 : Hid (NumsV w8.drew (.slice ga Z.length gc) Z) := ⟨HN4.out.1.below (below_drew w8), HN4.out.2⟩
      obtain ⟨x0, hx0⟩ : ∃ x, w8.drew = x := ⟨_, rfl⟩
      rw [hx0] at HSx0 HN0 ⊢
      clear hx0
      refine wpAnyH_take (i := 0) (oi := ⟨some 66, _, _, _, _, _⟩) (v := .int .i64 0) rfl (by kernel_rfl) (by kernel_rfl) (by kernel_rfl) (fun _ _ _ h => h) (Or.inl ⟨by rfl, fun wz hz => ?_⟩) HSx0.out ?_
      · clear hz; go_simp; first | done | with_reducible rfl | rfl
      (try simp only [Act.put, List.setIfInBounds_toArray, List.set_cons_zero, List.set_cons_succ])
      refine wpAnyH_take (i := 1) (oi := ⟨some 67, _, _, _, _, _⟩) (v := .bool true) rfl (by kernel_rfl) (by kernel_rfl) (by kernel_rfl) (fun _ _ _ h => h) (Or.inl ⟨by rfl, fun wz hz => ?_⟩) HSx0.out ?_
      · clear hz; go_simp; first | done | with_reducible rfl | rfl
      (try simp only [Act.put, List.setIfInBounds_toArray, List.set_cons_zero, List.set_cons_succ])
      refine wpAnyH_take (i := 2) (oi := ⟨some 68, _, _, _, _, _⟩) (v := .bool true) rfl (by kernel_rfl) (by kernel_rfl) (by kernel_rfl) (fun _ _ _ h => h) (Or.inl ⟨by rfl, fun wz hz => ?_⟩) HSx0.out ?_
      · clear hz; go_simp; first | done | with_reducible rfl | rfl
      (try simp only [Act.put, List.setIfInBounds_toArray, List.set_cons_zero, List.set_cons_succ])
      refine wpAnyH_take (i := 3) (oi := ⟨some 69, _, _, _, _, _⟩) (v := .slice ga Z.length gc) rfl (by kernel_rfl) (by kernel_rfl) (by kernel_rfl) (fun _ _ _ h => h) (Or.inl ⟨by rfl, fun wz hz => ?_⟩) HSx0.out ?_
      · clear hz; go_simp; first | done | with_reducible rfl | rfl
      (try simp only [Act.put, List.setIfInBounds_toArray, List.set_cons_zero, List.set_cons_succ])
      refine held_load (oi := ⟨some 70, _, _, _, _, _⟩) 4 rfl (by kernel_rfl) (by kernel_rfl) (by kernel_rfl) (fun _ _ _ _ h => h) rfl 25 (.tmp 7) rfl bt (0) rfl [.slice ta m tc] _ (fun u' hu => hu.a.t.range) Try.underlying25 rfl (hi1) HSx0.out ?_
      (try simp only [Act.put, List.setIfInBounds_toArray, List.set_cons_zero, List.set_cons_succ])
      refine held_load (oi := ⟨some 71, _, _, _, _, _⟩) 5 rfl (by kernel_rfl) (by kernel_rfl) (by kernel_rfl) (fun _ _ _ _ h => h) rfl 25 (.tmp 7) rfl bt (0) rfl [.slice ta m tc] _ (fun u' hu => hu.a.t.range) Try.underlying25 rfl (hi1) HSx0.out ?_
      (try simp only [Act.put, List.setIfInBounds_toArray, List.set_cons_zero, List.set_cons_succ])
      refine held_load (oi := ⟨some 72, _, _, _, _, _⟩) 6 rfl (by kernel_rfl) (by kernel_rfl) (by kernel_rfl) (fun _ _ _ _ h => h) rfl 44 (.tmp 10) rfl b2 (0) rfl [.slice la2 vs2.length lc2, .slice ea2 el2 ec2] _ (fun u' hu => hu.x.range) Try.underlying44 rfl (hi2) HSx0.out ?_
      (try simp only [Act.put, List.setIfInBounds_toArray, List.set_cons_zero, List.set_cons_succ])
      refine wpAnyH_take (i := 7) (oi := ⟨some 73, _, _, _, _, _⟩) (v := .slice ca cs.length cc) rfl (by kernel_rfl) (by kernel_rfl) (by kernel_rfl) (fun _ _ _ h => h) (Or.inl ⟨by rfl, fun wz hz => ?_⟩) HSx0.out ?_
      · clear hz; go_simp; first | done | with_reducible rfl | rfl
      (try simp only [Act.put, List.setIfInBounds_toArray, List.set_cons_zero, List.set_cons_succ])
      refine wpAnyH_ready (rs := [8]) (by kernel_rfl) (by simp) ?_
      refine AllReadyH.cons (o := ⟨some 74, _, _, _, _, _⟩) rfl (fun K hK => ?_) AllReadyH.nil
      go_simp
      refine (HRD.out x0 _ HSx0.out.a.n HSx0.out.v HSx0.out.e HSx0.out.c).mono ?_
      rintro e x1 ⟨d1, rfl, hn1, hb⟩
      have HN1 := Lib.hid hn1
      clear hn1
      have HN0 := Lib.hid ((⟨HN0.out.1.below hb, HN0.out.2⟩ : NumsV _ _ _))
      have HSx1 : Hid ((fun u => DvS w bt b2 (.slice ta m tc) (.slice la2 vs2.length lc2) (.slice ea2 el2 ec2) (.slice ca cs.length cc) (.slice pa m pc) (.slice qa m qc) ns vs2 es2 cs X Y u) x1) := HSx0.out.call hb
      clear hb
      refine hK.out _ _ (HSx1.out) (fun _ => ?_)
      clear hK K
      (try simp only [Act.put, List.setIfInBounds_toArray, List.set_cons_zero, List.set_cons_succ])
      refine wpAnyH_ready (rs := [9]) (by kernel_rfl) (by simp) ?_
      refine AllReadyH.cons (o := ⟨some 75, _, _, _, _, _⟩) rfl (fun K hK => ?_) AllReadyH.nil
      go_simp
      refine (HRS2.out x1 _ d1 HSx1.out.a.n HN1.out).mono ?_
      rintro e x2 ⟨d2, rfl, hn2, hb⟩
      have HN2 := Lib.hid hn2
      clear hn2
      have HN0 := Lib.hid ((⟨HN0.out.1.below hb, HN0.out.2⟩ : NumsV _ _ _))
      have HSx2 : Hid ((fun u => DvS w bt b2 (.slice ta m tc) (.slice la2 vs2.length lc2) (.slice ea2 el2 ec2) (.slice ca cs.length cc) (.slice pa m pc) (.slice qa m qc) ns vs2 es2 cs X Y u) x2) := HSx1.out.call hb
      clear hb
      refine hK.out _ _ (HSx2.out) (fun _ => ?_)
      clear hK K
      (try simp only [Act.put, List.setIfInBounds_toArray, List.set_cons_zero, List.set_cons_succ])
      refine wpAnyH_ready (rs := [10]) (by kernel_rfl) (by simp) ?_
      refine AllReadyH.cons (o := ⟨some 76, _, _, _, _, _⟩) rfl (fun K hK => ?_) AllReadyH.nil
      go_simp
      refine (HSM.out _ _ Z x2 HN0.out HN2.out).mono ?_
      rintro e x3 ⟨rfl, hb⟩
      have HSx3 : Hid ((fun u => DvS w bt b2 (.slice ta m tc) (.slice la2 vs2.length lc2) (.slice ea2 el2 ec2) (.slice ca cs.length cc) (.slice pa m pc) (.slice qa m qc) ns vs2 es2 cs X Y u) x3) := HSx2.out.call hb
      clear hb
      refine hK.out _ _ (HSx3.out) (fun _ => ?_)
      clear hK K
      (try simp only [Act.put, List.setIfInBounds_toArray, List.set_cons_zero, List.set_cons_succ])
      refine wpAnyH_take (i := 11) (oi := ⟨some 77, _, _, _, _, _⟩) (v := .bool true) rfl (by kernel_rfl) (by kernel_rfl) (by kernel_rfl) (fun _ _ _ h => h) (Or.inl ⟨by rfl, fun wz hz => ?_⟩) HSx3.out ?_
      · clear hz; go_simp; first | done | with_reducible rfl | rfl
      (try simp only [Act.put, List.setIfInBounds_toArray, List.set_cons_zero, List.set_cons_succ])
      refine wpAnyH_take (i := 12) (oi := ⟨some 78, _, _, _, _, _⟩) (v := .bool true) rfl (by kernel_rfl) (by kernel_rfl) (by kernel_rfl) (fun _ _ _ h => h) (Or.inl ⟨by rfl, fun wz hz => ?_⟩) HSx3.out ?_
      · clear hz; go_simp; first | done | with_reducible rfl | rfl
      (try simp only [Act.put, List.setIfInBounds_toArray, List.set_cons_zero, List.set_cons_succ])
      refine wpAnyH_ready (rs := [13]) (by kernel_rfl) (by simp) ?_
      refine AllReadyH.cons (o := ⟨some 79, _, _, _, _, _⟩) rfl (fun K hK => ?_) AllReadyH.nil
      go_simp
      refine (HAW.out x3).mono ?_
      rintro e x4 ⟨rfl, hb⟩
      have HSx4 : Hid ((fun u => DvS w bt b2 (.slice ta m tc) (.slice la2 vs2.length lc2) (.slice ea2 el2 ec2) (.slice ca cs.length cc) (.slice pa m pc) (.slice qa m qc) ns vs2 es2 cs X Y u) x4) := HSx3.out.call hb
      clear hb
      refine hK.out _ _ (HSx4.out) (fun _ => ?_)
      clear hK K
      (try simp only [Act.put, List.setIfInBounds_toArray, List.set_cons_zero, List.set_cons_succ])
      refine wpAnyH_take (i := 14) (oi := ⟨some 80, _, _, _, _, _⟩) (v := .bool true) rfl (by kernel_rfl) (by kernel_rfl) (by kernel_rfl) (fun _ _ _ h => h) (Or.inl ⟨by rfl, fun wz hz => ?_⟩) HSx4.out ?_
      · clear hz; go_simp; first | done | with_reducible rfl | rfl
      (try simp only [Act.put, List.setIfInBounds_toArray, List.set_cons_zero, List.set_cons_succ])
      refine wpAnyH_ready (rs := [15]) (by kernel_rfl) (by simp) ?_
      refine AllReadyH.cons (o := ⟨some 6, _, _, _, _, _⟩) rfl (fun K hK => ?_) AllReadyH.nil
      go_simp
      refine hK.out _ _ (HSx4.out) (fun _ => ?_)
      clear hK K
      (try simp only [Act.put, List.setIfInBounds_toArray, List.set_cons_zero, List.set_cons_succ])
      refine wpAnyH_done (by kernel_rfl) ?_ _
      go_wp2_with fail
      go_ret
      exact ⟨rfl, HSx4.out.a.b⟩
end

end Go.Proofs.Ytdlbobpglgjhiaa
