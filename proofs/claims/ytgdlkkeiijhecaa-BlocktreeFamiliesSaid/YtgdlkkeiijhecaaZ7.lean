/- Several texts as one: L11f. -/
import Derived.Test.YtgdlkkeiijhecaaZ6
namespace Go.Proofs.Ytgdlkkeiijhecaa

/-! L11f -/
section
set_option linter.unusedVariables false
set_option linter.unusedSimpArgs false
open Go.RowKit

set_option maxRecDepth 100000
/-! ### Lists of indexes -/

theorem selK_asc (p : Nat → Bool) : ∀ k, (selK p k).Pairwise (· < ·)
  | 0 => List.Pairwise.nil
  | k + 1 => by
    cases h : p k
    · rw [selK_no h]; exact selK_asc p k
    · rw [selK_yes h, List.pairwise_append]
      refine ⟨selK_asc p k, List.pairwise_singleton _ _, fun x hx y hy => ?_⟩
      rw [List.mem_singleton.1 hy]
      exact (selK_rng p k x hx).2

theorem selK_ext (p : Nat → Bool) {k : Nat} : ∀ {m}, k ≤ m → ∃ r, selK p m = selK p k ++ r
  | 0, h => by
    obtain rfl : k = 0 := by omega
    exact ⟨[], by simp⟩
  | m + 1, h => by
    by_cases e : k = m + 1
    · subst e; exact ⟨[], by simp⟩
    · obtain ⟨r, hr⟩ := selK_ext p (k := k) (m := m) (by omega)
      cases hm : p m
      · exact ⟨r, by rw [selK_no hm, hr]⟩
      · exact ⟨r ++ [(m : Int)], by rw [selK_yes hm, hr, List.append_assoc]⟩

theorem selK_here {p : Nat → Bool} {k m : Nat} (h : p k = true) (hk : k < m) : ∃ r, selK p m = selK p k ++ (k : Int) :: r := by
  obtain ⟨r, hr⟩ := selK_ext p (k := k + 1) (m := m) (by omega)
  exact ⟨r, by rw [hr, selK_yes h, List.append_assoc]; rfl⟩

theorem selK_get {p : Nat → Bool} {k m : Nat} (h : p k = true) (hk : k < m) : (selK p k).length < (selK p m).length ∧ (selK p m).getD (selK p k).length 0 = (k : Int) := by
  obtain ⟨r, hr⟩ := selK_here h hk
  rw [hr]
  refine ⟨by simp, ?_⟩
  simp [List.getD]

theorem child_mem {ns : List NdD} {i x : Nat} (hi : i < ns.length) (hx : x < ns.length) : (x : Int) ∈ childN ns (i : Int) ↔ upI ns x = (i : Int) := by
  unfold childN
  rw [if_pos (by omega), selK_mem]
  constructor
  · rintro ⟨j, _, e, h⟩
    obtain rfl : x = j := by omega
    simpa using h
  · intro h
    exact ⟨x, hx, rfl, by simpa using h⟩

theorem child_asc (ns : List NdD) (i : Int) : (childN ns i).Pairwise (· < ·) := by
  unfold childN
  split
  · exact selK_asc _ _
  · exact List.Pairwise.nil

/-- How often each node has been seen, when the children of the nodes below i and q children of node i have been counted. -/
def snF (ns : List NdD) (i q x : Nat) : Int := if (0 ≤ upI ns x ∧ upI ns x < i) ∨ (x : Int) ∈ (childN ns (i : Int)).take q then 1 else 0

def snL (ns : List NdD) (m i q : Nat) : List Int := (List.range m).map (snF ns i q)

theorem snL_len (ns : List NdD) (m i q : Nat) : (snL ns m i q).length = m := by simp [snL]

theorem snL_at (ns : List NdD) {m i q x : Nat} (h : x < m) : (snL ns m i q).getD x 0 = snF ns i q x := by simp [snL, List.getD, h]

theorem snL_zero (ns : List NdD) (m : Nat) : List.replicate m (0 : Int) = snL ns m 0 0 := by
  apply List.ext_getElem (by simp [snL_len])
  intro j h1 h2
  have hj : j < m := by simpa using h1
  have : snF ns 0 0 j = 0 := by unfold snF; rw [if_neg]; simp
  simp [snL, this]

theorem snL_next {ns : List NdD} {i : Nat} (hi : i < ns.length) : snL ns ns.length i (childN ns (i : Int)).length = snL ns ns.length (i + 1) 0 := by
  refine List.map_congr_left fun x hx => ?_
  have hx' := List.mem_range.1 hx
  unfold snF
  rw [List.take_length]
  have h := child_mem hi hx'
  by_cases e : upI ns x = (i : Int)
  · rw [if_pos (.inr (h.2 e)), if_pos (.inl (by omega))]
  · by_cases e2 : 0 ≤ upI ns x ∧ upI ns x < i
    · rw [if_pos (.inl e2), if_pos (.inl (by omega))]
    · rw [if_neg, if_neg]
      · rintro (h1 | h1)
        · omega
        · simp at h1
      · rintro (h1 | h1)
        · exact e2 h1
        · exact e (h.1 h1)

/-- The next child. -/
theorem child_at {ns : List NdD} {i q : Nat} (hi : i < ns.length) (hq : q < (childN ns (i : Int)).length) : ∃ x : Nat, x < ns.length ∧ (childN ns (i : Int)).getD q 0 = (x : Int) ∧ upI ns x = (i : Int) ∧ snF ns i q x = 0 ∧ (snL ns ns.length i q).set x 1 = snL ns ns.length i (q + 1) := by
  have hmem : (childN ns (i : Int))[q] ∈ childN ns (i : Int) := List.getElem_mem _
  obtain ⟨h0, h1⟩ := child_rng ns (i : Int) _ hmem
  obtain ⟨x, hx⟩ : ∃ x : Nat, (childN ns (i : Int))[q] = (x : Int) := ⟨((childN ns (i : Int))[q]).toNat, by omega⟩
  have hxn : x < ns.length := by omega
  rw [hx] at hmem
  have hu := (child_mem hi hxn).1 hmem
  have hnot : (x : Int) ∉ (childN ns (i : Int)).take q := by
    intro h
    obtain ⟨j, hj, e⟩ := List.mem_iff_getElem.1 h
    have hj' : j < q := by rw [List.length_take] at hj; omega
    rw [List.getElem_take] at e
    have := List.pairwise_iff_getElem.1 (child_asc ns (i : Int)) j q (by omega) hq hj'
    omega
  refine ⟨x, hxn, by rw [List.getD, List.getElem?_eq_getElem hq, hx]; rfl, hu, ?_, ?_⟩
  · unfold snF
    rw [if_neg]
    rintro (h | h)
    · omega
    · exact hnot h
  · apply List.ext_getElem (by simp [snL_len])
    intro j h1 h2
    have hj : j < ns.length := by simpa [snL_len] using h2
    rw [List.getElem_set]
    have e2 : (snL ns ns.length i (q + 1))[j] = snF ns i (q + 1) j := by simp [snL]
    have e1 : (snL ns ns.length i q)[j]'(by simpa [snL_len] using hj) = snF ns i q j := by simp [snL]
    rw [e1, e2]
    have ht : (childN ns (i : Int)).take (q + 1) = (childN ns (i : Int)).take q ++ [(x : Int)] := by rw [List.take_succ_eq_append_getElem hq, hx]
    unfold snF
    rw [ht]
    by_cases e : x = j
    · subst e
      rw [if_pos rfl, if_pos (.inr (by simp))]
    · rw [if_neg e]
      have : ((j : Int) ∈ (childN ns (i : Int)).take q ++ [(x : Int)]) ↔ (j : Int) ∈ (childN ns (i : Int)).take q := by
        rw [List.mem_append, List.mem_singleton]
        exact ⟨fun h => h.resolve_right (by omega), .inl⟩
      simp only [this]

/-- What holds of a child. -/
theorem child_ok {ns : List NdD} (h : TrOK ns) {i x : Nat} (hi : i < ns.length) (hx : x < ns.length) (hu : upI ns x = (i : Int)) : i < x ∧ (pathN ns (x : Int)).length = (pathN ns (i : Int)).length + 1 ∧ ns[x].b.parent = ns[i].b.root := by
  rw [upI_at hx] at hu
  have h0 : 0 < x := by
    rcases Nat.eq_zero_or_pos x with e | e
    · subst e; have := h.root hx; omega
    · exact e
  obtain ⟨u, hun, h1, h2, h3, _⟩ := h.up x hx h0
  obtain rfl : u = i := by omega
  obtain ⟨k1, k2, k3⟩ := h.upAt hx h0
  refine ⟨h1, ?_, h3⟩
  rw [pathN_step h hx h0, show (upAt ns x : Int) = (u : Int) by omega, List.length_append]
  rfl

theorem seen_min {ns : List NdD} (h : TrOK ns) {x : Nat} (hx : x < ns.length) : snF ns ns.length 0 x = if x = 0 then 0 else 1 := by
  unfold snF
  rw [upI_at hx]
  by_cases e : x = 0
  · subst e
    have := h.root hx
    rw [if_neg, if_pos rfl]
    rintro (h1 | h1)
    · omega
    · simp at h1
  · obtain ⟨u, hun, h1, h2, _⟩ := h.up x hx (by omega)
    rw [if_pos (.inl (by omega)), if_neg e]

theorem wpList_make_num {ops : Array Oper} {rest : List Oper} {o : Oper} {a : Act} {w : World} {Q : Exit → Act → World → Prop} (hg : o.guard = none) (l : Operand) (hop : o.op = Op.makeSlice 29 l l)
    (kl : IntKind) (n : Nat) (hl : a.eval l = .int kl (n : Int)) (hn : n ≤ 1000000)
    (hK : ∀ w', Below w.heap.size w w' → RowB w' w.heap.size (numL .i64 (List.replicate n 0)) → wpList Try.prog ops Q rest (a.put o.dst (.slice (some ⟨w.heap.size, 0, none⟩) n n)) w') : wpList Try.prog ops Q (o :: rest) a w := by
  obtain ⟨i0, hi0, hz0, hz1, hz2⟩ := info_parts info_int
  refine wpList_plain hg fun _ hK' => ?_
  have hr := run_make (P := Try.prog) w 29 3 i0 (.int .i64 0) Try.underlying29 hi0 hz0 kl kl n n (by omega) (by omega) (by rw [hz2]; omega) (by omega)
  simp only [Int.toNat_natCast, hz1, Nat.mul_one] at hr
  have hm : madeCells (Value.int .i64 0).cells n = flatP (numL .i64 (List.replicate n 0) ++ [[]]) := by
    apply Array.toList_inj.1
    rw [show (Value.int .i64 0).cells = #[Value.int .i64 0] from rfl, toList_madeCells_one]
    unfold flatP
    rw [List.flatten_append, numL_flat]
    simp
  rw [hm] at hr
  unfold Oper.wp
  simp only [execOp, hop, hl, Sem.run_bind, hr, Result.andThen, Sem.run_pure]
  exact hK' _ _ (hK _ ((Below.refl _ w).alloc (Nat.le_refl _) _) ⟨[], Blk.new rfl⟩)

/-- The tree's variable, the counts, the leaves. -/
structure FmS (w : World) (bt g : Nat) (s lv : Value) (ns : List NdD) (V xs : List Int) (u : World) : Prop where
  t : TvS w bt s ns u
  r : RowB u g (numL .i64 xs)
  l : IntsV u lv V
  lt : w.heap.size ≤ bt ∧ bt < g
  o1 : Off g s
  o2 : Off g lv

theorem FmS.call {w u u' : World} {bt g : Nat} {s lv : Value} {ns : List NdD} {V xs : List Int} (h : FmS w bt g s lv ns V xs u) (hb : Below u.heap.size u u') : FmS w bt g s lv ns V xs u' := ⟨h.t.call hb, h.r.call hb, h.l.below hb, h.lt, h.o1, h.o2⟩

theorem FmS.upd {w u u' : World} {bt g : Nat} {s lv : Value} {ns : List NdD} {V xs ys : List Int} (h : FmS w bt g s lv ns V xs u) (U : Upd g u u') (hr : RowB u' g (numL .i64 ys)) : FmS w bt g s lv ns V ys u' :=
  ⟨⟨U.blk h.t.t (by have := h.lt; omega), h.t.n.grownOff (upd_grown U) h.o1, U.below h.t.b (by have := h.lt; omega)⟩, hr, ⟨h.l.1.grownOff (upd_grown U) (fun g' e => by cases e; exact h.o2), h.l.2⟩, h.lt, h.o1, h.o2⟩

def FmI (w : World) (bt g : Nat) (s lv : Value) (ns : List NdD) (m : Nat) (p : Nat → Bool) (n i : Value) (u : World) : Prop :=
  ∃ k : Nat, k ≤ m ∧ i = .int .i64 k ∧ n = .int .i64 ((selK p k).length : Nat) ∧ FmS w bt g s lv ns (selK p m) (snL ns m k 0) u

def FmJ (w : World) (bt g : Nat) (s lv cv : Value) (ns : List NdD) (V C : List Int) (m k : Nat) (q : Value) (u : World) : Prop :=
  ∃ j : Nat, j ≤ C.length ∧ q = .int .i64 j ∧ FmS w bt g s lv ns V (snL ns m k j) u ∧ IntsV u cv C ∧ Off g cv

def FmK (w : World) (bt g : Nat) (s lv : Value) (ns : List NdD) (V xs : List Int) (m : Nat) (i : Value) (u : World) : Prop :=
  ∃ k : Nat, k ≤ m ∧ i = .int .i64 k ∧ FmS w bt g s lv ns V xs u

set_option maxHeartbeats 32000000 in
theorem walk_BlocktreeFamilies (a0 : Option Addr) (len0 cap0 : Nat) (z0 : List Int) (w : World) (w0 : IsRow .i64 w a0 len0 cap0 z0) :
    Calls Try.prog 7 #[.slice a0 len0 cap0] w fun e w' => e = .returned (.bool true) ∧ Below w.heap.size w w' := by
  have HTR := Lib.hid (fun u (hu : Below w.heap.size w u) => tree_any (.slice a0 len0 cap0) _ u ((rowInts w0).below hu))
  have HAW := Lib.hid awake11_any
  have hi1 : (Try.prog.info? 24).map (·.size) = some 1 := by kernel_rfl
  obtain ⟨hz1, hst1⟩ := zero_array (P := Try.prog) (t := 24) (n := 1) #[.slice none 0 0] (by kernel_rfl) rfl (by kernel_rfl)
  clear w0 hst1
  go_enter Try.func7, Try.ntmps7
  go_upto_region 2 with (first
    | (go_at_call 12; refine (HTR.out _ (Below.refl _ _)).mono ?_; rintro e w1 ⟨v1, ns, rfl, hn1, hc1, hok, hl9, hb1⟩; obtain ⟨va, vc, rfl, _⟩ := hn1.shape; have HN1 := Lib.hid hn1; have HOK := Lib.hid hok; have HL9 := Lib.hid hl9; have HB1 := Lib.hid hb1; clear hn1 hc1 hok hl9 hb1)
    | ((with_reducible refine at_store (.tmp 3) ?_); refine wpList_store_blk rfl 24 (.tmp 3) _ rfl w1.heap.size #[.slice va ns.length vc] rfl rfl #[.slice none 0 0] (Blk.new rfl) rfl hi1 (by simp [Value.oneCell']) ?_; intro w2 U2 B2; have hb2 := U2.below ((Below.refl w1.heap.size w1).alloc (Nat.le_refl _) (.cells #[.slice none 0 0] 24)) (Nat.le_refl _); have S2 : Hid (TvS w w1.heap.size (.slice va ns.length vc) ns w2) := ⟨B2, HN1.out.call hb2, HB1.out.trans (hb2.mono HB1.out.size)⟩; clear U2 B2 hb2))
  have HBT : Hid (w.heap.size ≤ w1.heap.size) := HB1.out.size
  obtain ⟨bt, hbt⟩ : ∃ x, w1.heap.size = x := ⟨_, rfl⟩
  rw [hbt] at S2 HBT ⊢
  have hnl : ns.length ≤ 100000 := by have := HL9.out; omega
  have HNL := Lib.hid hnl
  have HCL := Lib.hid (fun (k : Int) => childN_len ns k)
  have HSC := Lib.hid (fun (k : Int) u (hu : NodesV u (.slice va ns.length vc) ns) => cchild_any ns k (.slice va ns.length vc) u hu HNL.out)
  have HLC := Lib.hid (fun u (hu : NodesV u (.slice va ns.length vc) ns) => cleaves_any ns (.slice va ns.length vc) u hu HNL.out)
  have HDP := Lib.hid (fun (k : Int) (hk : -9223372036854775808 ≤ k ∧ k ≤ 9223372036854775807) u (hu : NodesV u (.slice va ns.length vc) ns) => cdepth_any ns HOK.out HNL.out k hk (.slice va ns.length vc) u hu)
  have HLF : Hid (leafN ns = selK (fun k => decide ((childN ns (k : Int)).length = 0)) ns.length) := rfl
  obtain ⟨p, hp⟩ : ∃ p : Nat → Bool, (fun (k : Nat) => decide ((childN ns (k : Int)).length = 0)) = p := ⟨_, rfl⟩
  have HPP : Hid (∀ k : Nat, decide ((childN ns (k : Int)).length = 0) = p k) := fun k => by rw [← hp]
  rw [hp] at HLF
  rw [HLF.out] at HLC
  obtain ⟨m, hm⟩ : ∃ m, Hid (ns.length = m) := ⟨_, Lib.hid rfl⟩
  rw [hm.out] at S2 HL9 HSC HLC HDP HCL ⊢
  have hm9 : m ≤ 9 := HL9.out
  have HSL := Lib.hid (fun k => selK_len p k)
  clear hbt HN1 HB1 hnl hp HLF
  (try simp only [Act.put])
  go_wp2_with (first
    | ((with_reducible refine at_load (.tmp 13) ?_); refine wpList_load_1 22 (.tmp 13) rfl bt 0 (.slice va m vc) (S2.out.t.cell 0) rfl _ Try.underlying22 rfl rfl ?_)
    | ((with_reducible refine at_makeEl (.tmp 15) ?_); refine wpList_make_num rfl (.tmp 15) rfl .i64 m rfl (by omega) ?_; intro w3 hb3 hr3; have S3 := Lib.hid (S2.out.call hb3); have HO3 := Lib.hid (S2.out.n.off (Nat.le_refl _)); have HR3 := Lib.hid hr3; have HG3 := Lib.hid S2.out.t.lt; clear hb3 hr3)
    | ((with_reducible refine at_load (.tmp 3) ?_); refine wpList_load_g 24 (.tmp 3) rfl bt rfl #[.slice va m vc] _ S3.out.t Try.underlying24 rfl hi1 rfl ?_)
    | (go_at_call 24; refine (HLC.out _ S3.out.n).mono ?_; rintro e w4 ⟨v4, rfl, ho4, hb4⟩; obtain ⟨la, lc, rfl, _⟩ := ho4.cap; have HI4 : Hid (IntsV w4 (.slice la (selK p m).length lc) (selK p m)) := ⟨ho4.ints (by have := HSL.out m; unfold maxLen; omega), fun x hx => by have := selK_rng p m x hx; omega⟩; have HO4 := Lib.hid (ho4.new.off HR3.out.lt); have S4 : Hid (FmS w bt w2.heap.size (.slice va m vc) (.slice la (selK p m).length lc) ns (selK p m) (snL ns m 0 0) w4) := ⟨S3.out.call hb4, by rw [← snL_zero]; exact HR3.out.call hb4, HI4.out, ⟨HBT.out, HG3.out⟩, HO3.out, HO4.out⟩; clear ho4 hb4))
  obtain ⟨g, hg⟩ : ∃ x, w2.heap.size = x := ⟨_, rfl⟩
  rw [hg] at S4 ⊢
  clear hg S2 S3 HO3 HR3 HG3 HI4 HO4
  (try simp only [Act.put])
  go_loopw [6, 7] (fun n i wr => FmI w bt g (.slice va m vc) (.slice la (selK p m).length lc) ns m p n i wr) (fun _ i _ => m - (intOf i).toNat)
  case atStart => exact ⟨0, Nat.zero_le _, rfl, rfl, S4.out⟩
  case round =>
    obtain ⟨k, hk, rfl, rfl, hs⟩ := hrel
    have S5 := Lib.hid hs
    clear hs S4
    by_cases hlt : k < m
    case pos =>
      have hlt' : (k : Int) < m := by omega
      have hkn : k < ns.length := by rw [hm.out]; exact hlt
      have H1 := Lib.hid (HSC.out (k : Int) wr S5.out.t.n)
      have hcl := HCL.out (k : Int)
      have hcr := child_rng ns (k : Int)
      have HNX := Lib.hid (snL_next hkn)
      rw [hm.out] at hcr HNX
      have HCA : Hid (∀ q, q < (childN ns (k : Int)).length → ∃ x : Nat, x < ns.length ∧ (childN ns (k : Int)).getD q 0 = (x : Int) ∧ upI ns x = (k : Int) ∧ snF ns k q x = 0 ∧ (snL ns ns.length k q).set x 1 = snL ns ns.length k (q + 1)) := fun q hq => child_at hkn hq
      have hpk := HPP.out k
      obtain ⟨C, hC⟩ : ∃ C, childN ns (k : Int) = C := ⟨_, rfl⟩
      rw [hC] at H1 hcl hcr HNX HCA hpk
      have HCR := Lib.hid hcr
      clear hcr hC
      go_wp2_with (first
        | ((with_reducible refine at_load (.tmp 20) ?_); refine wpList_load_1 22 (.tmp 20) rfl bt 0 (.slice va m vc) (S5.out.t.t.cell 0) rfl _ Try.underlying22 rfl rfl ?_)
        | ((with_reducible refine at_load (.tmp 3) ?_); refine wpList_load_g 24 (.tmp 3) rfl bt rfl #[.slice va m vc] _ S5.out.t.t Try.underlying24 rfl hi1 rfl ?_)
        | (go_at_call 18; refine H1.out.mono ?_; rintro e w6 ⟨v6, rfl, ho6, hb6⟩; obtain ⟨ca, cc, rfl, _⟩ := ho6.cap; have HI6 : Hid (IntsV w6 (.slice ca C.length cc) C) := ⟨ho6.ints (by unfold maxLen; omega), fun x hx => by have := HCR.out x hx; omega⟩; have HO6 := Lib.hid (ho6.new.off S5.out.r.lt); have S6 := Lib.hid (S5.out.call hb6); clear ho6 hb6))
      go_loopw [9] (fun q wr => FmJ w bt g (.slice va m vc) (.slice la (selK p m).length lc) (.slice ca C.length cc) ns (selK p m) C m k q wr) (fun q _ => C.length - (intOf q).toNat)
      case atStart => exact ⟨0, Nat.zero_le _, rfl, S6.out, HI6.out, HO6.out⟩
      case round =>
        obtain ⟨q, hq, rfl, hs, hci, hco⟩ := hrel
        have S7 := Lib.hid hs
        have HI7 := Lib.hid hci
        have HO7 := Lib.hid hco
        clear hs hci hco S6 HI6 HO6
        by_cases hql : q < C.length
        case pos =>
          have hql' : (q : Int) < C.length := by omega
          obtain ⟨x, hxn, hxv, hxu, hx0, hxs⟩ := HCA.out q hql
          obtain ⟨hkx, hdep, hpar⟩ := child_ok HOK.out hkn hxn hxu
          obtain ⟨cb, coff, rfl, hcb, hcell⟩ := HI7.out.at hql
          rw [hxv] at hcell
          have HCX := Lib.hid hcell
          have hxm : x < m := by rw [← hm.out]; exact hxn
          have hxm' : (x : Int) < m := by omega
          have hf1 : ((x : Int) ≤ (k : Int)) = False := eq_false (by omega)
          have hf2 : ((m : Int) ≤ (x : Int)) = False := eq_false (by omega)
          have hd1 : decide ((x : Int) ≤ (k : Int)) = false := decide_eq_false (by omega)
          have hd2 : decide ((m : Int) ≤ (x : Int)) = false := decide_eq_false (by omega)
          obtain ⟨b, off, rfl, hlm1, hbb, hnx, hokx⟩ := S7.out.t.n.elem hxn
          obtain ⟨b2, off2, he2, hlm2, hbb2, hnk, hokk⟩ := S7.out.t.n.elem hkn
          cases he2
          have HPX := Lib.hid hnx.bk.parent
          have HRK := Lib.hid hnk.bk.root
          rw [hpar] at HPX
          have hrok := hokk.1.2.2.2.1
          have hiR : (Try.prog.info? 34).map (·.size) = some (bytesL ns[k].b.root).length := by rw [bytesL_len hrok]; kernel_rfl
          have HEQ := fun z => eq_root hrok hrok z
          rw [decide_eq_true rfl] at HEQ
          simp only [bytesL_V] at HEQ
          obtain ⟨R, hR⟩ : ∃ R, bytesL ns[k].b.root = R := ⟨_, rfl⟩
          rw [hR] at HPX HRK hiR HEQ
          have HDX := Lib.hid (HDP.out (x : Int) (by omega))
          have HDK := Lib.hid (HDP.out (k : Int) (by omega))
          rw [hdep] at HDX
          have hpl := pathN_len ns (k : Int)
          rw [hm.out] at hpl
          obtain ⟨dk, hdk⟩ : ∃ d, (pathN ns (k : Int)).length = d := ⟨_, rfl⟩
          rw [hdk] at HDX HDK hpl
          have hdk1 : (dk : Int) ≤ 9 := by omega
          have hbne : ((((dk + 1 : Nat) : Int)) != (dk : Int) + 1) = false := by simp
          have HXS := Lib.hid hxs
          have HX0 := Lib.hid hx0
          rw [hm.out] at HXS
          clear hlm1 hlm2 hbb2 hnx hokx hnk hokk hpar hdep hcell hxv hxs hx0 hR hdk hrok hkx hxu
          go_wp2_with fail
          refine wp_region_fam2 (by kernel_rfl) (by kernel_rfl) ?_
          intro T F hT hF hG
          have c0 : ∀ t, (F t).cell? ⟨bt, 0, none⟩ = some (.slice (some ⟨b, off, none⟩) m vc) := fun t => (S7.out.call (hF t)).t.t.cell 0
          have c1 : ∀ t, (F t).cell? ⟨cb, coff + q, none⟩ = some (.int .i64 (x : Int)) := fun t => ((hF t).cell (p := ⟨cb, coff + q, none⟩) hcb).trans HCX.out
          have CT := Lib.hid (show ∀ u, (∃ t, u = F t) → Blk u bt #[.slice (some ⟨b, off, none⟩) m vc] by rintro _ ⟨t, rfl⟩; exact (S7.out.call (hF t)).t.t)
          have CP := Lib.hid (show ∀ u, (∃ t, u = F t) → u.rangeAt b (off + x * 240 + 99) R by rintro _ ⟨t, rfl⟩; exact Below.rng (hF t) hbb HPX.out)
          have CR := Lib.hid (show ∀ u, (∃ t, u = F t) → u.rangeAt b (off + k * 240 + 67) R by rintro _ ⟨t, rfl⟩; exact Below.rng (hF t) hbb HRK.out)
          repeat (first
            | ((with_reducible refine at_qload (.tmp 73) ?_); refine wpQuiet_load_midE 34 _ rfl b (off + x * 240 + 99) (by simp [Act.eval]) R CP.out Try.underlying34 rfl hiR (by kernel_rfl) ?_; simp only [Act.put, List.setIfInBounds_toArray, List.set_cons_succ, List.set_cons_zero])
            | ((with_reducible refine at_qload (.tmp 80) ?_); refine wpQuiet_load_midE 34 _ rfl b (off + k * 240 + 67) (by simp [Act.eval]) R CR.out Try.underlying34 rfl hiR (by kernel_rfl) ?_; simp only [Act.put, List.setIfInBounds_toArray, List.set_cons_succ, List.set_cons_zero])
            | ((with_reducible refine at_qload (.tmp 3) ?_); refine wpQuiet_load 24 _ rfl bt rfl #[.slice (some ⟨b, off, none⟩) m vc] CT.out Try.underlying24 rfl hi1 (by kernel_rfl) ?_; simp only [Act.put, List.setIfInBounds_toArray, List.set_cons_succ, List.set_cons_zero])
            | (go_big_quiet_step ((first
                | (go_at_call_of 20 (x : Int); exact fam_call hF hG (Nat.le_refl _) (HDX.out _ (S7.out.call (hF _)).t.n))
                | (go_at_call_of 20 (k : Int); exact fam_call hF hG (Nat.le_refl _) (HDK.out _ (S7.out.call (hF _)).t.n))))))
          refine wpQuiet_nil ?_
          rintro _ ⟨t, rfl⟩
          have S8 := Lib.hid (S7.out.call (hF t))
          have HI8 := Lib.hid (HI7.out.below (hF t))
          have HX8 := Lib.hid (c1 t)
          obtain ⟨w8, hw8⟩ : ∃ z, F t = z := ⟨_, rfl⟩
          rw [hw8] at S8 HI8 HX8 ⊢
          clear c0 c1 CT CP CR hG hw8 hF hT
          clear t F T
          have HG8 := Lib.hid (S8.out.r.num (i := x) (by rw [snL_len]; exact hxm))
          rw [snL_at ns hxm, HX0.out] at HG8
          have HLN : Hid (x < (snL ns m k q).length) := by show x < _; rw [snL_len]; exact hxm
          go_wp2_with (first
            | ((with_reducible refine at_load (.tmp 87) ?_); refine wpList_load_1 3 (.tmp 87) rfl cb (coff + q) (.int .i64 (x : Int)) HX8.out rfl _ Try.underlying3 rfl rfl ?_)
            | ((with_reducible refine at_load (.tmp 89) ?_); refine wpList_load_1 3 (.tmp 89) rfl g x (.int .i64 0) HG8.out rfl _ Try.underlying3 rfl rfl ?_)
            | ((with_reducible refine at_store (.tmp 92) ?_); refine wpList_store_num rfl 3 (.tmp 92) _ rfl g x .i64 (snL ns m k q) 1 S8.out.r HLN.out rfl rfl rfl ?_; intro w9 U9 B9; rw [HXS.out] at B9; have S9 := Lib.hid (S8.out.upd U9 B9); have HI9 : Hid (IntsV w9 (.slice (some ⟨cb, coff, none⟩) C.length cc) C) := ⟨HI8.out.1.grownOff (upd_grown U9) (fun g' e => by cases e; exact HO7.out), HI8.out.2⟩; clear U9 B9))
          go_roundw
          case rel => exact ⟨q + 1, by omega, by go_num, S9.out, HI9.out, HO7.out⟩
          case measure => simp [intOf]; omega
        case neg =>
          obtain rfl : q = C.length := by omega
          rw [HNX.out] at S7
          cases hpk2 : p k
          case false =>
            rw [hpk2] at hpk
            have hz : ((C.length : Int) == 0) = false := by have := of_decide_eq_false hpk; exact beq_false_of_ne (by omega)
            have HSK := Lib.hid (selK_no hpk2)
            clear hpk hpk2
            go_wp2_with fail
            go_roundw
            case rel => exact ⟨k + 1, by omega, by go_num, by rw [HSK.out], S7.out⟩
            case measure => simp [intOf]; omega
          case true =>
            rw [hpk2] at hpk
            have hz : ((C.length : Int) == 0) = true := by have := of_decide_eq_true hpk; simp [this]
            have HSK := Lib.hid (selK_yes hpk2)
            obtain ⟨hg1, hg2⟩ := selK_get hpk2 hlt
            obtain ⟨lb, loff, rfl, hlb, hlcell⟩ := S7.out.l.at hg1
            rw [hg2] at hlcell
            have HLC7 := Lib.hid hlcell
            have hsl := HSL.out k
            have hsln : (selK p (k + 1)).length = (selK p k).length + 1 := by rw [HSK.out, List.length_append]; rfl
            have HSLN := Lib.hid hsln
            obtain ⟨nl, hnl⟩ : ∃ n, (selK p k).length = n := ⟨_, rfl⟩
            rw [hnl] at hg1 HLC7 hsl HSLN ⊢
            have hge : (((selK p m).length : Int) ≤ (nl : Int)) = False := eq_false (by omega)
            have hgl : (nl : Int) < ((selK p m).length : Int) := by omega
            have hbn : ((k : Int) != (k : Int)) = false := by simp
            clear hpk hpk2 hg2 hlcell hsln hnl
            go_wp2_with (first
              | ((with_reducible refine at_load (.tmp 103) ?_); refine wpList_load_1 3 (.tmp 103) rfl lb (loff + nl) (.int .i64 (k : Int)) HLC7.out rfl _ Try.underlying3 rfl rfl ?_))
            go_roundw
            case rel => exact ⟨k + 1, by omega, by go_num, by rw [HSLN.out]; go_num, S7.out⟩
            case measure => simp [intOf]; omega
    case neg =>
      obtain rfl : k = m := by omega
      have hkk : ((k : Int) < (k : Int)) = False := eq_false (by omega)
      obtain ⟨xs, hxs⟩ : ∃ xs, Hid (snL ns k k 0 = xs) := ⟨_, Lib.hid rfl⟩
      have HXL : Hid (xs.length = k) := by show xs.length = k; rw [← hxs.out, snL_len]
      have HXV : Hid (∀ j, j < k → xs.getD j 0 = if j = 0 then 0 else 1) := fun j hj => by
        rw [← hxs.out, snL_at ns hj]
        have := seen_min HOK.out (x := j) (by rw [hm.out]; exact hj)
        rw [hm.out] at this
        exact this
      rw [hxs.out] at S5
      go_wp2_with (first
        | ((with_reducible refine at_load (.tmp 20) ?_); refine wpList_load_1 22 (.tmp 20) rfl bt 0 (.slice va k vc) (S5.out.t.t.cell 0) rfl _ Try.underlying22 rfl rfl ?_))
      go_loopw [10] (fun i wr => FmK w bt g (.slice va k vc) (.slice la (selK p k).length lc) ns (selK p k) xs k i wr) (fun i _ => k - (intOf i).toNat)
      case atStart => exact ⟨0, Nat.zero_le _, rfl, S5.out⟩
      case round =>
        obtain ⟨j, hj, rfl, hs⟩ := hrel
        have S6 := Lib.hid hs
        clear hs
        by_cases hjk : j < k
        case pos =>
          have hjk' : (j : Int) < k := by omega
          have HG := Lib.hid (S6.out.r.num (i := j) (by rw [HXL.out]; exact hjk))
          rw [HXV.out j hjk] at HG
          by_cases h0 : j = 0
          · subst h0
            rw [if_pos rfl] at HG
            go_wp2_with (first
              | ((with_reducible refine at_load (.tmp 118) ?_); refine wpList_load_1 3 (.tmp 118) rfl g 0 (.int .i64 0) HG.out rfl _ Try.underlying3 rfl rfl ?_))
            go_roundw
            case rel => exact ⟨1, by omega, rfl, S6.out⟩
            case measure => simp [intOf]; omega
          · rw [if_neg h0] at HG
            by_cases h1 : j = 1
            · subst h1
              go_wp2_with (first
                | ((with_reducible refine at_load (.tmp 118) ?_); refine wpList_load_1 3 (.tmp 118) rfl g 1 (.int .i64 1) HG.out rfl _ Try.underlying3 rfl rfl ?_))
              go_roundw
              case rel => exact ⟨2, by omega, rfl, S6.out⟩
              case measure => simp [intOf]; omega
            · have hj1 : (1 : Int) < (j : Int) := by omega
              clear h0 h1
              go_wp2_with (first
                | ((with_reducible refine at_load (.tmp 118) ?_); refine wpList_load_1 3 (.tmp 118) rfl g j (.int .i64 1) HG.out rfl _ Try.underlying3 rfl rfl ?_))
              go_roundw
              case rel => exact ⟨j + 1, by omega, by go_num, S6.out⟩
              case measure => simp [intOf]; omega
        case neg =>
          obtain rfl : j = k := by omega
          have hjj : ((j : Int) < (j : Int)) = False := eq_false (by omega)
          obtain ⟨ml, hml⟩ : ∃ n, (selK p j).length = n := ⟨_, rfl⟩
          rw [hml]
          have hbe : ((ml : Int) == (ml : Int)) = true := by simp
          clear hml hjk
          go_wp2_with (first
            | (go_at_call 9; refine (HAW.out _).mono ?_; rintro e w9 ⟨rfl, hb9⟩; have HB9 := Lib.hid (S6.out.t.b.trans (hb9.mono S6.out.t.b.size)); clear hb9))
          go_ret
          exact ⟨rfl, HB9.out⟩
end

end Go.Proofs.Ytgdlkkeiijhecaa
