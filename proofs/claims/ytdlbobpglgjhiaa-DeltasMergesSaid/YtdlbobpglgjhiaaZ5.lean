/- Several texts as one: DeA, DeB, DeC, DeP, DeD, DeE, DeQ, D14. -/
import Derived.Test.YtdlbobpglgjhiaaZ3
import Derived.Test.YtdlbobpglgjhiaaUnits
import Derived.Test.YtdlbobpglgjhiaaHeldK
import Derived.Test.YtdlbobpglgjhiaaZ4
import Derived.Test.YtdlbobpglgjhiaaRmK
import Derived.Test.YtdlbobpglgjhiaaHeld4
namespace Go.Proofs.Ytdlbobpglgjhiaa

/-! DeA -/
section
set_option linter.unusedVariables false
set_option linter.unusedSimpArgs false
open Go.RowKit

set_option maxRecDepth 100000

theorem oneDl (ds : List DlD) : ∀ u ∈ (ds.map DlD.cells).flatten, u.oneCell' = true := fun u hu => by
  obtain ⟨L, hL, hu⟩ := List.mem_flatten.1 hu
  obtain ⟨v, _, rfl⟩ := List.mem_map.1 hL
  exact DlD.one v u hu

theorem lenDl (ds : List DlD) : (ds.map DlD.cells).flatten.length = ds.length * 2 := by rw [flat_len (cells2 ds), List.length_map]

theorem rowsDl (ds : List DlD) : rowsL (ds.map fun v => v.cells.toArray) = (ds.map DlD.cells).flatten := by simp [rowsL, List.map_map, Function.comp_def]

/-- The cells of a slice of deltas that isn't empty. -/
theorem DeltasV.row {w : World} {v : Value} {ds : List DlD} (h : DeltasV w v ds) (h0 : 0 < ds.length) :
    ∃ b off c, v = .slice (some ⟨b, off, none⟩) ds.length c ∧ b < w.heap.size ∧ w.rangeAt b off (ds.map DlD.cells).flatten ∧ (∀ d ∈ ds, d.ok) ∧ ds.length ≤ maxLen := by
  obtain ⟨a, cap, rfl, hm, hr⟩ := h
  rcases hr with h1 | ⟨b, off, rfl, hb, Xs, hrg, hA⟩
  · omega
  · have hX : Xs = ds.map fun d => d.cells.toArray := by
      apply List.ext_getElem (by simp [hA.1])
      intro i hi hj
      have hid : i < ds.length := by simpa using hj
      rw [List.getElem_map]
      exact (hA.at hid).1
    refine ⟨b, off, cap, rfl, hb, ?_, fun d hd => ?_, hm⟩
    · rw [hX, rowsDl] at hrg; exact hrg
    · obtain ⟨i, hi, rfl⟩ := List.mem_iff_getElem.1 hd
      exact (hA.at hi).2

set_option maxHeartbeats 1000000 in
theorem cloneD (b off c : Nat) (ds : List DlD) (w : World) (h : w.rangeAt b off (ds.map DlD.cells).flatten) (hb : b < w.heap.size) (ho : ∀ d ∈ ds, d.ok) (hl : ds.length ≤ 100000) :
    Calls Try.prog 31 #[.slice (some ⟨b, off, none⟩) ds.length c] w fun e w' => ∃ v', e = .returned v' ∧ OwnEl DlEl 74 2 w' w.heap.size v' ds ∧ Below w.heap.size w w' := by
  obtain ⟨i0, hi, hz0, hz1, hz2⟩ := info_parts info_delta
  have q22 : ∀ (w : World) (a : Option Addr) (n c n' c' : Nat), (binOp .eql 30 (.slice a n c) (.slice none n' c')).run Try.prog w = .ok (.bool a.isNone) w := fun w a n c n' c' => Lib.run_eql_slice_nil w _ _ a n c n' c' Try.underlying30
  have HR := Lib.hid h
  have HO := Lib.hid ho
  have HN := Lib.hid (lenDl ds)
  have hz3 : (Value.agg zeDl.cells.toArray).cells.size = 2 := rfl
  have hz1' : i0.size = 2 := hz1
  clear h ho hz1
  go_enter Try.func31, Try.ntmps31
  go_wp2_with (at_builtin; refine wpList_append_own _ rfl _ _ 30 rfl w.heap.size 74 i0 (.agg zeDl.cells.toArray) 2 16 Try.underlying30 hi hz0 hz1' hz2 hz3 (by decide) _ _ _ rfl (World.ownsRow_made w #[] 0 (Nat.le_refl _) (Nat.zero_le _) rfl) ⟨b, off, none⟩ ds.length c (ds.map DlD.cells).flatten rfl HN.out (fun j u hj => by rw [Go.WideShapes.add_plain]; exact (((Below.refl w.heap.size w).alloc (Nat.le_refl _) _).cell (p := ⟨b, off + j, none⟩) hb).trans (HR.out j u hj)) (oneDl ds) (by unfold maxLen; omega) (by omega) (by simp) ?_)
  intro v' w1 hown hgrow hnil
  go_wp2
  go_ret
  refine ⟨_, rfl, ⟨ds.map fun v => v.cells.toArray, ?_, by simp, ?_⟩, ((Below.refl _ w).alloc (Nat.le_refl _) _).grown hgrow (by simp) (by intro k hk; simp [Value.ownBlock] at hk; omega)⟩
  · rw [rowsDl]; simpa using hown
  · intro p hp
    obtain ⟨i, hi, rfl⟩ := List.mem_iff_getElem.1 hp
    simp only [List.length_zip, List.length_map] at hi
    simp only [List.getElem_zip, List.getElem_map]
    exact ⟨rfl, HO.out _ (List.getElem_mem _)⟩
/-! ### change -/

def chV (x : Int) (d : DlD) : Int := if 0 ≤ x + d.p - d.m ∧ x + d.p - d.m ≤ 18446744073709551615 then x + d.p - d.m else 0

def chE (x : Int) (d : DlD) : Int := if 0 ≤ x + d.p - d.m ∧ x + d.p - d.m ≤ 18446744073709551615 then 0 else 4

theorem ch_add {x p m : Int} (hx : 0 ≤ x) (h : m ≤ p) : addV x (p - m) = chV x ⟨p, m⟩ ∧ addE x (p - m) = chE x ⟨p, m⟩ := by
  unfold addV addE chV chE
  simp only
  by_cases h1 : x + (p - m) ≤ 18446744073709551615
  · rw [if_pos h1, if_pos h1, if_pos (by omega), if_pos (by omega)]; omega
  · rw [if_neg h1, if_neg h1, if_neg (by omega), if_neg (by omega)]; exact ⟨rfl, rfl⟩

theorem ch_sub {x p m : Int} (hx : x ≤ 18446744073709551615) (h : p < m) : subV x (m - p) = chV x ⟨p, m⟩ ∧ subE x (m - p) = chE x ⟨p, m⟩ := by
  unfold subV subE chV chE
  simp only
  by_cases h1 : m - p ≤ x
  · rw [if_pos h1, if_pos h1, if_pos (by omega), if_pos (by omega)]; omega
  · rw [if_neg h1, if_neg h1, if_neg (by omega), if_neg (by omega)]; exact ⟨rfl, rfl⟩

set_option maxHeartbeats 4000000 in
theorem change_any (x : Int) (d : DlD) (hx : 0 ≤ x) (hx' : x ≤ 18446744073709551615) (hd : d.ok) (w : World) :
    Calls Try.prog 32 #[.int .u64 x, .agg d.cells.toArray] w fun e w' => e = .returned (.tuple #[.int .u64 (chV x d), .int .i64 (chE x d)]) ∧ Below w.heap.size w w' := by
  obtain ⟨p, m⟩ := d
  obtain ⟨⟨hp0, hp1⟩, hm0, hm1⟩ := hd
  simp only at hp0 hp1 hm0 hm1
  have S0 := Lib.hid (pas_new w #[.int .u64 p, .int .u64 m] 74)
  have HA := Lib.hid (fun y (hy : 0 ≤ y) (hy' : y ≤ 18446744073709551615) u => add_any x y hx hx' hy hy' u)
  have HS := Lib.hid (fun y (hy : 0 ≤ y) (hy' : y ≤ 18446744073709551615) u => sub_any x y hx hx' hy hy' u)
  show Calls _ _ #[.int .u64 x, .agg #[.int .u64 p, .int .u64 m]] w _
  by_cases hc : m ≤ p
  · have HC := Lib.hid (ch_add hx hc)
    have hw1 : IntKind.u64.wrap (p - m) = p - m := wrap_u64 (by omega) (by omega)
    obtain ⟨V, hV⟩ : ∃ V, chV x ⟨p, m⟩ = V := ⟨_, rfl⟩
    obtain ⟨E, hE⟩ : ∃ E, chE x ⟨p, m⟩ = E := ⟨_, rfl⟩
    rw [hV, hE] at HC ⊢
    clear hV hE
    go_enter Try.func32, Try.ntmps32
    go_wp2_with (first
      | (go_at_call 42; refine (HA.out (p - m) (by omega) (by omega) _).mono ?_; rintro e w1 ⟨rfl, rfl⟩; rw [HC.out.1, HC.out.2]))
    go_ret2
    exact ⟨rfl, S0.out.b⟩
  · have HC := Lib.hid (ch_sub (x := x) (p := p) (m := m) hx' (by omega))
    have hw1 : IntKind.u64.wrap (m - p) = m - p := wrap_u64 (by omega) (by omega)
    obtain ⟨V, hV⟩ : ∃ V, chV x ⟨p, m⟩ = V := ⟨_, rfl⟩
    obtain ⟨E, hE⟩ : ∃ E, chE x ⟨p, m⟩ = E := ⟨_, rfl⟩
    rw [hV, hE] at HC ⊢
    clear hV hE
    go_enter Try.func32, Try.ntmps32
    go_wp2_with (first
      | (go_at_call 43; refine (HS.out (m - p) (by omega) (by omega) _).mono ?_; rintro e w1 ⟨rfl, rfl⟩; rw [HC.out.1, HC.out.2]))
    go_ret2
    exact ⟨rfl, S0.out.b⟩
/-! ### addTo -/

/-- What addTo answers for the entry k of a row. -/
def atE (a b : DlD) : Int := if addE a.p b.p ≠ 0 then addE a.p b.p else addE a.m b.m

theorem atE_ok {a b : DlD} (h : atE a b = 0) : addE a.p b.p = 0 ∧ addE a.m b.m = 0 := by
  unfold atE at h
  by_cases h1 : addE a.p b.p = 0
  · rw [if_neg (fun z => z h1)] at h; exact ⟨h1, h⟩
  · rw [if_pos h1] at h; exact absurd h h1

theorem atE_no {a b : DlD} (h : atE a b ≠ 0) : atE a b = 4 ∧ (addE a.p b.p ≠ 0 ∨ addE a.m b.m ≠ 0) := by
  unfold atE at h ⊢
  rcases addE_or a.p b.p with h1 | h1
  · rw [h1] at h ⊢
    rw [if_neg (by simp)] at h ⊢
    exact ⟨(addE_or a.m b.m).resolve_left h, .inr h⟩
  · rw [h1]; exact ⟨by rw [if_pos (by decide)], .inl (by decide)⟩

/-- Behind addTo: the row's entry k is the sum, or nothing was written. -/
def AtR (w : World) (g : Nat) (Q : List DlD) (k : Nat) (d : DlD) (e : Ending) (w' : World) : Prop :=
  e = .returned (.int .i64 (atE (Q.getD k zeDl) d)) ∧ ((atE (Q.getD k zeDl) d = 0 ∧ ∃ w1, Below w.heap.size w w1 ∧ Upd g w1 w' ∧ RowB w' g ((Q.map DlD.cells).set k (mgA (Q.getD k zeDl) d).cells)) ∨ (atE (Q.getD k zeDl) d = 4 ∧ Below w.heap.size w w'))

set_option maxHeartbeats 8000000 in
theorem addTo_any (g k : Nat) (Q : List DlD) (d : DlD) (hk : k < Q.length) (hq : ∀ x ∈ Q, x.ok) (hd : d.ok) (w : World) (hR : RowB w g (Q.map DlD.cells)) :
    Calls Try.prog 33 #[.pointer (some ⟨g, k * 2, none⟩), .agg d.cells.toArray] w (AtR w g Q k d) := by
  have hqk := hq _ (getD_mem' (d := zeDl) hk)
  have e : (Q.map DlD.cells)[k]? = some (Q.getD k zeDl).cells := by simp [List.getD, hk]
  have HC1 := Lib.hid (fun u (hu : Below w.heap.size w u) => (hR.call hu).cell (cells2 Q) e (j := 0) (v := .int .u64 (Q.getD k zeDl).p) rfl)
  have HC2 := Lib.hid (fun u (hu : Below w.heap.size w u) => (hR.call hu).cell (cells2 Q) e (j := 1) (v := .int .u64 (Q.getD k zeDl).m) rfl)
  have HR := Lib.hid (fun u (hu : Below w.heap.size w u) => hR.call hu)
  have HGL : Hid (g < w.heap.size) := hR.lt
  have HKL := Lib.hid hk
  unfold AtR
  have HNO := Lib.hid (atE_no (a := Q.getD k zeDl) (b := d))
  have HAE : Hid (atE (Q.getD k zeDl) d = if addE (Q.getD k zeDl).p d.p ≠ 0 then addE (Q.getD k zeDl).p d.p else addE (Q.getD k zeDl).m d.m) := Lib.hid rfl
  obtain ⟨a, ha⟩ : ∃ a, Q.getD k zeDl = a := ⟨_, rfl⟩
  rw [ha] at hqk HC1 HC2 HNO HAE ⊢
  clear hR e hk ha
  obtain ⟨P1, P2⟩ := a
  obtain ⟨D1, D2⟩ := d
  obtain ⟨hp1, hp2⟩ := hqk
  obtain ⟨hd1, hd2⟩ := hd
  simp only [mgA] at HC1 HC2 HNO HAE hp1 hp2 hd1 hd2 ⊢
  have HA1 := Lib.hid (fun u => add_any P1 D1 hp1.1 hp1.2 hd1.1 hd1.2 u)
  have HA2 := Lib.hid (fun u => add_any P2 D2 hp2.1 hp2.2 hd2.1 hd2.2 u)
  have S0 := Lib.hid (pas_new w #[.int .u64 D1, .int .u64 D2] 74)
  obtain ⟨v1, hv1e⟩ : ∃ v, addV P1 D1 = v := ⟨_, rfl⟩
  obtain ⟨v2, hv2e⟩ : ∃ v, addV P2 D2 = v := ⟨_, rfl⟩
  obtain ⟨e1, he1⟩ : ∃ v, addE P1 D1 = v := ⟨_, rfl⟩
  obtain ⟨e2, he2⟩ : ∃ v, addE P2 D2 = v := ⟨_, rfl⟩
  obtain ⟨E, hE⟩ : ∃ v, atE ⟨P1, P2⟩ ⟨D1, D2⟩ = v := ⟨_, rfl⟩
  rw [hv1e, he1] at HA1
  rw [hv2e, he2] at HA2
  rw [he1, he2, hE] at HNO HAE
  rw [hv1e, hv2e, hE]
  clear hv1e hv2e he1 he2 hE
  show Calls _ _ #[_, .agg #[.int .u64 D1, .int .u64 D2]] w _
  go_enter Try.func33, Try.ntmps33
  go_wp2_with fail
  refine wp_region_fam2 (by kernel_rfl) (by kernel_rfl) ?_
  intro T F hT hF hG
  have B1 := Lib.hid (fun t => S0.out.b.trans ((hF t).mono S0.out.b.size))
  have C1 : ∀ t, (F t).cell? ⟨g, k * 2, none⟩ = some (.int .u64 P1) := fun t => HC1.out _ (B1.out t)
  have C2 : ∀ t, (F t).cell? ⟨w.heap.size, 0, none⟩ = some (.int .u64 D1) := fun t => ((hF t).cell (p := ⟨w.heap.size, 0, none⟩) S0.out.t.lt).trans (S0.out.t.cell 0)
  repeat (go_big_quiet_step ((go_at_call 42; exact fam_call hF hG (Nat.le_refl _) ((HA1.out _).mono fun _ _ h => ⟨h.1, Below.same_world h.2⟩))))
  refine wpQuiet_nil ?_
  rintro _ ⟨t, rfl⟩
  have S1 := Lib.hid (S0.out.call (hF t))
  clear C1 C2 hG B1
  by_cases h1 : e1 = 0
  case neg =>
    have h1b : (e1 != 0) = true := by simpa using h1
    have HEE : Hid (E = e1) := by show E = _; rw [HAE.out, if_pos h1]
    have HE4 : Hid (E = 4) := (HNO.out (by rw [HEE.out]; exact h1)).1
    go_wp2_with fail
    go_ret
    exact ⟨by rw [HEE.out]; rfl, .inr ⟨HE4.out, S1.out.b⟩⟩
  subst h1
  go_wp2_with fail
  refine wp_region_fam2 (by kernel_rfl) (by kernel_rfl) ?_
  intro T F hT hF hG
  have B1 := Lib.hid (fun t => S1.out.b.trans ((hF t).mono S1.out.b.size))
  have C1 : ∀ t, (F t).cell? ⟨g, k * 2 + 1, none⟩ = some (.int .u64 P2) := fun t => HC2.out _ (B1.out t)
  have C2 : ∀ t, (F t).cell? ⟨w.heap.size, 1, none⟩ = some (.int .u64 D2) := fun t => ((hF t).cell (p := ⟨w.heap.size, 1, none⟩) S1.out.t.lt).trans (S1.out.t.cell 1)
  repeat (go_big_quiet_step ((go_at_call 42; exact fam_call hF hG (Nat.le_refl _) ((HA2.out _).mono fun _ _ h => ⟨h.1, Below.same_world h.2⟩))))
  refine wpQuiet_nil ?_
  rintro _ ⟨t, rfl⟩
  have S2 := Lib.hid (S1.out.call (hF t))
  clear C1 C2 hG B1
  have HEE : Hid (E = e2) := by show E = _; rw [HAE.out, if_neg (by simp)]
  by_cases h2 : e2 = 0
  case neg =>
    have h2b : (e2 != 0) = true := by simpa using h2
    have HE4 : Hid (E = 4) := (HNO.out (by rw [HEE.out]; exact h2)).1
    go_wp2_with fail
    go_ret
    exact ⟨by rw [HEE.out]; rfl, .inr ⟨HE4.out, S2.out.b⟩⟩
  subst h2
  have HBV := Lib.hid (fun u => bs_dl v1 v2 u)
  have HR2 := Lib.hid (HR.out _ S2.out.b)
  go_wp2_with (first
    | ((with_reducible refine at_build (some 37) ?_); refine wpList_build_g 74 _ rfl #[(0, .int .u64 v1), (1, .int .u64 v2)] (by simp [Act.eval, Act.put]) (.agg (DlD.mk v1 v2).cells.toArray) (HBV.out _) rfl ?_)
    | ((with_reducible refine at_store (.tmp 38) ?_); refine wpList_store_row rfl 74 (.tmp 38) (.tmp 37) rfl g 2 k (Q.map DlD.cells) (DlD.mk v1 v2).cells HR2.out (cells2 Q) (by rw [List.length_map]; exact HKL.out) (by simp [Act.eval, Act.put]) (by simp [Act.eval, Act.put]) rfl (by kernel_rfl) (DlD.one _) ?_; intro w9 U9 R9; have HU9 := Lib.hid U9; have HR9 := Lib.hid R9; clear U9 R9))
  go_ret
  exact ⟨by rw [HEE.out]; rfl, .inl ⟨HEE.out, _, S2.out.b, HU9.out, HR9.out⟩⟩
end

/-! DeB -/
section
set_option linter.unusedVariables false
set_option linter.unusedSimpArgs false
open Go.RowKit

set_option maxRecDepth 100000
/-! ### A row of deltas as a row of numbers -/

def flD : List DlD → List Int
  | [] => []
  | d :: r => d.p :: d.m :: flD r

theorem flD_len : ∀ Q : List DlD, (flD Q).length = Q.length * 2
  | [] => rfl
  | d :: r => by
    have := flD_len r
    simp only [flD, List.length_cons, this]; omega

theorem flD_cells : ∀ Q : List DlD, (Q.map DlD.cells).flatten = (numL .u64 (flD Q)).flatten
  | [] => rfl
  | d :: r => by
    rw [List.map_cons, List.flatten_cons, flD_cells r, numL_flat, numL_flat]
    rfl

theorem rowB_fl {u : World} {g : Nat} {Q : List DlD} (h : RowB u g (Q.map DlD.cells)) : RowB u g (numL .u64 (flD Q)) := by
  obtain ⟨sp, h⟩ := h
  refine ⟨sp, ?_⟩
  have e : flatP (numL .u64 (flD Q) ++ [sp]) = flatP (Q.map DlD.cells ++ [sp]) := by
    unfold flatP
    rw [List.flatten_append, List.flatten_append, flD_cells]
  rw [e]; exact h

theorem rowB_lf {u : World} {g : Nat} {Q : List DlD} (h : RowB u g (numL .u64 (flD Q))) : RowB u g (Q.map DlD.cells) := by
  obtain ⟨sp, h⟩ := h
  refine ⟨sp, ?_⟩
  have e : flatP (numL .u64 (flD Q) ++ [sp]) = flatP (Q.map DlD.cells ++ [sp]) := by
    unfold flatP
    rw [List.flatten_append, List.flatten_append, flD_cells]
  rw [← e]; exact h

theorem flD_setP (x : Int) : ∀ (Q : List DlD) (k : Nat), (flD Q).set (k * 2) x = flD (Q.set k ⟨x, (Q.getD k zeDl).m⟩)
  | [], _ => rfl
  | d :: r, 0 => rfl
  | d :: r, k + 1 => by
    have ih := flD_setP x r k
    rw [show (k + 1) * 2 = k * 2 + 1 + 1 by omega]
    simp only [flD, List.set_cons_succ, ih]
    rfl

theorem flD_setM (x : Int) : ∀ (Q : List DlD) (k : Nat), (flD Q).set (k * 2 + 1) x = flD (Q.set k ⟨(Q.getD k zeDl).p, x⟩)
  | [], _ => rfl
  | d :: r, 0 => rfl
  | d :: r, k + 1 => by
    have ih := flD_setM x r k
    rw [show (k + 1) * 2 + 1 = k * 2 + 1 + 1 + 1 by omega]
    simp only [flD, List.set_cons_succ, ih]
    rfl
/-! ### The row while Moves fills it -/

def mvQ (bs cs : List Int) (m k : Nat) : List DlD := movK bs cs k ++ List.replicate (m - k) zeDl

theorem mvQ_len (bs cs : List Int) {m k : Nat} (h : k ≤ m) : (mvQ bs cs m k).length = m := by
  unfold mvQ; rw [List.length_append, movK_len, List.length_replicate]; omega

theorem mvQ_at (bs cs : List Int) {m k : Nat} (h : k < m) : (mvQ bs cs m k).getD k zeDl = zeDl := by
  unfold mvQ
  rw [List.getD_eq_getElem?_getD, List.getElem?_append_right (by rw [movK_len]; omega), movK_len, Nat.sub_self]
  rw [List.getElem?_replicate, if_pos (by omega)]; rfl

theorem mvQ_set (bs cs : List Int) {m k : Nat} (h : k < m) : (mvQ bs cs m k).set k (movD (bs.getD k 0) (cs.getD k 0)) = mvQ bs cs m (k + 1) := by
  unfold mvQ
  rw [List.set_append_right _ _ (by rw [movK_len]; omega), movK_len, Nat.sub_self]
  obtain ⟨r, hr⟩ : ∃ r, m - k = r + 1 := ⟨m - k - 1, by omega⟩
  rw [hr, show m - (k + 1) = r by omega, List.replicate_succ, List.set_cons_zero]
  show _ = (movK bs cs k ++ [movD (bs.getD k 0) (cs.getD k 0)]) ++ List.replicate r zeDl
  rw [List.append_assoc]; rfl

theorem mvQ_end (bs cs : List Int) (m : Nat) : mvQ bs cs m m = movK bs cs m := by unfold mvQ; rw [Nat.sub_self]; simp

theorem zeDl_ok : zeDl.ok := ⟨⟨Int.le_refl _, (by show (0 : Int) ≤ _; omega)⟩, ⟨Int.le_refl _, (by show (0 : Int) ≤ _; omega)⟩⟩

theorem MrS.put {w u u' : World} {T : Array Value} {Q Q' : List DlD} (h : MrS w T Q u) (hu : Upd (w.heap.size + 1) u u') (hr : RowB u' (w.heap.size + 1) (numL .u64 (flD Q'))) (ho : ∀ d ∈ Q', d.ok) : MrS w T Q' u' :=
  ⟨⟨hu.blk h.t.t (by omega), hu.below h.t.b (by omega)⟩, rowB_lf hr, ho⟩

theorem movD_ok {b a : Int} (hb : 0 ≤ b ∧ b ≤ 18446744073709551615) (ha : 0 ≤ a ∧ a ≤ 18446744073709551615) : (movD b a).ok := by
  unfold movD
  split
  · exact ⟨⟨by show 0 ≤ a - b; omega, by show a - b ≤ _; omega⟩, zeDl_ok.2⟩
  · exact ⟨zeDl_ok.1, ⟨by show 0 ≤ b - a; omega, by show b - a ≤ _; omega⟩⟩

theorem movK_ok {bs cs : List Int} (hb : ∀ i, 0 ≤ bs.getD i 0 ∧ bs.getD i 0 ≤ 18446744073709551615) (hc : ∀ i, 0 ≤ cs.getD i 0 ∧ cs.getD i 0 ≤ 18446744073709551615) : ∀ k, ∀ d ∈ movK bs cs k, d.ok
  | 0 => fun d hd => by cases hd
  | k + 1 => fun d hd => by
    rcases List.mem_append.1 hd with h | h
    · exact movK_ok hb hc k d h
    · rw [List.mem_singleton.1 h]; exact movD_ok (hb k) (hc k)

theorem mvQ_ok {bs cs : List Int} (hb : ∀ i, 0 ≤ bs.getD i 0 ∧ bs.getD i 0 ≤ 18446744073709551615) (hc : ∀ i, 0 ≤ cs.getD i 0 ∧ cs.getD i 0 ≤ 18446744073709551615) (m k : Nat) : ∀ d ∈ mvQ bs cs m k, d.ok := fun d hd => by
  rcases List.mem_append.1 hd with h | h
  · exact movK_ok hb hc k d h
  · rw [List.eq_of_mem_replicate h]; exact zeDl_ok

theorem nums_at {l : List Int} (h : ∀ x ∈ l, 0 ≤ x ∧ x ≤ 18446744073709551615) (i : Nat) : 0 ≤ l.getD i 0 ∧ l.getD i 0 ≤ 18446744073709551615 := by
  by_cases hi : i < l.length
  · exact h _ (getD_mem' hi)
  · rw [List.getD_eq_getElem?_getD, List.getElem?_eq_none (by omega)]; simp

set_option maxHeartbeats 16000000 in
theorem cmov_any (sv bv av : Value) (ns : List NdD) (bs cs : List Int) (hl : ns.length ≤ 100000) (w : World) (hN : NodesV w sv ns) (hB : NumsV w bv bs) (hA : NumsV w av cs) (hbl : bs.length = ns.length) (hcl : cs.length = ns.length) :
    Calls Try.prog 12 #[.agg #[sv], bv, av] w fun e w' => ∃ v', e = .returned v' ∧ DeltasV w' v' (movK bs cs ns.length) ∧ Below w.heap.size w w' := by
  obtain ⟨ta, tc, rfl, hmx⟩ := hN.shape
  obtain ⟨ba, bc, rfl, hmb⟩ := NumsV.shapeW hB
  obtain ⟨aa, ac, rfl, hma⟩ := NumsV.shapeW hA
  unfold maxLen at hmx hmb hma
  have HB := Lib.hid hB
  have HA := Lib.hid hA
  have HBR := Lib.hid (nums_at hB.2)
  have HAR := Lib.hid (nums_at hA.2)
  have HQO := Lib.hid (fun m k => mvQ_ok (nums_at hB.2) (nums_at hA.2) m k)
  obtain ⟨m, hm⟩ : ∃ m, Hid (ns.length = m) := ⟨_, Lib.hid rfl⟩
  have HBL : Hid (bs.length = m) := Lib.hid (by rw [hbl, hm.out])
  have HCL : Hid (cs.length = m) := Lib.hid (by rw [hcl, hm.out])
  rw [hm.out] at hmx hl ⊢
  rw [HBL.out] at hmb HB ⊢
  rw [HCL.out] at hma HA ⊢
  have hi1 : (Try.prog.info? 25).map (·.size) = some 1 := by kernel_rfl
  have hiu : (Try.prog.info? 53).map (·.size) = some 1 := by kernel_rfl
  obtain ⟨T0, HT0⟩ : ∃ T, Hid ((#[.slice ta m tc] : Array Value) = T) := ⟨_, Lib.hid rfl⟩
  have S0 := Lib.hid (pas_new w #[.slice ta m tc] 25)
  clear hN hB hA hbl hcl
  go_enter Try.func12, Try.ntmps12
  go_wp2_with (first
    | ((with_reducible refine at_load (.tmp 9) ?_); refine wpList_load_1 23 (.tmp 9) rfl w.heap.size 0 (.slice ta m tc) (S0.out.t.cell 0) rfl _ Try.underlying23 rfl rfl ?_)
    | ((with_reducible refine at_makeEl (.tmp 11) ?_); refine wpList_make_els rfl (.tmp 11) 30 74 rfl zeDl.cells 16 Try.underlying30 info_delta .i64 m rfl (by omega) (by omega) ?_; intro w1 hg1 hs1 hr1; have S1 : Hid (MrS w T0 (mvQ bs cs m 0) w1) := ⟨by rw [← HT0.out]; exact S0.out.grown hg1 (fun j hj => by cases hj), (by show RowB _ _ ((List.replicate m zeDl).map DlD.cells); rw [List.map_replicate]; simpa using hr1), HQO.out m 0⟩; clear hg1 hs1 hr1))
  go_loopw [20, 8] (fun iv _ wr => ∃ k : Nat, k ≤ m ∧ iv = .int .i64 k ∧ MrS w T0 (mvQ bs cs m k) wr) (fun iv _ _ => m - (intOf iv).toNat)
  case atStart => exact ⟨0, Nat.zero_le _, rfl, S1.out⟩
  case round =>
    obtain ⟨k, hk, rfl, hs⟩ := hrel
    have S2 := Lib.hid hs
    clear hs S1 S0
    by_cases hlt : k < m
    case neg =>
      obtain rfl : m = k := by omega
      go_wp2_with fail
      go_ret
      have hd := S2.out.deltas (by rw [mvQ_len bs cs (Nat.le_refl _)]; unfold maxLen; omega) m
      rw [mvQ_len bs cs (Nat.le_refl _), mvQ_end] at hd
      exact ⟨_, rfl, hd, S2.out.t.b⟩
    have hlt' : (k : Int) < m := by omega
    obtain ⟨b1, o1, rfl, hl1, hc1⟩ := NumsV.elemW HB.out (by rw [HBL.out]; exact hlt)
    obtain ⟨b2, o2, rfl, hl2, hc2⟩ := NumsV.elemW HA.out (by rw [HCL.out]; exact hlt)
    have hr1 := HBR.out k
    have hr2 := HAR.out k
    have HQL : Hid ((mvQ bs cs m k).length = m) := mvQ_len bs cs hk
    have HZE : Hid ((mvQ bs cs m k).getD k zeDl = zeDl) := mvQ_at bs cs hlt
    have HST : Hid ((mvQ bs cs m k).set k (movD (bs.getD k 0) (cs.getD k 0)) = mvQ bs cs m (k + 1)) := mvQ_set bs cs hlt
    have HOK : Hid (∀ d ∈ mvQ bs cs m (k + 1), d.ok) := HQO.out m (k + 1)
    obtain ⟨x, hx⟩ : ∃ x, bs.getD k 0 = x := ⟨_, rfl⟩
    obtain ⟨y, hy⟩ : ∃ y, cs.getD k 0 = y := ⟨_, rfl⟩
    rw [hx] at hc1 hr1 HST
    rw [hy] at hc2 hr2 HST
    have HF1 : Hid (b1 < w.heap.size ∧ w.cell? ⟨b1, o1 + k, none⟩ = some (.int .u64 x)) := ⟨hl1, hc1⟩
    have HF2 : Hid (b2 < w.heap.size ∧ w.cell? ⟨b2, o2 + k, none⟩ = some (.int .u64 y)) := ⟨hl2, hc2⟩
    clear hl1 hl2 hc1 hc2 hx hy
    go_wp2_with fail
    refine wp_region_fam2 (by kernel_rfl) (by kernel_rfl) ?_
    intro T F hT hF hG
    have C1 : ∀ t, (F t).cell? ⟨b1, o1 + k, none⟩ = some (.int .u64 x) := fun t => ((hF t).cell (p := ⟨b1, o1 + k, none⟩) (Nat.lt_of_lt_of_le HF1.out.1 S2.out.t.b.size)).trans ((S2.out.t.b.cell (p := ⟨b1, o1 + k, none⟩) HF1.out.1).trans HF1.out.2)
    have C2 : ∀ t, (F t).cell? ⟨b2, o2 + k, none⟩ = some (.int .u64 y) := fun t => ((hF t).cell (p := ⟨b2, o2 + k, none⟩) (Nat.lt_of_lt_of_le HF2.out.1 S2.out.t.b.size)).trans ((S2.out.t.b.cell (p := ⟨b2, o2 + k, none⟩) HF2.out.1).trans HF2.out.2)
    repeat (go_big_quiet_step (fail))
    refine wpQuiet_nil ?_
    rintro _ ⟨t, rfl⟩
    have S4 := Lib.hid (S2.out.call (hF t))
    obtain ⟨wa, hwa⟩ : ∃ z, F t = z := ⟨_, rfl⟩
    rw [hwa] at S4 ⊢
    clear C1 C2 hG hwa hF hT
    clear t F T
    by_cases hxy : x < y
    · have hxyb : decide (x < y) = true := by simpa using hxy
      have HNX : Hid (∀ {u u' : World}, Upd (w.heap.size + 1) u u' → RowB u' (w.heap.size + 1) (numL .u64 ((flD (mvQ bs cs m k)).set (k * 2) (y - x))) → MrS w T0 (mvQ bs cs m k) u → MrS w T0 (mvQ bs cs m (k + 1)) u') := by
        intro u u' hu hr h
        rw [flD_setP, HZE.out, show (DlD.mk (y - x) zeDl.m) = movD x y by unfold movD; rw [if_pos (by omega)]; rfl, HST.out] at hr
        exact h.put hu hr HOK.out
      have hwr : IntKind.u64.wrap (y - x) = y - x := wrap_u64 (by omega) (by omega)
      go_wp2_with fail
      obtain ⟨x4, hx4⟩ : ∃ x, wa.drew = x := ⟨_, rfl⟩
      have hbd : Below wa.heap.size wa x4 := by rw [← hx4]; exact below_drew wa
      have SD := Lib.hid (S4.out.call hbd)
      refine wp_region_k (S := fun u' => MrS w T0 (mvQ bs cs m k) u') (k := 13) (by kernel_rfl) ?_
      rw [hx4]
      clear hx4 hbd
      (try simp only [Act.put, List.setIfInBounds_toArray, List.set_cons_zero, List.set_cons_succ])
      refine wpAnyK_take (i := 0) (oi := ⟨some 32, _, _, _, _, _⟩) (v := .slice (some ⟨w.heap.size + 1, 0, none⟩) m m) [0] rfl (by kernel_rfl) (by kernel_rfl) (by kernel_rfl) (by kernel_rfl) (fun _ _ _ h => h) (Or.inl ⟨by rfl, fun wz hz => ?_⟩) SD.out ?_
      · clear hz; go_simp; first | done | with_reducible rfl | rfl
      (try simp only [Act.put, List.setIfInBounds_toArray, List.set_cons_zero, List.set_cons_succ])
      refine wpAnyK_take (i := 1) (oi := ⟨some 33, _, _, _, _, _⟩) (v := .int .i64 k) [1] rfl (by kernel_rfl) (by kernel_rfl) (by kernel_rfl) (by kernel_rfl) (fun _ _ _ h => h) (Or.inl ⟨by rfl, fun wz hz => ?_⟩) SD.out ?_
      · clear hz; go_simp; first | done | with_reducible rfl | rfl
      (try simp only [Act.put, List.setIfInBounds_toArray, List.set_cons_zero, List.set_cons_succ])
      refine wpAnyK_take (i := 2) (oi := ⟨some 34, _, _, _, _, _⟩) (v := .slice (some ⟨b2, o2, none⟩) m ac) [2] rfl (by kernel_rfl) (by kernel_rfl) (by kernel_rfl) (by kernel_rfl) (fun _ _ _ h => h) (Or.inl ⟨by rfl, fun wz hz => ?_⟩) SD.out ?_
      · clear hz; go_simp; first | done | with_reducible rfl | rfl
      (try simp only [Act.put, List.setIfInBounds_toArray, List.set_cons_zero, List.set_cons_succ])
      refine wpAnyK_take (i := 3) (oi := ⟨some 35, _, _, _, _, _⟩) (v := .int .i64 k) [3] rfl (by kernel_rfl) (by kernel_rfl) (by kernel_rfl) (by kernel_rfl) (fun _ _ _ h => h) (Or.inl ⟨by rfl, fun wz hz => ?_⟩) SD.out ?_
      · clear hz; go_simp; first | done | with_reducible rfl | rfl
      (try simp only [Act.put, List.setIfInBounds_toArray, List.set_cons_zero, List.set_cons_succ])
      refine wpAnyK_take (i := 4) (oi := ⟨some 36, _, _, _, _, _⟩) (v := .pointer (some ⟨b2, o2 + k, none⟩)) [4] rfl (by kernel_rfl) (by kernel_rfl) (by kernel_rfl) (by kernel_rfl) (fun _ _ _ h => h) (Or.inl ⟨by rfl, fun wz hz => ?_⟩) SD.out ?_
      · clear hz; go_simp; first | done | with_reducible rfl | rfl
      (try simp only [Act.put, List.setIfInBounds_toArray, List.set_cons_zero, List.set_cons_succ])
      refine k_load1 (oi := ⟨some 37, _, _, _, _, _⟩) 5 [5] rfl (by kernel_rfl) (by kernel_rfl) (by kernel_rfl) (by kernel_rfl) (fun _ _ _ _ h => h) rfl 53 (.tmp 36) rfl b2 (o2 + k) (by first | rfl | simp [Act.eval, Act.put]) (.int .u64 y) _ (fun u' hu => (hu.t.b.cell (p := ⟨b2, o2 + k, none⟩) HF2.out.1).trans HF2.out.2) Try.underlying53 rfl SD.out ?_
      (try simp only [Act.put, List.setIfInBounds_toArray, List.set_cons_zero, List.set_cons_succ])
      refine wpAnyK_take (i := 6) (oi := ⟨some 38, _, _, _, _, _⟩) (v := .slice (some ⟨b1, o1, none⟩) m bc) [6] rfl (by kernel_rfl) (by kernel_rfl) (by kernel_rfl) (by kernel_rfl) (fun _ _ _ h => h) (Or.inl ⟨by rfl, fun wz hz => ?_⟩) SD.out ?_
      · clear hz; go_simp; first | done | with_reducible rfl | rfl
      (try simp only [Act.put, List.setIfInBounds_toArray, List.set_cons_zero, List.set_cons_succ])
      refine wpAnyK_take (i := 7) (oi := ⟨some 39, _, _, _, _, _⟩) (v := .int .i64 k) [7] rfl (by kernel_rfl) (by kernel_rfl) (by kernel_rfl) (by kernel_rfl) (fun _ _ _ h => h) (Or.inl ⟨by rfl, fun wz hz => ?_⟩) SD.out ?_
      · clear hz; go_simp; first | done | with_reducible rfl | rfl
      (try simp only [Act.put, List.setIfInBounds_toArray, List.set_cons_zero, List.set_cons_succ])
      refine wpAnyK_take (i := 8) (oi := ⟨some 40, _, _, _, _, _⟩) (v := .pointer (some ⟨b1, o1 + k, none⟩)) [8] rfl (by kernel_rfl) (by kernel_rfl) (by kernel_rfl) (by kernel_rfl) (fun _ _ _ h => h) (Or.inl ⟨by rfl, fun wz hz => ?_⟩) SD.out ?_
      · clear hz; go_simp; first | done | with_reducible rfl | rfl
      (try simp only [Act.put, List.setIfInBounds_toArray, List.set_cons_zero, List.set_cons_succ])
      refine k_load1 (oi := ⟨some 41, _, _, _, _, _⟩) 9 [9] rfl (by kernel_rfl) (by kernel_rfl) (by kernel_rfl) (by kernel_rfl) (fun _ _ _ _ h => h) rfl 53 (.tmp 40) rfl b1 (o1 + k) (by first | rfl | simp [Act.eval, Act.put]) (.int .u64 x) _ (fun u' hu => (hu.t.b.cell (p := ⟨b1, o1 + k, none⟩) HF1.out.1).trans HF1.out.2) Try.underlying53 rfl SD.out ?_
      (try simp only [Act.put, List.setIfInBounds_toArray, List.set_cons_zero, List.set_cons_succ])
      refine wpAnyK_take (i := 10) (oi := ⟨some 42, _, _, _, _, _⟩) (v := .int .u64 (y - x)) [10] rfl (by kernel_rfl) (by kernel_rfl) (by kernel_rfl) (by kernel_rfl) (fun _ _ _ h => h) (Or.inl ⟨by rfl, fun wz hz => ?_⟩) SD.out ?_
      · clear hz; go_simp; first | done | with_reducible rfl | rfl
      (try simp only [Act.put, List.setIfInBounds_toArray, List.set_cons_zero, List.set_cons_succ])
      refine wpAnyK_take (i := 11) (oi := ⟨some 43, _, _, _, _, _⟩) (v := .pointer (some ⟨w.heap.size + 1, k * 2, none⟩)) [12, 11] rfl (by kernel_rfl) (by kernel_rfl) (by kernel_rfl) (by kernel_rfl) (fun _ _ _ h => h) (Or.inl ⟨by rfl, fun wz hz => ?_⟩) SD.out ?_
      · clear hz; go_simp; first | done | with_reducible rfl | rfl
      (try simp only [Act.put, List.setIfInBounds_toArray, List.set_cons_zero, List.set_cons_succ])
      refine wpAnyK_take (i := 12) (oi := ⟨some 44, _, _, _, _, _⟩) (v := .pointer (some ⟨w.heap.size + 1, k * 2, none⟩)) [12] rfl (by kernel_rfl) (by kernel_rfl) (by kernel_rfl) (by kernel_rfl) (fun _ _ _ h => h) (Or.inl ⟨by rfl, fun wz hz => ?_⟩) SD.out ?_
      · clear hz; go_simp; first | done | with_reducible rfl | rfl
      (try simp only [Act.put, List.setIfInBounds_toArray, List.set_cons_zero, List.set_cons_succ])
      refine wpAnyK_last (o := ⟨none, _, _, _, _, _⟩) (i := 13) (by kernel_rfl) rfl (by kernel_rfl) (fun K hK => ?_)
      rw [if_pos (by rfl)]
      refine wp_store_num 53 (.tmp 44) (.tmp 42) rfl (w.heap.size + 1) (k * 2) .u64 (flD (mvQ bs cs m k)) (y - x) (rowB_fl SD.out.r) (by rw [flD_len, HQL.out]; omega) (by first | rfl | simp [Act.eval, Act.put]) rfl hiu ?_
      intro w5 U5 B5
      have S5 : Hid (MrS w T0 (mvQ bs cs m (k + 1)) w5) := HNX.out U5 B5 SD.out
      refine hK.out _ _ ?_
      clear hK K U5 B5
      (try simp only [Act.put, List.setIfInBounds_toArray, List.set_cons_zero, List.set_cons_succ])
      refine wpAnyK_done (by kernel_rfl) ?_ _
      clear SD
      go_wp2_with fail
      go_roundw
      case rel => exact ⟨k + 1, by omega, by go_num, S5.out⟩
      case measure => simp [intOf]; omega
    · have hxyb : decide (x < y) = false := by simpa using hxy
      have HNX : Hid (∀ {u u' : World}, Upd (w.heap.size + 1) u u' → RowB u' (w.heap.size + 1) (numL .u64 ((flD (mvQ bs cs m k)).set (k * 2 + 1) (x - y))) → MrS w T0 (mvQ bs cs m k) u → MrS w T0 (mvQ bs cs m (k + 1)) u') := by
        intro u u' hu hr h
        have e : (DlD.mk zeDl.p (x - y)) = movD x y := by
          unfold movD
          by_cases h1 : x ≤ y
          · obtain rfl : x = y := by omega
            rw [if_pos h1, Int.sub_self]; rfl
          · rw [if_neg h1]; rfl
        rw [flD_setM, HZE.out, e, HST.out] at hr
        exact h.put hu hr HOK.out
      have hwr : IntKind.u64.wrap (x - y) = x - y := wrap_u64 (by omega) (by omega)
      go_wp2_with fail
      obtain ⟨x4, hx4⟩ : ∃ x, wa.drew = x := ⟨_, rfl⟩
      have hbd : Below wa.heap.size wa x4 := by rw [← hx4]; exact below_drew wa
      have SD := Lib.hid (S4.out.call hbd)
      refine wp_region_k (S := fun u' => MrS w T0 (mvQ bs cs m k) u') (k := 13) (by kernel_rfl) ?_
      rw [hx4]
      clear hx4 hbd
      (try simp only [Act.put, List.setIfInBounds_toArray, List.set_cons_zero, List.set_cons_succ])
      refine wpAnyK_take (i := 0) (oi := ⟨some 45, _, _, _, _, _⟩) (v := .slice (some ⟨w.heap.size + 1, 0, none⟩) m m) [0] rfl (by kernel_rfl) (by kernel_rfl) (by kernel_rfl) (by kernel_rfl) (fun _ _ _ h => h) (Or.inl ⟨by rfl, fun wz hz => ?_⟩) SD.out ?_
      · clear hz; go_simp; first | done | with_reducible rfl | rfl
      (try simp only [Act.put, List.setIfInBounds_toArray, List.set_cons_zero, List.set_cons_succ])
      refine wpAnyK_take (i := 1) (oi := ⟨some 46, _, _, _, _, _⟩) (v := .int .i64 k) [1] rfl (by kernel_rfl) (by kernel_rfl) (by kernel_rfl) (by kernel_rfl) (fun _ _ _ h => h) (Or.inl ⟨by rfl, fun wz hz => ?_⟩) SD.out ?_
      · clear hz; go_simp; first | done | with_reducible rfl | rfl
      (try simp only [Act.put, List.setIfInBounds_toArray, List.set_cons_zero, List.set_cons_succ])
      refine wpAnyK_take (i := 2) (oi := ⟨some 47, _, _, _, _, _⟩) (v := .slice (some ⟨b1, o1, none⟩) m bc) [2] rfl (by kernel_rfl) (by kernel_rfl) (by kernel_rfl) (by kernel_rfl) (fun _ _ _ h => h) (Or.inl ⟨by rfl, fun wz hz => ?_⟩) SD.out ?_
      · clear hz; go_simp; first | done | with_reducible rfl | rfl
      (try simp only [Act.put, List.setIfInBounds_toArray, List.set_cons_zero, List.set_cons_succ])
      refine wpAnyK_take (i := 3) (oi := ⟨some 48, _, _, _, _, _⟩) (v := .int .i64 k) [3] rfl (by kernel_rfl) (by kernel_rfl) (by kernel_rfl) (by kernel_rfl) (fun _ _ _ h => h) (Or.inl ⟨by rfl, fun wz hz => ?_⟩) SD.out ?_
      · clear hz; go_simp; first | done | with_reducible rfl | rfl
      (try simp only [Act.put, List.setIfInBounds_toArray, List.set_cons_zero, List.set_cons_succ])
      refine wpAnyK_take (i := 4) (oi := ⟨some 49, _, _, _, _, _⟩) (v := .pointer (some ⟨b1, o1 + k, none⟩)) [4] rfl (by kernel_rfl) (by kernel_rfl) (by kernel_rfl) (by kernel_rfl) (fun _ _ _ h => h) (Or.inl ⟨by rfl, fun wz hz => ?_⟩) SD.out ?_
      · clear hz; go_simp; first | done | with_reducible rfl | rfl
      (try simp only [Act.put, List.setIfInBounds_toArray, List.set_cons_zero, List.set_cons_succ])
      refine k_load1 (oi := ⟨some 50, _, _, _, _, _⟩) 5 [5] rfl (by kernel_rfl) (by kernel_rfl) (by kernel_rfl) (by kernel_rfl) (fun _ _ _ _ h => h) rfl 53 (.tmp 49) rfl b1 (o1 + k) (by first | rfl | simp [Act.eval, Act.put]) (.int .u64 x) _ (fun u' hu => (hu.t.b.cell (p := ⟨b1, o1 + k, none⟩) HF1.out.1).trans HF1.out.2) Try.underlying53 rfl SD.out ?_
      (try simp only [Act.put, List.setIfInBounds_toArray, List.set_cons_zero, List.set_cons_succ])
      refine wpAnyK_take (i := 6) (oi := ⟨some 51, _, _, _, _, _⟩) (v := .slice (some ⟨b2, o2, none⟩) m ac) [6] rfl (by kernel_rfl) (by kernel_rfl) (by kernel_rfl) (by kernel_rfl) (fun _ _ _ h => h) (Or.inl ⟨by rfl, fun wz hz => ?_⟩) SD.out ?_
      · clear hz; go_simp; first | done | with_reducible rfl | rfl
      (try simp only [Act.put, List.setIfInBounds_toArray, List.set_cons_zero, List.set_cons_succ])
      refine wpAnyK_take (i := 7) (oi := ⟨some 52, _, _, _, _, _⟩) (v := .int .i64 k) [7] rfl (by kernel_rfl) (by kernel_rfl) (by kernel_rfl) (by kernel_rfl) (fun _ _ _ h => h) (Or.inl ⟨by rfl, fun wz hz => ?_⟩) SD.out ?_
      · clear hz; go_simp; first | done | with_reducible rfl | rfl
      (try simp only [Act.put, List.setIfInBounds_toArray, List.set_cons_zero, List.set_cons_succ])
      refine wpAnyK_take (i := 8) (oi := ⟨some 53, _, _, _, _, _⟩) (v := .pointer (some ⟨b2, o2 + k, none⟩)) [8] rfl (by kernel_rfl) (by kernel_rfl) (by kernel_rfl) (by kernel_rfl) (fun _ _ _ h => h) (Or.inl ⟨by rfl, fun wz hz => ?_⟩) SD.out ?_
      · clear hz; go_simp; first | done | with_reducible rfl | rfl
      (try simp only [Act.put, List.setIfInBounds_toArray, List.set_cons_zero, List.set_cons_succ])
      refine k_load1 (oi := ⟨some 54, _, _, _, _, _⟩) 9 [9] rfl (by kernel_rfl) (by kernel_rfl) (by kernel_rfl) (by kernel_rfl) (fun _ _ _ _ h => h) rfl 53 (.tmp 53) rfl b2 (o2 + k) (by first | rfl | simp [Act.eval, Act.put]) (.int .u64 y) _ (fun u' hu => (hu.t.b.cell (p := ⟨b2, o2 + k, none⟩) HF2.out.1).trans HF2.out.2) Try.underlying53 rfl SD.out ?_
      (try simp only [Act.put, List.setIfInBounds_toArray, List.set_cons_zero, List.set_cons_succ])
      refine wpAnyK_take (i := 10) (oi := ⟨some 55, _, _, _, _, _⟩) (v := .int .u64 (x - y)) [10] rfl (by kernel_rfl) (by kernel_rfl) (by kernel_rfl) (by kernel_rfl) (fun _ _ _ h => h) (Or.inl ⟨by rfl, fun wz hz => ?_⟩) SD.out ?_
      · clear hz; go_simp; first | done | with_reducible rfl | rfl
      (try simp only [Act.put, List.setIfInBounds_toArray, List.set_cons_zero, List.set_cons_succ])
      refine wpAnyK_take (i := 11) (oi := ⟨some 56, _, _, _, _, _⟩) (v := .pointer (some ⟨w.heap.size + 1, k * 2, none⟩)) [12, 11] rfl (by kernel_rfl) (by kernel_rfl) (by kernel_rfl) (by kernel_rfl) (fun _ _ _ h => h) (Or.inl ⟨by rfl, fun wz hz => ?_⟩) SD.out ?_
      · clear hz; go_simp; first | done | with_reducible rfl | rfl
      (try simp only [Act.put, List.setIfInBounds_toArray, List.set_cons_zero, List.set_cons_succ])
      refine wpAnyK_take (i := 12) (oi := ⟨some 57, _, _, _, _, _⟩) (v := .pointer (some ⟨w.heap.size + 1, k * 2 + 1, none⟩)) [12] rfl (by kernel_rfl) (by kernel_rfl) (by kernel_rfl) (by kernel_rfl) (fun _ _ _ h => h) (Or.inl ⟨by rfl, fun wz hz => ?_⟩) SD.out ?_
      · clear hz; go_simp; first | done | with_reducible rfl | rfl
      (try simp only [Act.put, List.setIfInBounds_toArray, List.set_cons_zero, List.set_cons_succ])
      refine wpAnyK_last (o := ⟨none, _, _, _, _, _⟩) (i := 13) (by kernel_rfl) rfl (by kernel_rfl) (fun K hK => ?_)
      rw [if_pos (by rfl)]
      refine wp_store_num 53 (.tmp 57) (.tmp 55) rfl (w.heap.size + 1) (k * 2 + 1) .u64 (flD (mvQ bs cs m k)) (x - y) (rowB_fl SD.out.r) (by rw [flD_len, HQL.out]; omega) (by first | rfl | simp [Act.eval, Act.put]) rfl hiu ?_
      intro w5 U5 B5
      have S5 : Hid (MrS w T0 (mvQ bs cs m (k + 1)) w5) := HNX.out U5 B5 SD.out
      refine hK.out _ _ ?_
      clear hK K U5 B5
      (try simp only [Act.put, List.setIfInBounds_toArray, List.set_cons_zero, List.set_cons_succ])
      refine wpAnyK_done (by kernel_rfl) ?_ _
      clear SD
      go_wp2_with fail
      go_roundw
      case rel => exact ⟨k + 1, by omega, by go_num, S5.out⟩
      case measure => simp [intOf]; omega
end

/-! DeC -/
section
set_option linter.unusedVariables false
set_option linter.unusedSimpArgs false
open Go.RowKit

set_option maxRecDepth 100000

theorem mgA_ok {a b : DlD} (ha : a.ok) (hb : b.ok) : (mgA a b).ok := ⟨addV_rng a.p b.p ha.1.1 hb.1.1, addV_rng a.m b.m ha.2.1 hb.2.1⟩

/-- addTo on the row of a call. -/
theorem addTo_mrs {w : World} {T : Array Value} {Q : List DlD} {k : Nat} {d : DlD} (hk : k < Q.length) (hd : d.ok) (u : World) (hs : MrS w T Q u) :
    Calls Try.prog 33 #[.pointer (some ⟨w.heap.size + 1, k * 2, none⟩), .agg d.cells.toArray] u fun e u' => e = .returned (.int .i64 (atE (Q.getD k zeDl) d)) ∧ ((atE (Q.getD k zeDl) d = 0 ∧ MrS w T (Q.set k (mgA (Q.getD k zeDl) d)) u') ∨ (atE (Q.getD k zeDl) d = 4 ∧ MrS w T Q u')) ∧ Below w.heap.size w u' := by
  refine (addTo_any (w.heap.size + 1) k Q d hk hs.o hd u hs.r).mono ?_
  rintro e u' ⟨he, h⟩
  rcases h with ⟨h0, u1, hb, hu, hr⟩ | ⟨h4, hb⟩
  · have s1 := (hs.call hb).set (mgA_ok (hs.o _ (getD_mem' hk)) hd) hu hr
    exact ⟨he, .inl ⟨h0, s1⟩, s1.t.b⟩
  · exact ⟨he, .inr ⟨h4, hs.call hb⟩, (hs.call hb).t.b⟩

set_option maxHeartbeats 32000000 in
theorem cmrg_any (sv lv : Value) (ns : List NdD) (R : List (List DlD)) (hl : ns.length ≤ 100000) (w : World) (hN : NodesV w sv ns) (hR : RowsV w lv R) :
    Calls Try.prog 25 #[.agg #[sv], lv] w (MrgE (mrgN ns.length R) w) := by
  obtain ⟨ta, tc, rfl, hmx⟩ := hN.shape
  obtain ⟨la, lc, rfl, hlm, _⟩ := id hR
  unfold maxLen at hmx hlm
  have HR := Lib.hid hR
  obtain ⟨A, hA⟩ : ∃ A, Hid (mrgN ns.length R = A) := ⟨_, Lib.hid rfl⟩
  rw [hA.out]
  obtain ⟨m, hm⟩ : ∃ m, Hid (ns.length = m) := ⟨_, Lib.hid rfl⟩
  obtain ⟨L, hL⟩ : ∃ L, Hid (R.length = L) := ⟨_, Lib.hid rfl⟩
  rw [hm.out] at hmx hl hA ⊢
  rw [hL.out] at hlm HR ⊢
  have S0 := Lib.hid (pas_new w #[.slice ta m tc] 25)
  have HZ0 : Hid ((w.alloc (.cells #[.slice ta m tc] 25)).heap.size = w.heap.size + 1) := by show _ = _; simp
  clear hN hR
  go_enter Try.func25, Try.ntmps25
  go_wp2_with fail
  go_loopw [15, 7] (fun iv _ wr => ∃ i : Nat, i ≤ L ∧ iv = .int .i64 i ∧ (∀ j, j < i → (R.getD j []).length = m) ∧ PaS w #[.slice ta m tc] wr ∧ wr.heap.size = w.heap.size + 1) (fun iv _ _ => L - (intOf iv).toNat)
  case atStart => exact ⟨0, Nat.zero_le _, rfl, (fun j hj => by omega), S0.out, HZ0.out⟩
  case round =>
    obtain ⟨i, hi, rfl, hfm, hs, hsz⟩ := hrel
    have HFM := Lib.hid hfm
    have S1 := Lib.hid hs
    have HSZ := Lib.hid hsz
    clear hfm hs hsz S0 HZ0
    by_cases hlt : i < L
    case neg =>
      obtain rfl : L = i := by omega
      have HALL : Hid (A = (match mgI m R L with | none => ([], 4) | some o => (o, 0))) := by
        show A = _
        rw [← hA.out]
        unfold mrgN
        rw [if_pos (List.all_eq_true.2 fun d hd => by obtain ⟨j, hj, rfl⟩ := List.mem_iff_getElem.1 hd; have := HFM.out j (by rw [← hL.out]; exact hj); simpa [List.getD, hj] using this), hL.out]
        rfl
      go_wp2_with (first
        | ((with_reducible refine at_load (.tmp 26) ?_); refine wpList_load_1 23 (.tmp 26) rfl w.heap.size 0 (.slice ta m tc) (S1.out.t.cell 0) rfl _ Try.underlying23 rfl rfl ?_)
        | ((with_reducible refine at_makeEl (.tmp 28) ?_); refine wpList_make_els rfl (.tmp 28) 30 74 rfl zeDl.cells 16 Try.underlying30 info_delta .i64 m rfl (by omega) (by omega) ?_; intro w1 hg1 hs1 hr1; rw [HSZ.out] at hr1 ⊢; have S2 : Hid (MrS w #[.slice ta m tc] (List.replicate m zeDl) w1) := ⟨S1.out.grown hg1 (fun j hj => by cases hj), (by rw [List.map_replicate]; exact hr1), (fun d hd => by rw [List.eq_of_mem_replicate hd]; exact ⟨⟨Int.le_refl _, (by show (0 : Int) ≤ _; omega)⟩, ⟨Int.le_refl _, (by show (0 : Int) ≤ _; omega)⟩⟩)⟩; clear hg1 hs1 hr1))
      go_loopw [32, 10] (fun iv _ wr => MgO w #[.slice ta m tc] m R iv wr) (fun iv _ _ => L - (intOf iv).toNat)
      case atStart => exact ⟨0, _, Nat.zero_le _, rfl, rfl, by simp, S2.out⟩
      case round =>
        obtain ⟨i, Q, hi, rfl, hgi, hql, hs⟩ := hrel
        have HGI := Lib.hid hgi
        have HQL := Lib.hid hql
        have S3 := Lib.hid hs
        clear hgi hql hs S2
        rw [hL.out] at hi
        by_cases hlt2 : i < L
        case neg =>
          obtain rfl : L = i := by omega
          have HRR : Hid (A = (Q, 0)) := by show A = _; rw [HALL.out, HGI.out]
          go_wp2_with fail
          go_ret2
          exact ⟨_, by rw [HRR.out]; rfl, by rw [HRR.out]; have := S3.out.deltas (by rw [HQL.out]; unfold maxLen; omega) m; rw [HQL.out] at this; exact this, S3.out.t.b⟩
        have hlt2' : (i : Int) < L := by omega
        have HNX : Hid (mgI m R (i + 1) = mgK Q (R.getD i []) m) := by show (mgI m R i).bind _ = _; rw [HGI.out]; rfl
        have HXL : Hid ((R.getD i []).length = m) := HFM.out i (by omega)
        obtain ⟨ds, hds⟩ : ∃ ds, R.getD i [] = ds := ⟨_, rfl⟩
        obtain ⟨b, off, x, rfl, hb, hc, hx⟩ := HR.out.at (i := i) (by rw [hL.out]; exact hlt2)
        rw [hds] at HNX HXL hx
        clear hds
        obtain ⟨xa, xc, rfl, hxm⟩ := ElV.shape hx
        rw [HXL.out] at hc hx
        have HX := Lib.hid hx
        have HC := Lib.hid ((S3.out.t.b.cell (p := ⟨b, off + i, none⟩) hb).trans hc)
        clear hxm hx hc
        go_wp2_with (first
          | ((with_reducible refine at_load (.tmp 34) ?_); refine wpList_load_1 30 (.tmp 34) rfl b (off + i) (.slice xa m xc) HC.out rfl _ Try.underlying30 rfl rfl ?_))
        go_loopw [38, 11, 12] (fun kv _ _ wr => MgJ w #[.slice ta m tc] m Q ds kv wr) (fun kv _ _ _ => m - (intOf kv).toNat)
        case atStart => exact ⟨0, _, Nat.zero_le _, rfl, rfl, HQL.out, S3.out⟩
        case round =>
          obtain ⟨k, P, hk, rfl, hgk, hpl, hs⟩ := hrel
          have HGK := Lib.hid hgk
          have HPL := Lib.hid hpl
          have S4 := Lib.hid hs
          clear hgk hpl hs S3
          by_cases hlt3 : k < m
          case neg =>
            obtain rfl : m = k := by omega
            go_wp2_with fail
            go_roundw
            case rel => exact ⟨i + 1, P, by rw [hL.out]; omega, by go_num, by rw [HNX.out]; exact HGK.out, HPL.out, S4.out⟩
            case measure => simp [intOf]; omega
          have hlt3' : (k : Int) < m := by omega
          obtain ⟨xb, xo, rfl, _hxl, hxb, hxr, hxo⟩ := HX.out.elem (i := k) (by rw [HXL.out]; exact hlt3)
          clear _hxl
          have HXR := Lib.hid hxr
          have HGOOD := Lib.hid (fun a b => mgK_good (k := k) HGK.out a b)
          have HBAD := Lib.hid (fun a => mgK_bad (k := k) HGK.out a)
          have HAD := Lib.hid (addTo_mrs (w := w) (T := #[.slice ta m tc]) (Q := P) (k := k) (d := ds.getD k zeDl) (by rw [HPL.out]; exact hlt3) hxo)
          have HAO := Lib.hid (fun h => atE_ok (a := P.getD k zeDl) (b := ds.getD k zeDl) h)
          have HAN := Lib.hid (fun h => atE_no (a := P.getD k zeDl) (b := ds.getD k zeDl) h)
          have hiL := info_dl (ds.getD k zeDl)
          obtain ⟨p, hp⟩ : ∃ p, P.getD k zeDl = p := ⟨_, rfl⟩
          obtain ⟨d, hd⟩ : ∃ d, ds.getD k zeDl = d := ⟨_, rfl⟩
          rw [hp] at HGOOD HBAD HAD HAO HAN
          rw [hd] at HXR HGOOD HBAD HAD HAO HAN hiL
          obtain ⟨E, hE⟩ : ∃ E, atE p d = E := ⟨_, rfl⟩
          rw [hE] at HAD HAO HAN
          obtain ⟨L2, hL2⟩ : ∃ L, d.cells = L := ⟨_, rfl⟩
          rw [hL2] at HXR HAD hiL
          clear hp hd hE hL2 hxr hxo
          have KB : Hid (E ≠ 0 → A = ([], 4)) := fun h => by rw [HALL.out, mgI_stop (k := i + 1) (by rw [HNX.out]; exact mgK_stop (HBAD.out (HAN.out h).2) _ (by omega)) L (by omega)]
          have HAO2 : Hid (E = 0 → mgK Q ds (k + 1) = some (P.set k (mgA p d))) := fun h => HGOOD.out (HAO.out h).1 (HAO.out h).2
          clear HGOOD HBAD HAO HAN
          go_wp2_with fail
          have HSx : Hid (Below w.heap.size w wr.drew) := S4.out.t.b.trans ((below_drew wr).mono S4.out.t.b.size)
          have SD : Hid (MrS w #[.slice ta m tc] P wr.drew) := S4.out.call (below_drew wr)
          refine wp_region_held_drew (S := fun u => Below w.heap.size w u) (by kernel_rfl) (HSx.out) (fun _ => ?_)
          (try simp only [Act.put, List.setIfInBounds_toArray, List.set_cons_zero, List.set_cons_succ])
          obtain ⟨x0, hx0⟩ : ∃ x, wr.drew = x := ⟨_, rfl⟩
          rw [hx0] at HSx SD ⊢
          clear hx0
          refine wpAnyH_take (i := 0) (oi := ⟨some 41, _, _, _, _, _⟩) (v := .slice (some ⟨w.heap.size + 1, 0, none⟩) m m) rfl (by kernel_rfl) (by kernel_rfl) (by kernel_rfl) (fun _ _ _ h => h) (Or.inl ⟨by rfl, fun wz hz => ?_⟩) HSx.out ?_
          · clear hz; go_simp; first | done | with_reducible rfl | rfl
          (try simp only [Act.put, List.setIfInBounds_toArray, List.set_cons_zero, List.set_cons_succ])
          refine wpAnyH_take (i := 1) (oi := ⟨some 42, _, _, _, _, _⟩) (v := .int .i64 k) rfl (by kernel_rfl) (by kernel_rfl) (by kernel_rfl) (fun _ _ _ h => h) (Or.inl ⟨by rfl, fun wz hz => ?_⟩) HSx.out ?_
          · clear hz; go_simp; first | done | with_reducible rfl | rfl
          (try simp only [Act.put, List.setIfInBounds_toArray, List.set_cons_zero, List.set_cons_succ])
          refine wpAnyH_take (i := 2) (oi := ⟨some 43, _, _, _, _, _⟩) (v := .pointer (some ⟨w.heap.size + 1, k * 2, none⟩)) rfl (by kernel_rfl) (by kernel_rfl) (by kernel_rfl) (fun _ _ _ h => h) (Or.inl ⟨by rfl, fun wz hz => ?_⟩) HSx.out ?_
          · clear hz; go_simp; first | done | with_reducible rfl | rfl
          (try simp only [Act.put, List.setIfInBounds_toArray, List.set_cons_zero, List.set_cons_succ])
          refine wpAnyH_take (i := 3) (oi := ⟨some 44, _, _, _, _, _⟩) (v := .slice (some ⟨xb, xo, none⟩) m xc) rfl (by kernel_rfl) (by kernel_rfl) (by kernel_rfl) (fun _ _ _ h => h) (Or.inl ⟨by rfl, fun wz hz => ?_⟩) HSx.out ?_
          · clear hz; go_simp; first | done | with_reducible rfl | rfl
          (try simp only [Act.put, List.setIfInBounds_toArray, List.set_cons_zero, List.set_cons_succ])
          refine wpAnyH_take (i := 4) (oi := ⟨some 45, _, _, _, _, _⟩) (v := .int .i64 k) rfl (by kernel_rfl) (by kernel_rfl) (by kernel_rfl) (fun _ _ _ h => h) (Or.inl ⟨by rfl, fun wz hz => ?_⟩) HSx.out ?_
          · clear hz; go_simp; first | done | with_reducible rfl | rfl
          (try simp only [Act.put, List.setIfInBounds_toArray, List.set_cons_zero, List.set_cons_succ])
          refine wpAnyH_take (i := 5) (oi := ⟨some 46, _, _, _, _, _⟩) (v := .pointer (some ⟨xb, xo + k * 2, none⟩)) rfl (by kernel_rfl) (by kernel_rfl) (by kernel_rfl) (fun _ _ _ h => h) (Or.inl ⟨by rfl, fun wz hz => ?_⟩) HSx.out ?_
          · clear hz; go_simp; first | done | with_reducible rfl | rfl
          (try simp only [Act.put, List.setIfInBounds_toArray, List.set_cons_zero, List.set_cons_succ])
          refine held_load (oi := ⟨some 47, _, _, _, _, _⟩) 6 rfl (by kernel_rfl) (by kernel_rfl) (by kernel_rfl) (fun _ _ _ _ h => h) rfl 74 (.tmp 46) rfl xb (xo + k * 2) rfl L2 _ (fun u' hu => Below.rng hu hxb HXR.out) Try.underlying74 rfl (hiL) HSx.out ?_
          (try simp only [Act.put, List.setIfInBounds_toArray, List.set_cons_zero, List.set_cons_succ])
          refine wpAnyH_ready (rs := [7]) (by kernel_rfl) (by simp) ?_
          refine AllReadyH.cons (o := ⟨some 48, _, _, _, _, _⟩) rfl (fun K hK => ?_) AllReadyH.nil
          go_simp
          refine (HAD.out _ SD.out).mono ?_
          rintro e x1 ⟨rfl, hres, hb1⟩
          have HRES := Lib.hid hres
          have HSx : Hid (Below w.heap.size w x1) := hb1
          clear hres hb1
          refine hK.out _ _ (HSx.out) (fun _ => ?_)
          clear hK K
          (try simp only [Act.put, List.setIfInBounds_toArray, List.set_cons_zero, List.set_cons_succ])
          refine wpAnyH_ready (rs := [8]) (by kernel_rfl) (by simp) ?_
          refine AllReadyH.cons (o := ⟨some 12, _, _, _, _, _⟩) rfl (fun K hK => ?_) AllReadyH.nil
          go_simp
          refine hK.out _ _ (HSx.out) (fun _ => ?_)
          clear hK K
          (try simp only [Act.put, List.setIfInBounds_toArray, List.set_cons_zero, List.set_cons_succ])
          refine wpAnyH_done (by kernel_rfl) ?_ _
          rcases HRES.out with ⟨rfl, hs⟩ | ⟨rfl, hs⟩
          · have S5 := Lib.hid hs
            clear hs HRES
            go_wp2_with fail
            go_roundw
            case rel => exact ⟨k + 1, _, by omega, by go_num, HAO2.out rfl, by rw [List.length_set, HPL.out], S5.out⟩
            case measure => simp [intOf]; omega
          · have S5 := Lib.hid hs
            clear hs HRES
            go_wp2_with fail
            go_ret2
            have := KB.out (by decide)
            exact ⟨_, by rw [this]; rfl, by rw [this]; exact deltas_nil _, S5.out.t.b⟩
    have hlt' : (i : Int) < L := by omega
    obtain ⟨b, off, x, rfl, hb, hc, hx⟩ := (HR.out.call S1.out.b).at (i := i) (by rw [hL.out]; exact hlt)
    obtain ⟨xa, xc, rfl, hxm⟩ := ElV.shape hx
    unfold maxLen at hxm
    obtain ⟨xl, hxl⟩ : ∃ n, Hid ((R.getD i []).length = n) := ⟨_, Lib.hid rfl⟩
    rw [hxl.out] at hc hxm
    have hct := S1.out.t.cell 0
    have HC := Lib.hid hc
    clear hx hc
    by_cases hxe : xl = m
    · have hne : ((xl : Int) != (m : Int)) = false := by simp [hxe]
      go_wp2_with (first
        | ((with_reducible refine at_load (.tmp 17) ?_); refine wpList_load_1 30 (.tmp 17) rfl b (off + i) (.slice xa xl xc) HC.out rfl _ Try.underlying30 rfl rfl ?_)
        | ((with_reducible refine at_load (.tmp 21) ?_); refine wpList_load_1 23 (.tmp 21) rfl w.heap.size 0 (.slice ta m tc) hct rfl _ Try.underlying23 rfl rfl ?_))
      go_roundw
      case rel => exact ⟨i + 1, by omega, by go_num, (fun j hj => by rcases Nat.lt_succ_iff_lt_or_eq.1 hj with h | rfl; exact HFM.out j h; rw [hxl.out]; exact hxe), S1.out, HSZ.out⟩
      case measure => simp [intOf]; omega
    · have hne : ((xl : Int) != (m : Int)) = true := by simp; omega
      have HBAD : Hid (A = ([], 2)) := by
        show A = _
        rw [← hA.out]
        unfold mrgN
        rw [if_neg (fun h => hxe (by have := List.all_eq_true.1 h (R.getD i []) (getD_mem' (by rw [hL.out]; exact hlt)); rw [← hxl.out]; simpa using this))]
      go_wp2_with (first
        | ((with_reducible refine at_load (.tmp 17) ?_); refine wpList_load_1 30 (.tmp 17) rfl b (off + i) (.slice xa xl xc) HC.out rfl _ Try.underlying30 rfl rfl ?_)
        | ((with_reducible refine at_load (.tmp 21) ?_); refine wpList_load_1 23 (.tmp 21) rfl w.heap.size 0 (.slice ta m tc) hct rfl _ Try.underlying23 rfl rfl ?_))
      go_ret2
      exact ⟨_, by rw [HBAD.out]; rfl, by rw [HBAD.out]; exact deltas_nil _, S1.out.b⟩
end

/-! DeP -/
section
set_option linter.unusedVariables false
set_option linter.unusedSimpArgs false
open Go.RowKit

set_option maxRecDepth 100000
/-! ### Apply in exact sums -/

def dP (ds : List DlD) (x : Nat) : Int := (ds.getD x zeDl).p

def dM (ds : List DlD) (x : Nat) : Int := (ds.getD x zeDl).m

theorem dl_at {ds : List DlD} (h : ∀ d ∈ ds, d.ok) (x : Nat) : (ds.getD x zeDl).ok := by
  by_cases hx : x < ds.length
  · exact h _ (getD_mem' hx)
  · rw [List.getD_eq_getElem?_getD, List.getElem?_eq_none (by omega)]
    exact ⟨⟨Int.le_refl _, (by show (0 : Int) ≤ _; omega)⟩, ⟨Int.le_refl _, (by show (0 : Int) ≤ _; omega)⟩⟩

theorem dP_pos {ds : List DlD} (h : ∀ d ∈ ds, d.ok) (x : Nat) : 0 ≤ dP ds x := (dl_at h x).1.1

theorem dM_pos {ds : List DlD} (h : ∀ d ∈ ds, d.ok) (x : Nat) : 0 ≤ dM ds x := (dl_at h x).2.1

theorem sum_sel (g : Nat → Int) (p : Nat → Bool) : ∀ k, ((selK p k).map fun j => g j.toNat).sum = sumX (fun x => if p x = true then g x else 0) k
  | 0 => rfl
  | k + 1 => by
    have ih := sum_sel g p k
    rw [sumX_succ]
    cases h : p k
    · rw [selK_no h, ih]; simp
    · rw [selK_yes h, List.map_append, List.sum_append, ih]; simp

theorem pls_X (ns : List NdD) (ds : List DlD) (i : Nat) : (plsN ds (descN ns (i : Int))).sum = sbX ns (dP ds) i := sum_sel (dP ds) _ _

theorem mns_X (ns : List NdD) (ds : List DlD) (i : Nat) : (mnsN ds (descN ns (i : Int))).sum = sbX ns (dM ds) i := sum_sel (dM ds) _ _

theorem sbX_pos {ns : List NdD} {f : Nat → Int} (h : ∀ x, 0 ≤ f x) (j : Nat) : 0 ≤ sbX ns f j := by
  unfold sbX
  refine sumX_pos fun k _ => ?_
  show 0 ≤ (if ancB ns j k = true then f k else 0)
  have := h k
  split <;> omega

/-- The weight of node i behind the change. -/
def apX (ns : List NdD) (ws : List Int) (ds : List DlD) (i : Nat) : Int := ws.getD i 0 + sbX ns (dP ds) i - sbX ns (dM ds) i

/-- Whether the numbers of node i fit. -/
def ApK (ns : List NdD) (ws : List Int) (ds : List DlD) (i : Nat) : Prop :=
  sbX ns (dP ds) i ≤ 18446744073709551615 ∧ sbX ns (dM ds) i ≤ 18446744073709551615 ∧ 0 ≤ apX ns ws ds i ∧ apX ns ws ds i ≤ 18446744073709551615

theorem aplI_ok {ns : List NdD} {ws : List Int} {ds : List DlD} {i : Nat} (h : ApK ns ws ds i) : aplI ns ws ds i = (apX ns ws ds i, 0) := by
  obtain ⟨h1, h2, h3, h4⟩ := h
  have p1 := sum_lo (xs := plsN ds (descN ns (i : Int))) (by rw [pls_X]; exact h1)
  have m1 := sum_lo (xs := mnsN ds (descN ns (i : Int))) (by rw [mns_X]; exact h2)
  unfold aplI
  rw [p1.2, m1.2, if_neg (by simp), p1.1, m1.1, pls_X, mns_X]
  unfold apX at h3 h4 ⊢
  split
  · unfold addV addE
    rw [if_pos (by omega), if_pos (by omega)]
    congr 1; omega
  · unfold subV subE
    rw [if_pos (by omega), if_pos (by omega)]
    congr 1; omega

theorem ws_at {ws : List Int} (h : Rng ws) (i : Nat) : 0 ≤ ws.getD i 0 ∧ ws.getD i 0 ≤ 18446744073709551615 := by
  by_cases hi : i < ws.length
  · exact h _ (getD_mem' hi)
  · rw [List.getD_eq_getElem?_getD, List.getElem?_eq_none (by omega)]; simp

theorem aplI_no {ns : List NdD} {ws : List Int} (hw : Rng ws) {ds : List DlD} {i : Nat} (h : ¬ ApK ns ws ds i) : (aplI ns ws ds i).2 = 4 := by
  unfold aplI
  by_cases h1 : sbX ns (dP ds) i ≤ 18446744073709551615
  case neg =>
    rw [if_pos (.inl (by rw [(sum_hi (xs := plsN ds (descN ns (i : Int))) (by rw [pls_X]; omega)).2]; decide))]
  by_cases h2 : sbX ns (dM ds) i ≤ 18446744073709551615
  case neg =>
    rw [if_pos (.inr (by rw [(sum_hi (xs := mnsN ds (descN ns (i : Int))) (by rw [mns_X]; omega)).2]; decide))]
  have p1 := sum_lo (xs := plsN ds (descN ns (i : Int))) (by rw [pls_X]; exact h1)
  have m1 := sum_lo (xs := mnsN ds (descN ns (i : Int))) (by rw [mns_X]; exact h2)
  have h3 : ¬ (0 ≤ apX ns ws ds i ∧ apX ns ws ds i ≤ 18446744073709551615) := fun z => h ⟨h1, h2, z⟩
  rw [p1.2, m1.2, if_neg (by simp), p1.1, m1.1, pls_X, mns_X]
  unfold apX at h3
  have hwi := ws_at hw i
  by_cases h5 : sbX ns (dM ds) i ≤ sbX ns (dP ds) i
  · rw [if_pos h5]
    unfold addE
    by_cases h6 : ws.getD i 0 + (sbX ns (dP ds) i - sbX ns (dM ds) i) ≤ 18446744073709551615
    · exact absurd ⟨by omega, by omega⟩ h3
    · rw [if_neg h6]
  · rw [if_neg h5]
    unfold subE
    by_cases h6 : sbX ns (dM ds) i - sbX ns (dP ds) i ≤ ws.getD i 0
    · exact absurd ⟨by omega, by omega⟩ h3
    · rw [if_neg h6]

theorem aplK_ok {ns : List NdD} {ws : List Int} {ds : List DlD} : ∀ {k : Nat}, (∀ i, i < k → ApK ns ws ds i) → aplK ns ws ds k = ((List.range k).map (apX ns ws ds), 0)
  | 0, _ => rfl
  | k + 1, h => by
    have ih := aplK_ok (k := k) fun i hi => h i (by omega)
    rw [aplK_good ih (aplI_ok (h k (by omega))), List.range_succ, List.map_append]; rfl

theorem aplK_no {ns : List NdD} {ws : List Int} (hw : Rng ws) {ds : List DlD} : ∀ {k i : Nat}, i < k → ¬ ApK ns ws ds i → aplK ns ws ds k = ([], 4)
  | k + 1, i, hi, h => by
    by_cases hx : ∃ j, j < k ∧ ¬ ApK ns ws ds j
    · obtain ⟨j, hj, hn⟩ := hx
      exact aplK_stop (aplK_no hw hj hn) (by decide) _ (by omega)
    · have ih := aplK_ok (k := k) fun j hj => Classical.byContradiction fun z => hx ⟨j, hj, z⟩
      have hnk : ¬ i < k := fun hj => hx ⟨i, hj, h⟩
      have hik : i = k := by omega
      subst hik
      exact aplK_bad ih (aplI_no hw h) (by decide)
/-! ### The pass from the end -/

theorem psX_pos {ns : List NdD} {f : Nat → Int} (h : ∀ x, 0 ≤ f x) (i j : Nat) : 0 ≤ psX ns f i j := by
  have h1 := h j
  have h2 : 0 ≤ sumX (fun c => if i < c ∧ upI ns c = (j : Int) then sbX ns f c else 0) ns.length := sumX_pos fun c _ => by
    show 0 ≤ (if i < c ∧ upI ns c = (j : Int) then sbX ns f c else 0)
    have := sbX_pos (ns := ns) h c
    split <;> omega
  unfold psX
  omega

theorem psX_le {ns : List NdD} (hok : TrOK ns) {f : Nat → Int} (h : ∀ x, 0 ≤ f x) (i : Nat) {j : Nat} (hj : j < ns.length) : psX ns f i j ≤ sbX ns f j := by
  rw [sbX_rec hok f hj]
  unfold psX
  have := sumX_le (n := ns.length) (f := fun c => if i < c ∧ upI ns c = (j : Int) then sbX ns f c else 0) (g := fun c => if upI ns c = (j : Int) then sbX ns f c else 0) fun c _ => by
    show (if i < c ∧ upI ns c = (j : Int) then sbX ns f c else 0) ≤ (if upI ns c = (j : Int) then sbX ns f c else 0)
    have h1 := sbX_pos (ns := ns) h c
    by_cases hu : upI ns c = (j : Int)
    · rw [if_pos hu]; split <;> omega
    · rw [if_neg hu, if_neg (fun z => hu z.2)]; omega
  omega

/-- The row of sums when the nodes behind i have been added to their parents. -/
def psD (ns : List NdD) (ds : List DlD) (i : Nat) : List DlD := (List.range ns.length).map fun j => ⟨psX ns (dP ds) i j, psX ns (dM ds) i j⟩

theorem psD_len (ns : List NdD) (ds : List DlD) (i : Nat) : (psD ns ds i).length = ns.length := by simp [psD]

theorem psD_get {ns : List NdD} (ds : List DlD) (i : Nat) {j : Nat} (hj : j < ns.length) : (psD ns ds i).getD j zeDl = ⟨psX ns (dP ds) i j, psX ns (dM ds) i j⟩ := by
  simp [psD, List.getD_eq_getElem?_getD, hj]

theorem psD_here {ns : List NdD} (h : TrOK ns) (ds : List DlD) {i : Nat} (hi : i < ns.length) : (psD ns ds i).getD i zeDl = ⟨sbX ns (dP ds) i, sbX ns (dM ds) i⟩ := by
  rw [psD_get ds i hi, psX_done h _ (Nat.le_refl _) hi, psX_done h _ (Nat.le_refl _) hi]

theorem ext_dl {l r : List DlD} (hl : l.length = r.length) (h : ∀ j, j < l.length → l.getD j zeDl = r.getD j zeDl) : l = r := by
  apply List.ext_getElem hl
  intro j h1 h2
  have := h j h1
  simpa [List.getD_eq_getElem?_getD, h1, h2] using this

theorem psD_first {ns : List NdD} {ds : List DlD} (hl : ds.length = ns.length) : psD ns ds (ns.length - 1) = ds := by
  refine ext_dl (by rw [psD_len, hl]) fun j hj => ?_
  rw [psD_len] at hj
  rw [psD_get ds _ hj, psX_first, psX_first]
  rfl

theorem psD_step {ns : List NdD} (h : TrOK ns) (ds : List DlD) {i p : Nat} (hi : i + 1 < ns.length) (hp : upI ns (i + 1) = p)
    (h1 : addE ((psD ns ds (i + 1)).getD p zeDl).p ((psD ns ds (i + 1)).getD (i + 1) zeDl).p = 0) (h2 : addE ((psD ns ds (i + 1)).getD p zeDl).m ((psD ns ds (i + 1)).getD (i + 1) zeDl).m = 0) :
    (psD ns ds (i + 1)).set p (mgA ((psD ns ds (i + 1)).getD p zeDl) ((psD ns ds (i + 1)).getD (i + 1) zeDl)) = psD ns ds i := by
  have hub := upI_bd h hi
  have hpn : p < ns.length := by omega
  refine ext_dl (by rw [List.length_set, psD_len, psD_len]) fun j hj => ?_
  rw [List.length_set, psD_len] at hj
  rw [psD_get ds i hj, psX_step _ hi, psX_step _ hi]
  simp only [List.getD_eq_getElem?_getD, List.getElem?_set, psD_len]
  by_cases e : p = j
  · subst e
    rw [if_pos rfl, if_pos hpn, if_pos hp, if_pos hp, Option.getD_some]
    rw [psD_get ds _ hpn, psD_here h ds hi] at h1 h2
    rw [← List.getD_eq_getElem?_getD, ← List.getD_eq_getElem?_getD, psD_get ds _ hpn, psD_here h ds hi]
    unfold mgA
    unfold addE at h1 h2
    unfold addV
    simp only at h1 h2 ⊢
    rw [if_pos (by split at h1; assumption; cases h1), if_pos (by split at h2; assumption; cases h2)]
  · rw [if_neg e, if_neg (by rw [hp]; omega), if_neg (by rw [hp]; omega), Int.add_zero, Int.add_zero]
    have := psD_get ds (i + 1) hj
    rw [List.getD_eq_getElem?_getD] at this
    exact this

theorem psD_bad {ns : List NdD} (h : TrOK ns) {ws : List Int} {ds : List DlD} (hd : ∀ d ∈ ds, d.ok) {i p : Nat} (hi : i + 1 < ns.length) (hp : upI ns (i + 1) = p)
    (hb : addE ((psD ns ds (i + 1)).getD p zeDl).p ((psD ns ds (i + 1)).getD (i + 1) zeDl).p ≠ 0 ∨ addE ((psD ns ds (i + 1)).getD p zeDl).m ((psD ns ds (i + 1)).getD (i + 1) zeDl).m ≠ 0) : ¬ ApK ns ws ds p := by
  have hub := upI_bd h hi
  have hpn : p < ns.length := by omega
  rw [psD_get ds _ hpn, psD_here h ds hi] at hb
  have s1 := psX_step (ns := ns) (dP ds) (j := p) hi
  have s2 := psX_step (ns := ns) (dM ds) (j := p) hi
  rw [if_pos hp] at s1 s2
  have l1 := psX_le h (dP_pos hd) i hpn
  have l2 := psX_le h (dM_pos hd) i hpn
  rintro ⟨k1, k2, _⟩
  unfold addE at hb
  simp only at hb
  rcases hb with hb | hb
  · exact hb (if_pos (by omega))
  · exact hb (if_pos (by omega))

/-- The row of weights when the nodes from k on are done. -/
def chL (ns : List NdD) (ws : List Int) (ds : List DlD) (k : Nat) : List Int := (List.range ns.length).map fun j => if k ≤ j then apX ns ws ds j else 0

theorem chL_len (ns : List NdD) (ws : List Int) (ds : List DlD) (k : Nat) : (chL ns ws ds k).length = ns.length := by simp [chL]

theorem chL_first (ns : List NdD) (ws : List Int) (ds : List DlD) : chL ns ws ds ns.length = List.replicate ns.length 0 := by
  refine ext_getD (by simp [chL]) fun j hj => ?_
  rw [chL_len] at hj
  simp [chL, List.getD_eq_getElem?_getD, hj]
  intro hk; omega

theorem chL_step {ns : List NdD} (ws : List Int) (ds : List DlD) {k : Nat} (hk : k < ns.length) : (chL ns ws ds (k + 1)).set k (apX ns ws ds k) = chL ns ws ds k := by
  refine ext_getD (by simp [chL]) fun j hj => ?_
  rw [List.length_set, chL_len] at hj
  simp only [List.getD_eq_getElem?_getD, List.getElem?_set, chL_len]
  by_cases e : k = j
  · subst e
    simp [chL, hj]
  · rw [if_neg e]
    simp only [chL, List.getElem?_map, List.getElem?_range hj, Option.map_some, Option.getD_some]
    by_cases h : k ≤ j
    · rw [if_pos h, if_pos (by omega)]
    · rw [if_neg h, if_neg (by omega)]

theorem chL_end (ns : List NdD) (ws : List Int) (ds : List DlD) : chL ns ws ds 0 = (List.range ns.length).map (apX ns ws ds) := by
  unfold chL
  exact List.map_congr_left fun j _ => if_pos (Nat.zero_le j)
end

/-! DeD -/
section
set_option linter.unusedVariables false
set_option linter.unusedSimpArgs false
open Go.RowKit

set_option maxRecDepth 100000

theorem wp_makeU {o : Oper} {a : Act} {w : World} {K : Act → World → Prop} {Q : Exit → Act → World → Prop} (hop : ∃ l, o.op = Op.makeSlice 27 l l ∧ ∃ kl n, a.eval l = .int kl ((n : Nat) : Int) ∧ n ≤ 1000000 ∧
    ∀ w', Below w.heap.size w w' → RowB w' w.heap.size (numL .u64 (List.replicate n 0)) → K (a.put o.dst (.slice (some ⟨w.heap.size, 0, none⟩) n n)) w') : o.wp Try.prog a w K Q := by
  obtain ⟨l, hop, kl, n, hl, hn, hK⟩ := hop
  obtain ⟨i0, hi0, hz0, hz1, hz2⟩ := info_parts info_u64c
  have hr := run_make (P := Try.prog) w 27 53 i0 (.int .u64 0) Try.underlying27 hi0 hz0 kl kl n n (by omega) (by omega) (by rw [hz2]; omega) (by omega)
  simp only [Int.toNat_natCast, hz1, Nat.mul_one] at hr
  have hm : madeCells (Value.int .u64 0).cells n = flatP (numL .u64 (List.replicate n 0) ++ [[]]) := by
    apply Array.toList_inj.1
    rw [show (Value.int .u64 0).cells = #[Value.int .u64 0] from rfl, toList_madeCells_one]
    unfold flatP
    rw [List.flatten_append, numL_flat]
    simp
  rw [hm] at hr
  unfold Oper.wp
  simp only [execOp, hop, hl, Sem.run_bind, hr, Result.andThen, Sem.run_pure]
  exact hK _ ((Below.refl _ w).alloc (Nat.le_refl _) _) ⟨[], Blk.new rfl⟩

theorem ownRow {u : World} {B : Nat} {v : Value} {ds : List DlD} (h : OwnEl DlEl 74 2 u B v ds) (h0 : 0 < ds.length) :
    ∃ g c, v = .slice (some ⟨g, 0, none⟩) ds.length c ∧ B ≤ g ∧ RowB u g (ds.map DlD.cells) := by
  have h2 := h
  obtain ⟨Xs, h1, _⟩ := h
  rcases h1.2 with ⟨_, h3⟩ | ⟨g, cap, cur, rfl, _⟩
  · omega
  · obtain ⟨r1, r2, r3⟩ := OwnEl.rowB dlOK (enc := DlD.cells) (fun hX => hX.1) h2
    exact ⟨g, cap, rfl, r2, r1⟩
/-! ### The tree's box and the two rows -/

structure ApS (w : World) (T : Array Value) (g h : Nat) (Q : List DlD) (C : List Int) (u : World) : Prop where
  p : PaS w T u
  q : RowB u g (Q.map DlD.cells)
  c : RowB u h (numL .u64 C)
  o : ∀ d ∈ Q, d.ok
  gg : w.heap.size < g
  hh : w.heap.size < h
  ne : g ≠ h

theorem ApS.call {w u u' : World} {T : Array Value} {g h : Nat} {Q : List DlD} {C : List Int} (s : ApS w T g h Q C u) (hb : Below u.heap.size u u') : ApS w T g h Q C u' := ⟨s.p.call hb, s.q.call hb, s.c.call hb, s.o, s.gg, s.hh, s.ne⟩

theorem ApS.setQ {w u u' : World} {T : Array Value} {g h : Nat} {Q : List DlD} {C : List Int} (s : ApS w T g h Q C u) {k : Nat} {d : DlD} (hd : d.ok) (hu : Upd g u u') (hr : RowB u' g ((Q.map DlD.cells).set k d.cells)) : ApS w T g h (Q.set k d) C u' :=
  ⟨⟨hu.blk s.p.t (by have := s.gg; omega), hu.below s.p.b (by have := s.gg; omega)⟩, by rw [List.map_set]; exact hr, s.c.upd hu (fun e => s.ne e.symm), fun x hx => (List.mem_or_eq_of_mem_set hx).elim (s.o x) (fun e => e ▸ hd), s.gg, s.hh, s.ne⟩

theorem ApS.setC {w u u' : World} {T : Array Value} {g h : Nat} {Q : List DlD} {C C' : List Int} (s : ApS w T g h Q C u) (hu : Upd h u u') (hr : RowB u' h (numL .u64 C')) : ApS w T g h Q C' u' :=
  ⟨⟨hu.blk s.p.t (by have := s.hh; omega), hu.below s.p.b (by have := s.hh; omega)⟩, s.q.upd hu s.ne, hr, s.o, s.gg, s.hh, s.ne⟩

theorem ApS.elem {w u : World} {T : Array Value} {g h : Nat} {Q : List DlD} {C : List Int} (s : ApS w T g h Q C u) {k : Nat} (hk : k < Q.length) : u.rangeAt g (k * 2) (Q.getD k zeDl).cells :=
  s.q.elem (cells2 Q) (by simp [List.getD, hk])

/-- addTo on the row of sums. -/
theorem addTo_ap {w : World} {T : Array Value} {g h : Nat} {Q : List DlD} {C : List Int} {k i : Nat} (hk : k < Q.length) (hi : i < Q.length) (hik : k ≠ i) (u : World) (hs : ApS w T g h Q C u) :
    Calls Try.prog 33 #[.pointer (some ⟨g, k * 2, none⟩), .agg (Q.getD i zeDl).cells.toArray] u fun e u' => e = .returned (.int .i64 (atE (Q.getD k zeDl) (Q.getD i zeDl))) ∧ ((atE (Q.getD k zeDl) (Q.getD i zeDl) = 0 ∧ ApS w T g h (Q.set k (mgA (Q.getD k zeDl) (Q.getD i zeDl))) C u') ∨ (atE (Q.getD k zeDl) (Q.getD i zeDl) = 4 ∧ ApS w T g h Q C u')) ∧ u'.rangeAt g (i * 2) (Q.getD i zeDl).cells ∧ PaS w T u' := by
  have hd := hs.o _ (getD_mem' (d := zeDl) hi)
  refine (addTo_any g k Q _ hk hs.o hd u hs.q).mono ?_
  rintro e u' ⟨he, hr⟩
  rcases hr with ⟨h0, u1, hb, hu, hr⟩ | ⟨h4, hb⟩
  · have s1 := (hs.call hb).setQ (mgA_ok (hs.o _ (getD_mem' hk)) hd) hu hr
    refine ⟨he, .inl ⟨h0, s1⟩, ?_, s1.p⟩
    have := s1.elem (k := i) (by rw [List.length_set]; exact hi)
    simp only [List.getD_eq_getElem?_getD, List.getElem?_set, if_neg hik] at this ⊢
    exact this
  · have s1 := hs.call hb
    exact ⟨he, .inr ⟨h4, s1⟩, s1.elem hi, s1.p⟩

/-- What change says of a node whose descendants have been added up. -/
theorem ap_step {ns : List NdD} (hok : TrOK ns) (ws : List Int) {ds : List DlD} {i : Nat} (hi : i < ns.length) (hq : ∀ d ∈ psD ns ds i, d.ok) :
    (chE (ws.getD i 0) ((psD ns ds i).getD i zeDl) = 0 ∧ ApK ns ws ds i ∧ chV (ws.getD i 0) ((psD ns ds i).getD i zeDl) = apX ns ws ds i) ∨ (chE (ws.getD i 0) ((psD ns ds i).getD i zeDl) = 4 ∧ ¬ ApK ns ws ds i) := by
  have h1 := hq _ (getD_mem' (d := zeDl) (k := i) (by rw [psD_len]; exact hi))
  rw [psD_here hok ds hi] at h1 ⊢
  unfold chE chV ApK
  by_cases h : 0 ≤ apX ns ws ds i ∧ apX ns ws ds i ≤ 18446744073709551615
  · left
    unfold apX at h ⊢
    rw [if_pos h, if_pos h]
    exact ⟨rfl, ⟨h1.1.2, h1.2.2, h.1, h.2⟩, rfl⟩
  · right
    refine ⟨?_, fun z => h ⟨z.2.2.1, z.2.2.2⟩⟩
    unfold apX at h
    rw [if_neg h]

set_option maxHeartbeats 32000000 in
theorem capl_any (sv wv dv : Value) (ns : List NdD) (hok : TrOK ns) (ws : List Int) (ds : List DlD) (hl : ns.length ≤ 100000) (w : World) (hN : NodesV w sv ns) (hW : NumsV w wv ws) (hD : DeltasV w dv ds) :
    Calls Try.prog 16 #[.agg #[sv], wv, dv] w (AplE (aplN ns ws ds) w) := by
  obtain ⟨ta, tc, rfl, hmx⟩ := hN.shape
  unfold maxLen at hmx
  have HN := Lib.hid hN
  have HWV := Lib.hid hW
  have HDV := Lib.hid hD
  obtain ⟨wa, wl, wc0, rfl, hwl, hwm, _⟩ := hW.1
  obtain ⟨da, dc, rfl, hdm⟩ := hD.shape
  unfold maxLen at hwm hdm
  have hi1 : (Try.prog.info? 25).map (·.size) = some 1 := by kernel_rfl
  have hiu : (Try.prog.info? 53).map (·.size) = some 1 := by kernel_rfl
  obtain ⟨R, hR⟩ : ∃ R, Hid (aplN ns ws ds = R) := ⟨_, Lib.hid rfl⟩
  rw [hR.out]
  obtain ⟨m, hm⟩ : ∃ m, Hid (ns.length = m) := ⟨_, Lib.hid rfl⟩
  obtain ⟨dl, hdl⟩ : ∃ n, Hid (ds.length = n) := ⟨_, Lib.hid rfl⟩
  have HPOS := Lib.hid hok.pos
  have HOK := Lib.hid hok
  rw [hm.out] at hmx HN hl HPOS ⊢
  rw [hdl.out] at hdm HDV ⊢
  have HWL := Lib.hid hwl
  have S0 := Lib.hid (pas_new w #[.slice ta m tc] 25)
  have HZ0 : Hid ((w.alloc (.cells #[.slice ta m tc] 25)).heap.size = w.heap.size + 1) := by show _ = _; simp
  clear hN hW hD hok hwl
  go_enter Try.func16, Try.ntmps16
  by_cases h1 : wl = m
  case neg =>
    have h1b : ((wl : Int) != (m : Int)) = true := by simp; omega
    have HR : Hid (R = ([], 2)) := by show R = _; rw [← hR.out]; unfold aplN; rw [if_pos (.inl (by rw [HWL.out, hm.out]; exact h1))]
    clear h1
    go_wp2_with (first
    | ((with_reducible refine at_load (.tmp 15) ?_); refine wpList_load_1 23 (.tmp 15) rfl w.heap.size 0 (.slice ta m tc) (S0.out.t.cell 0) rfl _ Try.underlying23 rfl rfl ?_)
    | ((with_reducible refine at_load (.tmp 22) ?_); refine wpList_load_1 23 (.tmp 22) rfl w.heap.size 0 (.slice ta m tc) (S0.out.t.cell 0) rfl _ Try.underlying23 rfl rfl ?_))
    go_ret2
    exact ⟨_, by rw [HR.out]; rfl, by rw [HR.out]; exact ⟨⟨none, 0, 0, rfl, rfl, Nat.zero_le _, .inl rfl⟩, by simp⟩, S0.out.b⟩
  obtain rfl : m = wl := h1.symm
  clear h1
  have hmmb : ((m : Int) != (m : Int)) = false := by simp
  by_cases h2 : dl = m
  case neg =>
    have h2b : ((dl : Int) != (m : Int)) = true := by simp; omega
    have HR : Hid (R = ([], 2)) := by show R = _; rw [← hR.out]; unfold aplN; rw [if_pos (.inr (by rw [hdl.out, hm.out]; exact h2))]
    clear h2
    go_wp2_with (first
    | ((with_reducible refine at_load (.tmp 15) ?_); refine wpList_load_1 23 (.tmp 15) rfl w.heap.size 0 (.slice ta m tc) (S0.out.t.cell 0) rfl _ Try.underlying23 rfl rfl ?_)
    | ((with_reducible refine at_load (.tmp 22) ?_); refine wpList_load_1 23 (.tmp 22) rfl w.heap.size 0 (.slice ta m tc) (S0.out.t.cell 0) rfl _ Try.underlying23 rfl rfl ?_))
    go_ret2
    exact ⟨_, by rw [HR.out]; rfl, by rw [HR.out]; exact ⟨⟨none, 0, 0, rfl, rfl, Nat.zero_le _, .inl rfl⟩, by simp⟩, S0.out.b⟩
  obtain rfl : m = dl := h2.symm
  clear h2
  have HR : Hid (R = aplK ns ws ds m) := by show R = _; rw [← hR.out]; unfold aplN; rw [if_neg (by rw [HWL.out, hdl.out, hm.out]; simp), hm.out]
  have HDL := hdl
  have HDO : Hid (∀ d ∈ ds, d.ok) := by
    obtain ⟨_, _, _, _, _, _, ho, _⟩ := DeltasV.row (by rw [← HDL.out] at HDV; exact HDV.out) (by rw [HDL.out]; exact HPOS.out)
    exact ho
  obtain ⟨db, doff, dc', edv, hdb, hdr, _, _⟩ := DeltasV.row (by rw [← HDL.out] at HDV; exact HDV.out) (by rw [HDL.out]; exact HPOS.out)
  obtain ⟨rfl, rfl⟩ : da = some ⟨db, doff, none⟩ ∧ dc = dc' := by rw [HDL.out] at edv; cases edv; exact ⟨rfl, rfl⟩
  have HCL := Lib.hid (fun u (hu : Below w.heap.size w u) => cloneD db doff dc ds u (Below.rng hu hdb hdr) (Nat.lt_of_lt_of_le hdb hu.size) HDO.out (by rw [HDL.out]; exact hl))
  rw [HDL.out] at HCL
  have HWR : Hid (Rng ws) := fun x hx => HWV.out.2 x hx
  have HPF : Hid (psD ns ds (m - 1) = ds) := by show _ = _; rw [← hm.out]; exact psD_first (by rw [HDL.out, hm.out])
  have HCF : Hid (chL ns ws ds m = List.replicate m 0) := by show _ = _; have := chL_first ns ws ds; rw [hm.out] at this; exact this
  have HUP1 := Lib.hid (fun (i : Nat) (hi : i < ns.length) (h0 : 0 < i) => HOK.out.up i hi h0)
  have hm1 : (1 : Int) ≤ (m : Int) := by have := HPOS.out; omega
  clear edv hdb hdr
  go_upto_region 3 with (first
    | ((with_reducible refine at_load (.tmp 15) ?_); refine wpList_load_1 23 (.tmp 15) rfl w.heap.size 0 (.slice ta m tc) (S0.out.t.cell 0) rfl _ Try.underlying23 rfl rfl ?_)
    | ((with_reducible refine at_load (.tmp 22) ?_); refine wpList_load_1 23 (.tmp 22) rfl w.heap.size 0 (.slice ta m tc) (S0.out.t.cell 0) rfl _ Try.underlying23 rfl rfl ?_))
  go_cut [8, 9] from 27 to 31 (fun qv cv wx => ∃ g h qc, qv = .slice (some ⟨g, 0, none⟩) m qc ∧ cv = .slice (some ⟨h, 0, none⟩) m m ∧ ApS w #[.slice ta m tc] g h ds (List.replicate m 0) wx)
  case first =>
    obtain ⟨wd, hwd⟩ : ∃ z, w.alloc (.cells #[.slice ta m tc] 25) = z := ⟨_, rfl⟩
    rw [hwd] at S0 HZ0 ⊢
    clear hwd
    have HX0 : Hid (w.heap.size < wd.drew.heap.size) := by show w.heap.size < wd.heap.size; rw [HZ0.out]; omega
    have HSx : Hid (PaS w #[.slice ta m tc] wd.drew) := S0.out.call (below_drew wd)
    refine wp_region_held_drew (S := fun u => PaS w #[.slice ta m tc] u) (by kernel_rfl) (HSx.out) (fun _ => ?_)
    (try simp only [Act.put, List.setIfInBounds_toArray, List.set_cons_zero, List.set_cons_succ])
    obtain ⟨x0, hx0⟩ : ∃ x, wd.drew = x := ⟨_, rfl⟩
    rw [hx0] at HSx HX0 ⊢
    clear hx0
    refine wpAnyH_take (i := 0) (oi := ⟨some 27, _, _, _, _, _⟩) (v := .slice (some ⟨db, doff, none⟩) m dc) rfl (by kernel_rfl) (by kernel_rfl) (by kernel_rfl) (fun _ _ _ h => h) (Or.inl ⟨by rfl, fun wz hz => ?_⟩) HSx.out ?_
    · clear hz; go_simp; first | done | with_reducible rfl | rfl
    (try simp only [Act.put, List.setIfInBounds_toArray, List.set_cons_zero, List.set_cons_succ])
    refine wpAnyH_take (i := 2) (oi := ⟨some 29, _, _, _, _, _⟩) (v := .slice wa m wc0) rfl (by kernel_rfl) (by kernel_rfl) (by kernel_rfl) (fun _ _ _ h => h) (Or.inl ⟨by rfl, fun wz hz => ?_⟩) HSx.out ?_
    · clear hz; go_simp; first | done | with_reducible rfl | rfl
    (try simp only [Act.put, List.setIfInBounds_toArray, List.set_cons_zero, List.set_cons_succ])
    refine wpAnyH_take (i := 3) (oi := ⟨some 30, _, _, _, _, _⟩) (v := .int .i64 m) rfl (by kernel_rfl) (by kernel_rfl) (by kernel_rfl) (fun _ _ _ h => h) (Or.inl ⟨by rfl, fun wz hz => ?_⟩) HSx.out ?_
    · clear hz; go_simp; first | done | with_reducible rfl | rfl
    (try simp only [Act.put, List.setIfInBounds_toArray, List.set_cons_zero, List.set_cons_succ])
    refine wpAnyH_ready (rs := [1, 4]) (by kernel_rfl) (by simp) ?_
    refine AllReadyH.cons (o := ⟨some 28, _, _, _, _, _⟩) rfl (fun K hK => ?_) (AllReadyH.cons (o := ⟨some 31, _, _, _, _, _⟩) rfl (fun K hK => ?_) AllReadyH.nil)
    · skip
      go_simp
      refine (HCL.out x0 HSx.out.b).mono ?_
      rintro e x1 ⟨v1, rfl, ho1, hb1⟩
      obtain ⟨g, qc, rfl, hgb, hgr⟩ := ownRow ho1 (by rw [HDL.out]; omega)
      rw [HDL.out]
      have HGB : Hid (x0.heap.size ≤ g ∧ g < x1.heap.size) := ⟨hgb, hgr.lt⟩
      have HGR := Lib.hid hgr
      have HBX := Lib.hid hb1
      have HSx : Hid (PaS w #[.slice ta m tc] x1) := HSx.out.call hb1
      clear ho1 hb1 hgb hgr
      refine hK.out _ _ (HSx.out) (fun _ => ?_)
      clear hK K
      (try simp only [Act.put, List.setIfInBounds_toArray, List.set_cons_zero, List.set_cons_succ])
      refine wpAnyH_take (i := 5) (oi := ⟨some 8, _, _, _, _, _⟩) (v := .slice (some ⟨g, 0, none⟩) m qc) rfl (by kernel_rfl) (by kernel_rfl) (by kernel_rfl) (fun _ _ _ h => h) (Or.inl ⟨by rfl, fun wz hz => ?_⟩) HSx.out ?_
      · clear hz; go_simp; first | done | with_reducible rfl | rfl
      (try simp only [Act.put, List.setIfInBounds_toArray, List.set_cons_zero, List.set_cons_succ])
      refine wpAnyH_ready (rs := [4]) (by kernel_rfl) (by simp) ?_
      refine AllReadyH.cons (o := ⟨some 31, _, _, _, _, _⟩) rfl (fun K hK => ?_) AllReadyH.nil
      refine wp_makeU ⟨.tmp 30, rfl, .i64, m, rfl, by omega, ?_⟩
      intro x2 hb2 hr2
      have HHR := Lib.hid hr2
      have HBY := Lib.hid hb2
      have HHL : Hid (x1.heap.size < x2.heap.size) := hr2.lt
      have HSx : Hid (PaS w #[.slice ta m tc] x2) := HSx.out.call hb2
      clear hb2 hr2
      refine hK.out _ _ (HSx.out) (fun _ => ?_)
      clear hK K
      (try simp only [Act.put, List.setIfInBounds_toArray, List.set_cons_zero, List.set_cons_succ])
      have HA : Hid (ApS w #[.slice ta m tc] g x1.heap.size ds (List.replicate m 0) x2) := ⟨HSx.out, HGR.out.call HBY.out, HHR.out, HDO.out, by have := HGB.out.1; have := HX0.out; omega, by have := HGB.out; have := HX0.out; omega, by have := HGB.out.2; omega⟩
      refine wpAnyH_ready (rs := [6]) (by kernel_rfl) (by simp) ?_
      refine AllReadyH.cons (o := ⟨some 9, _, _, _, _, _⟩) rfl (fun K hK => ?_) AllReadyH.nil
      go_simp
      refine hK.out _ _ (HSx.out) (fun _ => ?_)
      clear hK K
      (try simp only [Act.put, List.setIfInBounds_toArray, List.set_cons_zero, List.set_cons_succ])
      refine wpAnyH_done (by kernel_rfl) ?_ _
      go_wp2_with fail
      go_meet
      case rel => exact ⟨g, x1.heap.size, qc, rfl, rfl, HA.out⟩
    · skip
      refine wp_makeU ⟨.tmp 30, rfl, .i64, m, rfl, by omega, ?_⟩
      intro x1 hb2 hr2
      have HHR := Lib.hid hr2
      have HBY := Lib.hid hb2
      have HHL : Hid (x0.heap.size < x1.heap.size) := hr2.lt
      have HSx : Hid (PaS w #[.slice ta m tc] x1) := HSx.out.call hb2
      clear hb2 hr2
      refine hK.out _ _ (HSx.out) (fun _ => ?_)
      clear hK K
      (try simp only [Act.put, List.setIfInBounds_toArray, List.set_cons_zero, List.set_cons_succ])
      refine wpAnyH_ready (rs := [1]) (by kernel_rfl) (by simp) ?_
      refine AllReadyH.cons (o := ⟨some 28, _, _, _, _, _⟩) rfl (fun K hK => ?_) AllReadyH.nil
      go_simp
      refine (HCL.out x1 HSx.out.b).mono ?_
      rintro e x2 ⟨v1, rfl, ho1, hb1⟩
      obtain ⟨g, qc, rfl, hgb, hgr⟩ := ownRow ho1 (by rw [HDL.out]; omega)
      rw [HDL.out]
      have HGB : Hid (x1.heap.size ≤ g ∧ g < x2.heap.size) := ⟨hgb, hgr.lt⟩
      have HGR := Lib.hid hgr
      have HBX := Lib.hid hb1
      have HSx : Hid (PaS w #[.slice ta m tc] x2) := HSx.out.call hb1
      clear ho1 hb1 hgb hgr
      refine hK.out _ _ (HSx.out) (fun _ => ?_)
      clear hK K
      (try simp only [Act.put, List.setIfInBounds_toArray, List.set_cons_zero, List.set_cons_succ])
      have HA : Hid (ApS w #[.slice ta m tc] g x0.heap.size ds (List.replicate m 0) x2) := ⟨HSx.out, HGR.out, HHR.out.call HBX.out, HDO.out, by have := HGB.out.1; have := HX0.out; have := HHL.out; omega, HX0.out, by have := HGB.out.1; have := HHL.out; omega⟩
      refine wpAnyH_ready (rs := [5]) (by kernel_rfl) (by simp) ?_
      refine AllReadyH.cons (o := ⟨some 8, _, _, _, _, _⟩) rfl (fun K hK => ?_) AllReadyH.nil
      go_simp
      refine hK.out _ _ (HSx.out) (fun _ => ?_)
      clear hK K
      (try simp only [Act.put, List.setIfInBounds_toArray, List.set_cons_zero, List.set_cons_succ])
      refine wpAnyH_ready (rs := [6]) (by kernel_rfl) (by simp) ?_
      refine AllReadyH.cons (o := ⟨some 9, _, _, _, _, _⟩) rfl (fun K hK => ?_) AllReadyH.nil
      go_simp
      refine hK.out _ _ (HSx.out) (fun _ => ?_)
      clear hK K
      (try simp only [Act.put, List.setIfInBounds_toArray, List.set_cons_zero, List.set_cons_succ])
      refine wpAnyH_done (by kernel_rfl) ?_ _
      go_wp2_with fail
      go_meet
      case rel => exact ⟨g, x0.heap.size, qc, rfl, rfl, HA.out⟩
  case rest =>
    obtain ⟨g, h, qc, rfl, rfl, hs⟩ := hcut
    have hs3 : ∀ u, ApS w #[.slice ta m tc] g h ds (List.replicate m 0) u → ApS w #[.slice ta m tc] g h (psD ns ds (m - 1)) (chL ns ws ds m) u := fun u h => by rw [HPF.out, HCF.out]; exact h
    have S1 := Lib.hid (hs3 _ hs)
    clear hs hs3 S0
    go_wp2_with fail
    go_loopw [10, 11, 12] (fun iv _ _ wr => ∃ k : Nat, k ≤ m ∧ iv = .int .i64 ((k : Int) - 1) ∧ (∀ j, k ≤ j → j < m → ApK ns ws ds j) ∧ ApS w #[.slice ta m tc] g h (psD ns ds (k - 1)) (chL ns ws ds k) wr) (fun iv _ _ _ => (intOf iv + 1).toNat)
    case atStart => exact ⟨m, Nat.le_refl _, by go_num, (fun j h1 h2 => by omega), S1.out⟩
    case round =>
      obtain ⟨k, hk, rfl, hap, hs⟩ := hrel
      have S2 := Lib.hid hs
      have HAP := Lib.hid hap
      clear hs hap S1
      cases k with
      | zero =>
        have e0 : ((0 : Nat) : Int) - 1 = -1 := by omega
        rw [e0]
        have HAA : Hid (R = (chL ns ws ds 0, 0)) := by show R = _; rw [HR.out, aplK_ok (fun i hi => HAP.out i (Nat.zero_le _) hi), chL_end, hm.out]
        have HCR : Hid (Rng (chL ns ws ds 0)) := by
          intro x hx
          rw [chL_end] at hx
          obtain ⟨j, hj, rfl⟩ := List.mem_map.1 hx
          have := HAP.out j (Nat.zero_le _) (by rw [List.mem_range, hm.out] at hj; exact hj)
          exact ⟨this.2.2.1, this.2.2.2⟩
        go_wp2_with fail
        go_ret2
        exact ⟨_, by rw [HAA.out]; rfl, by rw [HAA.out]; exact ⟨S2.out.c.ints (by rw [chL_len, hm.out]) (by rw [chL_len, hm.out]; unfold maxLen; omega), HCR.out⟩, S2.out.p.b⟩
      | succ i =>
        have e1 : ((i + 1 : Nat) : Int) - 1 = (i : Int) := by omega
        rw [e1]
        rw [Nat.add_sub_cancel] at S2
        have him : i < m := by omega
        have him' : (i : Int) < m := by omega
        have hi0 : (0 : Int) ≤ (i : Int) := by omega
        have hin : i < ns.length := by rw [hm.out]; exact him
        have HQL : Hid ((psD ns ds i).length = m) := by show _ = _; rw [psD_len, hm.out]
        have HCLn : Hid ((chL ns ws ds (i + 1)).length = m) := by show _ = _; rw [chL_len, hm.out]
        have HSTEP := Lib.hid (ap_step HOK.out ws hin S2.out.o)
        have HCST : Hid ((chL ns ws ds (i + 1)).set i (apX ns ws ds i) = chL ns ws ds i) := chL_step ws ds hin
        have HBADK : Hid (∀ j, j < m → ¬ ApK ns ws ds j → R = ([], 4)) := fun j hj hn => by rw [HR.out]; exact aplK_no HWR.out hj hn
        obtain ⟨wb, wo, rfl, hwb, hwc⟩ := NumsV.elemW HWV.out (k := i) (by rw [HWL.out]; exact him)
        have hwr := ws_at HWR.out i
        have hqo := S2.out.o _ (getD_mem' (d := zeDl) (k := i) (by rw [HQL.out]; exact him))
        have HCH := Lib.hid (fun u => change_any (ws.getD i 0) ((psD ns ds i).getD i zeDl) hwr.1 hwr.2 hqo u)
        have hiL := info_dl ((psD ns ds i).getD i zeDl)
        have HRL1 := Lib.hid (fun u (h : ApS w #[.slice ta m tc] g h (psD ns ds i) (chL ns ws ds (i + 1)) u) => h.elem (k := i) (by rw [HQL.out]; exact him))
        obtain ⟨b, off, rfl, hlm, hbb, hna, _⟩ := HN.out.elem hin
        have HUPC := Lib.hid hna.up
        have HUP2 := Lib.hid (HUP1.out i hin)
        have HADD := Lib.hid (fun p (hp : p < i) => addTo_ap (w := w) (T := #[.slice (some ⟨b, off, none⟩) m tc]) (g := g) (h := h) (Q := psD ns ds i) (C := chL ns ws ds (i + 1)) (k := p) (i := i) (by rw [HQL.out]; omega) (by rw [HQL.out]; exact him) (by omega))
        have HPS : Hid (∀ j p, i = j + 1 → upI ns i = ((p : Nat) : Int) → atE ((psD ns ds i).getD p zeDl) ((psD ns ds i).getD i zeDl) = 0 → (psD ns ds i).set p (mgA ((psD ns ds i).getD p zeDl) ((psD ns ds i).getD i zeDl)) = psD ns ds j) := by
          intro j p hj hp he
          subst hj
          obtain ⟨a1, a2⟩ := atE_ok he
          exact psD_step HOK.out ds hin hp a1 a2
        have HPB : Hid (∀ p, 0 < i → upI ns i = ((p : Nat) : Int) → atE ((psD ns ds i).getD p zeDl) ((psD ns ds i).getD i zeDl) ≠ 0 → ¬ ApK ns ws ds p) := by
          intro p hj hp he
          obtain ⟨j, rfl⟩ : ∃ j, i = j + 1 := ⟨i - 1, by omega⟩
          exact psD_bad HOK.out HDO.out hin hp (atE_no he).2
        have HUI : Hid (upI ns i = ns[i].up) := upI_at hin
        obtain ⟨Q, hQ⟩ : ∃ Q, psD ns ds i = Q := ⟨_, rfl⟩
        have HQ0 := Lib.hid hQ
        obtain ⟨C, hC⟩ : ∃ C, chL ns ws ds (i + 1) = C := ⟨_, rfl⟩
        rw [hQ] at S2 HQL HSTEP hqo HCH hiL HRL1 HADD HPS HPB
        rw [hC] at S2 HCLn HCST HRL1 HADD
        obtain ⟨x, hx⟩ : ∃ x, ws.getD i 0 = x := ⟨_, rfl⟩
        rw [hx] at hwc hwr HCH HSTEP
        obtain ⟨q, hq⟩ : ∃ q, Q.getD i zeDl = q := ⟨_, rfl⟩
        rw [hq] at hqo HCH HSTEP hiL HRL1 HADD HPS HPB
        obtain ⟨V, hV⟩ : ∃ V, chV x q = V := ⟨_, rfl⟩
        obtain ⟨E, hE⟩ : ∃ E, chE x q = E := ⟨_, rfl⟩
        rw [hV, hE] at HCH HSTEP
        obtain ⟨L1, hL1⟩ : ∃ L, q.cells = L := ⟨_, rfl⟩
        rw [hL1] at HCH hiL HRL1 HADD
        have HRL := HRL1
        have hwb2 : wb < wr.heap.size := Nat.lt_of_lt_of_le hwb S2.out.p.b.size
        have HWC := Lib.hid ((S2.out.p.b.cell (p := ⟨wb, wo + i, none⟩) hwb).trans hwc)
        have HR2 := Lib.hid (HRL.out _ S2.out)
        have hgl := S2.out.q.lt
        clear hQ hC hx hq hV hE hL1 hwc hna hlm
        go_wp2_with fail
        refine wp_region_fam2 (by kernel_rfl) (by kernel_rfl) ?_
        intro T F hT hF hG
        have C1 : ∀ t, (F t).cell? ⟨wb, wo + i, none⟩ = some (.int .u64 x) := fun t => ((hF t).cell (p := ⟨wb, wo + i, none⟩) hwb2).trans HWC.out
        have C2 := Lib.hid (show ∀ u, (∃ t, u = F t) → u.rangeAt g (i * 2) L1 by rintro _ ⟨t, rfl⟩; exact Below.rng (hF t) hgl HR2.out)
        repeat (first
          | ((with_reducible refine at_qload (.tmp 46) ?_); refine wpQuiet_load_midE 74 _ rfl g (i * 2) (by simp [Act.eval]) L1 C2.out Try.underlying74 rfl hiL (by kernel_rfl) ?_; simp only [Act.put, List.setIfInBounds_toArray, List.set_cons_succ, List.set_cons_zero])
          | (go_big_quiet_step ((go_at_call 32; exact fam_call hF hG (Nat.le_refl _) (HCH.out _)))))
        refine wpQuiet_nil ?_
        rintro _ ⟨t, rfl⟩
        have S3 := Lib.hid (S2.out.call (hF t))
        obtain ⟨wr2, hwr2⟩ : ∃ z, F t = z := ⟨_, rfl⟩
        rw [hwr2] at S3 ⊢
        clear C1 C2 hG hwr2 hF hT HWC HR2 hgl hwb2
        clear t F T
        rcases HSTEP.out with ⟨rfl, hak, rfl⟩ | ⟨rfl, hak⟩
        case inr =>
          have KB := Lib.hid (HBADK.out i him hak)
          go_wp2_with fail
          go_ret2
          exact ⟨_, by rw [KB.out]; rfl, by rw [KB.out]; exact ⟨⟨none, 0, 0, rfl, rfl, Nat.zero_le _, .inl rfl⟩, by simp⟩, S3.out.p.b⟩
        have HAK := Lib.hid hak
        have HAPN : Hid (∀ j, i ≤ j → j < m → ApK ns ws ds j) := fun j h1 h2 => by
          by_cases e : i = j
          · subst e; exact HAK.out
          · exact HAP.out j (by omega) h2
        clear hak HSTEP
        obtain ⟨V, hV⟩ : ∃ V, apX ns ws ds i = V := ⟨_, rfl⟩
        rw [hV] at HCST ⊢
        clear hV
        by_cases hi00 : 0 < i
        case neg =>
          obtain rfl : i = 0 := by omega
          have h00 : ((0 : Int) < ((0 : Nat) : Int)) = False := by simp
          go_wp2_with (first
            | ((with_reducible refine at_store (.tmp 76) ?_); refine wpList_store_num rfl 53 (.tmp 76) (.tmp 75) rfl h 0 .u64 C V S3.out.c (by rw [HCLn.out]; exact him) (by first | rfl | simp [Act.eval, Act.put]) rfl hiu ?_; intro w9 U9 B9; rw [HCST.out] at B9; have S9 := Lib.hid (S3.out.setC U9 B9); clear U9 B9))
          go_roundw
          case rel => exact ⟨0, by omega, by go_num, HAPN.out, by rw [show (0 : Nat) - 1 = 0 from rfl, HQ0.out]; exact S9.out⟩
          case measure => simp [intOf]
        obtain ⟨p, hpl, hpi, hup, _⟩ := HUP2.out hi00
        rw [hup] at HUPC HUI
        have HUP := Lib.hid HUPC.out
        have HAD := Lib.hid (HADD.out p hpi)
        have HPS2 := Lib.hid (HPS.out (i - 1) p (by omega) HUI.out)
        have HPB2 := Lib.hid (HPB.out p hi00 HUI.out)
        obtain ⟨E, hE⟩ : ∃ E, atE (Q.getD p zeDl) q = E := ⟨_, rfl⟩
        rw [hE] at HAD HPS2 HPB2
        clear hE HADD HPS HPB HUP1 HUP2
        have hi00' : (0 : Int) < (i : Int) := by omega
        have hpm' : (p : Int) < m := by omega
        have S4 := S3
        clear S3
        go_wp2_with fail
        have HSx : Hid (PaS w #[.slice (some ⟨b, off, none⟩) m tc] wr2.drew ∧ wr2.drew.rangeAt g (i * 2) L1) := ⟨S4.out.p.call (below_drew wr2), HRL.out _ (S4.out.call (below_drew wr2))⟩
        have SD : Hid (ApS w #[.slice (some ⟨b, off, none⟩) m tc] g h Q C wr2.drew) := S4.out.call (below_drew wr2)
        refine wp_region_held_drew (S := fun u => PaS w #[.slice (some ⟨b, off, none⟩) m tc] u ∧ u.rangeAt g (i * 2) L1) (by kernel_rfl) (HSx.out) (fun _ => ?_)
        (try simp only [Act.put, List.setIfInBounds_toArray, List.set_cons_zero, List.set_cons_succ])
        obtain ⟨x0, hx0⟩ : ∃ x, wr2.drew = x := ⟨_, rfl⟩
        rw [hx0] at HSx SD ⊢
        clear hx0
        refine wpAnyH_take (i := 0) (oi := ⟨some 57, _, _, _, _, _⟩) (v := .slice (some ⟨g, 0, none⟩) m qc) rfl (by kernel_rfl) (by kernel_rfl) (by kernel_rfl) (fun _ _ _ h => h) (Or.inl ⟨by rfl, fun wz hz => ?_⟩) HSx.out ?_
        · clear hz; go_simp; first | done | with_reducible rfl | rfl
        (try simp only [Act.put, List.setIfInBounds_toArray, List.set_cons_zero, List.set_cons_succ])
        refine wpAnyH_take (i := 1) (oi := ⟨some 58, _, _, _, _, _⟩) (v := .pointer (some ⟨w.heap.size, 0, none⟩)) rfl (by kernel_rfl) (by kernel_rfl) (by kernel_rfl) (fun _ _ _ h => h) (Or.inl ⟨by rfl, fun wz hz => ?_⟩) HSx.out ?_
        · clear hz; go_simp; first | done | with_reducible rfl | rfl
        (try simp only [Act.put, List.setIfInBounds_toArray, List.set_cons_zero, List.set_cons_succ])
        refine held_load1 (oi := ⟨some 59, _, _, _, _, _⟩) 2 rfl (by kernel_rfl) (by kernel_rfl) (by kernel_rfl) (fun _ _ _ _ h => h) rfl 23 (.tmp 58) rfl w.heap.size (0) rfl (.slice (some ⟨b, off, none⟩) m tc) _ (fun u' hu => hu.1.t.cell 0) Try.underlying23 rfl HSx.out ?_
        (try simp only [Act.put, List.setIfInBounds_toArray, List.set_cons_zero, List.set_cons_succ])
        refine wpAnyH_take (i := 3) (oi := ⟨some 60, _, _, _, _, _⟩) (v := .int .i64 i) rfl (by kernel_rfl) (by kernel_rfl) (by kernel_rfl) (fun _ _ _ h => h) (Or.inl ⟨by rfl, fun wz hz => ?_⟩) HSx.out ?_
        · clear hz; go_simp; first | done | with_reducible rfl | rfl
        (try simp only [Act.put, List.setIfInBounds_toArray, List.set_cons_zero, List.set_cons_succ])
        refine wpAnyH_take (i := 4) (oi := ⟨some 61, _, _, _, _, _⟩) (v := .pointer (some ⟨b, off + i * 240, none⟩)) rfl (by kernel_rfl) (by kernel_rfl) (by kernel_rfl) (fun _ _ _ h => h) (Or.inl ⟨by rfl, fun wz hz => ?_⟩) HSx.out ?_
        · clear hz; go_simp; first | done | with_reducible rfl | rfl
        (try simp only [Act.put, List.setIfInBounds_toArray, List.set_cons_zero, List.set_cons_succ])
        refine wpAnyH_take (i := 5) (oi := ⟨some 62, _, _, _, _, _⟩) (v := .pointer (some ⟨b, off + i * 240 + 238, none⟩)) rfl (by kernel_rfl) (by kernel_rfl) (by kernel_rfl) (fun _ _ _ h => h) (Or.inl ⟨by rfl, fun wz hz => ?_⟩) HSx.out ?_
        · clear hz; go_simp; first | done | with_reducible rfl | rfl
        (try simp only [Act.put, List.setIfInBounds_toArray, List.set_cons_zero, List.set_cons_succ])
        refine held_load1 (oi := ⟨some 63, _, _, _, _, _⟩) 6 rfl (by kernel_rfl) (by kernel_rfl) (by kernel_rfl) (fun _ _ _ _ h => h) rfl 3 (.tmp 62) rfl b (off + i * 240 + 238) rfl (.int .i64 (p : Int)) _ (fun u' hu => (hu.1.b.cell (p := ⟨b, off + i * 240 + 238, none⟩) hbb).trans HUP.out) Try.underlying3 rfl HSx.out ?_
        (try simp only [Act.put, List.setIfInBounds_toArray, List.set_cons_zero, List.set_cons_succ])
        refine wpAnyH_take (i := 7) (oi := ⟨some 64, _, _, _, _, _⟩) (v := .pointer (some ⟨g, p * 2, none⟩)) rfl (by kernel_rfl) (by kernel_rfl) (by kernel_rfl) (fun _ _ _ h => h) (Or.inl ⟨by rfl, fun wz hz => ?_⟩) HSx.out ?_
        · clear hz; go_simp; first | done | with_reducible rfl | rfl
        (try simp only [Act.put, List.setIfInBounds_toArray, List.set_cons_zero, List.set_cons_succ])
        refine wpAnyH_take (i := 8) (oi := ⟨some 65, _, _, _, _, _⟩) (v := .slice (some ⟨g, 0, none⟩) m qc) rfl (by kernel_rfl) (by kernel_rfl) (by kernel_rfl) (fun _ _ _ h => h) (Or.inl ⟨by rfl, fun wz hz => ?_⟩) HSx.out ?_
        · clear hz; go_simp; first | done | with_reducible rfl | rfl
        (try simp only [Act.put, List.setIfInBounds_toArray, List.set_cons_zero, List.set_cons_succ])
        refine wpAnyH_take (i := 9) (oi := ⟨some 66, _, _, _, _, _⟩) (v := .int .i64 i) rfl (by kernel_rfl) (by kernel_rfl) (by kernel_rfl) (fun _ _ _ h => h) (Or.inl ⟨by rfl, fun wz hz => ?_⟩) HSx.out ?_
        · clear hz; go_simp; first | done | with_reducible rfl | rfl
        (try simp only [Act.put, List.setIfInBounds_toArray, List.set_cons_zero, List.set_cons_succ])
        refine wpAnyH_take (i := 10) (oi := ⟨some 67, _, _, _, _, _⟩) (v := .pointer (some ⟨g, i * 2, none⟩)) rfl (by kernel_rfl) (by kernel_rfl) (by kernel_rfl) (fun _ _ _ h => h) (Or.inl ⟨by rfl, fun wz hz => ?_⟩) HSx.out ?_
        · clear hz; go_simp; first | done | with_reducible rfl | rfl
        (try simp only [Act.put, List.setIfInBounds_toArray, List.set_cons_zero, List.set_cons_succ])
        refine held_load (oi := ⟨some 68, _, _, _, _, _⟩) 11 rfl (by kernel_rfl) (by kernel_rfl) (by kernel_rfl) (fun _ _ _ _ h => h) rfl 74 (.tmp 67) rfl g (i * 2) rfl L1 _ (fun u' hu => hu.2) Try.underlying74 rfl (hiL) HSx.out ?_
        (try simp only [Act.put, List.setIfInBounds_toArray, List.set_cons_zero, List.set_cons_succ])
        refine wpAnyH_ready (rs := [12]) (by kernel_rfl) (by simp) ?_
        refine AllReadyH.cons (o := ⟨some 69, _, _, _, _, _⟩) rfl (fun K hK => ?_) AllReadyH.nil
        go_simp
        refine (HAD.out _ SD.out).mono ?_
        rintro e x1 ⟨rfl, hres, hrg, hb1⟩
        have HRES := Lib.hid hres
        have HSx : Hid (PaS w #[.slice (some ⟨b, off, none⟩) m tc] x1 ∧ x1.rangeAt g (i * 2) L1) := ⟨hb1, hrg⟩
        clear hres hb1 hrg
        refine hK.out _ _ (HSx.out) (fun _ => ?_)
        clear hK K
        (try simp only [Act.put, List.setIfInBounds_toArray, List.set_cons_zero, List.set_cons_succ])
        refine wpAnyH_ready (rs := [13]) (by kernel_rfl) (by simp) ?_
        refine AllReadyH.cons (o := ⟨some 12, _, _, _, _, _⟩) rfl (fun K hK => ?_) AllReadyH.nil
        go_simp
        refine hK.out _ _ (HSx.out) (fun _ => ?_)
        clear hK K
        (try simp only [Act.put, List.setIfInBounds_toArray, List.set_cons_zero, List.set_cons_succ])
        refine wpAnyH_done (by kernel_rfl) ?_ _
        rcases HRES.out with ⟨rfl, hs⟩ | ⟨rfl, hs⟩
        · rw [HPS2.out rfl] at hs
          have S5 := Lib.hid hs
          clear hs HRES
          go_wp2_with (first
            | ((with_reducible refine at_store (.tmp 76) ?_); refine wpList_store_num rfl 53 (.tmp 76) (.tmp 75) rfl h i .u64 C V S5.out.c (by rw [HCLn.out]; exact him) (by first | rfl | simp [Act.eval, Act.put]) rfl hiu ?_; intro w9 U9 B9; rw [HCST.out] at B9; have S9 := Lib.hid (S5.out.setC U9 B9); clear U9 B9))
          go_roundw
          case rel => exact ⟨i, by omega, by go_num, HAPN.out, S9.out⟩
          case measure => simp [intOf] <;> omega
        · have KB := Lib.hid (HBADK.out p (by omega) (HPB2.out (by decide)))
          have S5 := Lib.hid hs
          clear hs HRES
          go_wp2_with fail
          go_ret2
          exact ⟨_, by rw [KB.out]; rfl, by rw [KB.out]; exact ⟨⟨none, 0, 0, rfl, rfl, Nat.zero_le _, .inl rfl⟩, by simp⟩, S5.out.p.b⟩
end

/-! DeE -/
section
set_option linter.unusedVariables false
set_option linter.unusedSimpArgs false
open Go.RowKit

set_option maxRecDepth 100000
/-! ### awake -/

def tw2 : List NdD := [⟨chA, -1, 0⟩, ⟨chB, 0, 0⟩]

theorem tw2_ok : TrOK tw2 := by
  have h1 : TrOK [(⟨chA, -1, 0⟩ : NdD)] := TrOK.one chA 0 (by omega)
  have e1 : (insT [(⟨chA, -1, 0⟩ : NdD)] chB 0).2 = 0 := by
    have h1 : findN [(⟨chA, -1, 0⟩ : NdD)] chB.root = -1 := by kernel_rfl
    have h2 : findN [(⟨chA, -1, 0⟩ : NdD)] chB.parent = 0 := by kernel_rfl
    have h3 : slotAt [(⟨chA, -1, 0⟩ : NdD)] 0 = 0 := by kernel_rfl
    unfold insT
    rw [h1, h2, h3, if_neg (by omega), if_neg (by omega), if_neg (by omega), if_neg (by decide), if_neg (by decide)]
  exact (h1.add (q := 0) (by simp) (x := chB) (st := 0) rfl (by omega) (fun h => by cases h) (fun h => by cases h) e1).2

theorem tw2_mov : movK [5, 0] [0, 5] 2 = [⟨0, 5⟩, ⟨5, 0⟩] := by kernel_rfl

theorem tw2_apl : aplN tw2 [5, 0] [⟨0, 5⟩, ⟨5, 0⟩] = ([5, 5], 0) := by kernel_rfl

theorem nums_two {w : World} {g : Nat} {l m : Int} (h : Blk w g #[.int .u64 l, .int .u64 m]) (hr : ∀ x ∈ [l, m], 0 ≤ x ∧ x ≤ 18446744073709551615) : NumsV w (.slice (some ⟨g, 0, none⟩) 2 2) [l, m] := by
  refine ⟨⟨_, _, _, rfl, rfl, by unfold maxLen; omega, .inr ⟨g, 0, rfl, h.lt, fun i hi => ?_⟩⟩, hr⟩
  have : i = 0 ∨ i = 1 := by omega
  rcases this with rfl | rfl
  · exact h.cell 0
  · exact h.cell 1

set_option maxHeartbeats 16000000 in
theorem awake14_any (w : World) : Calls Try.prog 14 #[] w fun e w' => e = .returned (.bool true) ∧ Below w.heap.size w w' := by
  obtain ⟨R1, h1⟩ : ∃ z, bytesL (rootK 1) = z := ⟨_, rfl⟩
  obtain ⟨R2, h2⟩ : ∃ z, bytesL (rootK 2) = z := ⟨_, rfl⟩
  obtain ⟨XA, hA⟩ : ∃ z, flatP chA.parts = z := ⟨_, rfl⟩
  obtain ⟨XB, hB⟩ : ∃ z, flatP chB.parts = z := ⟨_, rfl⟩
  obtain ⟨YA, hYA⟩ : ∃ z, (⟨chA, -1, 0⟩ : NdD).cells.toArray = z := ⟨_, rfl⟩
  obtain ⟨YB, hYB⟩ : ∃ z, (⟨chB, 0, 0⟩ : NdD).cells.toArray = z := ⟨_, rfl⟩
  have HK1 : Hid (∀ u, Calls Try.prog 28 #[.int .i64 1] u fun e w' => e = .returned (.agg R1.toArray) ∧ Below u.heap.size u w') := fun u => by rw [← h1]; exact root_k 1 u
  have HK2 : Hid (∀ u, Calls Try.prog 28 #[.int .i64 2] u fun e w' => e = .returned (.agg R2.toArray) ∧ Below u.heap.size u w') := fun u => by rw [← h2]; exact root_k 2 u
  have HXA : Hid (∀ u, (Instr.build 67 #[(2, .agg R1.toArray)]).run Try.prog u = .ok (.agg XA) u) := fun u => by rw [← h1, ← hA]; exact build_bR (rootK_is 1) u
  have HXB : Hid (∀ u, (Instr.build 67 #[(2, .agg R2.toArray), (3, .agg R1.toArray), (1, .int .u64 1)]).run Try.prog u = .ok (.agg XB) u) := fun u => by rw [← h1, ← h2, ← hB]; exact build_bRP (rootK_is 2) (rootK_is 1) u
  have HYA : Hid (∀ u, (Instr.build 69 #[(0, .agg XA), (1, .int .i64 (-1))]).run Try.prog u = .ok (.agg YA) u) := fun u => by rw [← hA, ← hYA]; exact build_ndA chA (-1) chA_ok u
  have HYB : Hid (∀ u, (Instr.build 69 #[(0, .agg XB)]).run Try.prog u = .ok (.agg YB) u) := fun u => by rw [← hB, ← hYB]; exact build_ndB chB chB_ok u
  have hoks : ∀ d ∈ tw2, d.ok := by
    intro d hd
    simp only [tw2, List.mem_cons, List.not_mem_nil, or_false] at hd
    rcases hd with rfl | rfl
    · exact ⟨chA_ok, by show (-9223372036854775808 : Int) ≤ -1 ∧ (-1 : Int) ≤ _; omega, by show (-9223372036854775808 : Int) ≤ 0 ∧ (0 : Int) ≤ _; omega⟩
    · exact ⟨chB_ok, by show (-9223372036854775808 : Int) ≤ 0 ∧ (0 : Int) ≤ _; omega, by show (-9223372036854775808 : Int) ≤ 0 ∧ (0 : Int) ≤ _; omega⟩
  obtain ⟨RW, hRW⟩ : ∃ z, (rowsL (ndX tw2)).toArray = z := ⟨_, rfl⟩
  have HBS : Hid (∀ u, (Instr.buildSlice 23 2 #[(0, .agg YA), (1, .agg YB)]).run Try.prog u = .ok (.slice (some ⟨u.heap.size, 0, none⟩) 2 2) (u.alloc (.cells RW 69))) := fun u => by
    rw [← hYA, ← hYB, ← hRW]
    exact bs_nodes hoks (by simp [tw2]) (by simp [tw2]) u
  have HNN : Hid (∀ u : World, NodesV (u.alloc (.cells RW 69)) (.slice (some ⟨u.heap.size, 0, none⟩) 2 2) tw2) := fun u => by rw [← hRW]; exact new_nodes hoks (by simp [tw2]) u
  have HMV : Hid (∀ sv bv av u, NodesV u sv tw2 → NumsV u bv [5, 0] → NumsV u av [0, 5] → Calls Try.prog 12 #[.agg #[sv], bv, av] u fun e w' => ∃ v', e = .returned v' ∧ DeltasV w' v' [⟨0, 5⟩, ⟨5, 0⟩] ∧ Below u.heap.size u w') := fun sv bv av u h1 h2 h3 => by
    have h := cmov_any sv bv av tw2 [5, 0] [0, 5] (by simp [tw2]) u h1 h2 h3 rfl rfl
    rw [show tw2.length = 2 from rfl, tw2_mov] at h
    exact h
  have HAP : Hid (∀ sv wv dv u, NodesV u sv tw2 → NumsV u wv [5, 0] → DeltasV u dv [⟨0, 5⟩, ⟨5, 0⟩] → Calls Try.prog 16 #[.agg #[sv], wv, dv] u fun e w' => ∃ v', e = .returned (.tuple #[v', .int .i64 0]) ∧ NumsV w' v' [5, 5] ∧ Below u.heap.size u w') := fun sv wv dv u h1 h2 h3 => by
    have h := capl_any sv wv dv tw2 tw2_ok [5, 0] _ (by simp [tw2]) u h1 h2 h3
    rw [tw2_apl] at h
    exact h
  have HSN : Hid (∀ v1 v2 (l : List Int) u, NumsV u v1 l → NumsV u v2 l → Calls Try.prog 18 #[v1, v2] u fun e w' => e = .returned (.bool true) ∧ Below u.heap.size u w') := fun v1 v2 l u h1 h2 =>
    (snums2 v1 v2 l l u h1 h2).mono fun e w' ⟨b, he, hb, hbl⟩ => ⟨by rw [he, hb.2 rfl], hbl⟩
  have hi1 : (Try.prog.info? 25).map (·.size) = some 1 := by kernel_rfl
  obtain ⟨hz1, hst1⟩ := zero_array (P := Try.prog) (t := 25) (n := 1) #[.slice none 0 0] (by kernel_rfl) rfl (by kernel_rfl)
  have HB : Hid (Below w.heap.size w w) := Below.refl _ _
  clear h1 h2 hA hB hYA hYB hRW hoks hst1
  go_enter Try.func14, Try.ntmps14
  go_upto_region 2 with (first
    | (go_at_call_of 28 (Value.int IntKind.i64 1); refine (HK1.out _).mono ?_; rintro e w1 ⟨rfl, hb1⟩; have HB := Lib.hid (HB.out.trans (hb1.mono HB.out.size)); clear hb1)
    | (go_at_call_of 28 (Value.int IntKind.i64 2); refine (HK2.out _).mono ?_; rintro e w1 ⟨rfl, hb1⟩; have HB := Lib.hid (HB.out.trans (hb1.mono HB.out.size)); clear hb1)
    | ((with_reducible refine at_build (some 6) ?_); refine wpList_build_g 67 _ rfl #[(2, .agg R1.toArray)] (by simp [Act.eval, Act.put]) (.agg XA) (HXA.out _) rfl ?_)
    | ((with_reducible refine at_build (some 7) ?_); refine wpList_build_g 69 _ rfl #[(0, .agg XA), (1, .int .i64 (-1))] (by simp [Act.eval, Act.put]) (.agg YA) (HYA.out _) rfl ?_)
    | ((with_reducible refine at_build (some 10) ?_); refine wpList_build_g 67 _ rfl #[(2, .agg R2.toArray), (3, .agg R1.toArray), (1, .int .u64 1)] (by simp [Act.eval, Act.put]) (.agg XB) (HXB.out _) rfl ?_)
    | ((with_reducible refine at_build (some 11) ?_); refine wpList_build_g 69 _ rfl #[(0, .agg XB)] (by simp [Act.eval, Act.put]) (.agg YB) (HYB.out _) rfl ?_)
    | ((with_reducible refine at_buildSliceE (some 12) ?_); refine wpList_buildSliceE rfl 23 2 _ rfl #[(0, .agg YA), (1, .agg YB)] (by simp [Act.eval, Act.put]) _ (HBS.out _) ?_; have HN2 := Lib.hid (HNN.out w1); have HAL : Hid (Below w1.heap.size w1 (w1.alloc (.cells RW 69))) := (Below.refl _ _).alloc (Nat.le_refl _) _; obtain ⟨ad, had⟩ : ∃ x, (some ⟨w1.heap.size, 0, none⟩ : Option Addr) = x := ⟨_, rfl⟩; rw [had] at HN2 ⊢; obtain ⟨w2, hw2⟩ : ∃ x, w1.alloc (.cells RW 69) = x := ⟨_, rfl⟩; rw [hw2] at HN2 HAL ⊢; have HB := Lib.hid (HB.out.trans (HAL.out.mono HB.out.size)); clear HAL hw2)
    | ((with_reducible refine at_build (some 13) ?_); refine wpList_build_g 25 _ rfl #[(0, .slice ad 2 2)] (by simp [Act.eval, Act.put]) (.agg #[.slice ad 2 2]) (b_tree _ _ _ _) rfl ?_)
    | ((with_reducible refine at_store (.tmp 1) ?_); refine wpList_store_blk rfl 25 (.tmp 1) _ rfl w2.heap.size #[.slice ad 2 2] rfl rfl #[.slice none 0 0] (Blk.new rfl) rfl hi1 (by simp [Value.oneCell']) ?_; intro w3 U3 B3; have hb3 := U3.below ((Below.refl w2.heap.size w2).alloc (Nat.le_refl _) (.cells #[.slice none 0 0] 25)) (Nat.le_refl _); have S : Hid (AnS w w2.heap.size (.slice ad 2 2) tw2 w3) := ⟨B3, HN2.out.call hb3, HB.out.trans (hb3.mono HB.out.size)⟩; clear U3 B3 hb3))
  obtain ⟨bt, hbt⟩ : ∃ x, w2.heap.size = x := ⟨_, rfl⟩
  rw [hbt] at S ⊢
  clear hbt HN2 HB had
  simp only [Act.put]
  have A3 : Hid (Below w3.heap.size w3 ((w3.alloc (.cells #[.int .u64 5, .int .u64 0] 53)).alloc (.cells #[.int .u64 0, .int .u64 5] 53))) := ((Below.refl _ _).alloc (Nat.le_refl _) _).alloc (by simp) _
  go_wp2_with (first
    | ((with_reducible refine at_load (.tmp 1) ?_); refine wpList_load_g 25 (.tmp 1) rfl bt rfl #[.slice ad 2 2] _ S.out.t Try.underlying25 rfl hi1 rfl ?_)
    | (go_at_call 12; refine (HMV.out _ _ _ _ (S.out.n.call A3.out) (nums_two (Blk.alloc (Blk.new rfl) _) (by simp)) (nums_two (Blk.new (by simp)) (by simp))).mono ?_; rintro e w4 ⟨v4, rfl, hd4, hb4⟩; obtain ⟨da, dc, rfl, _⟩ := ElV.shape hd4; have HD4 := Lib.hid hd4; have S := Lib.hid ((S.out.call A3.out).call hb4); have A4 : Hid (Below w4.heap.size w4 (w4.alloc (.cells #[.int .u64 5, .int .u64 0] 53))) := (Below.refl _ _).alloc (Nat.le_refl _) _; clear hd4 hb4)
    | (go_at_call 16; refine (HAP.out _ _ _ _ (S.out.n.call A4.out) (nums_two (Blk.new rfl) (by simp)) (HD4.out.call A4.out)).mono ?_; rintro e w5 ⟨v5, rfl, hn5, hb5⟩; have HN5 := Lib.hid hn5; have S := Lib.hid ((S.out.call A4.out).call hb5); have A5 : Hid (Below w5.heap.size w5 (w5.alloc (.cells #[.int .u64 5, .int .u64 5] 53))) := (Below.refl _ _).alloc (Nat.le_refl _) _; clear hn5 hb5)
    | (go_at_call 18; refine (HSN.out _ _ [5, 5] _ ⟨HN5.out.1.below A5.out, HN5.out.2⟩ (nums_two (Blk.new rfl) (by simp))).mono ?_; rintro e w6 ⟨rfl, hb6⟩; have S6 := Lib.hid ((S.out.call A5.out).call hb6); clear hb6))
  go_ret
  exact ⟨rfl, S6.out.b⟩
/-! ### list -/

theorem i64_and63 (n : Int) : bits .and .i64 n 63 = n % 64 := by
  have h3 : (BitVec.ofInt 64 63).toNat = 2 ^ 6 - 1 := by decide
  have key : (BitVec.ofInt 64 n &&& BitVec.ofInt 64 63).toNat = (n % ((2 ^ 64 : Nat) : Int)).toNat % 2 ^ 6 := by
    rw [BitVec.toNat_and, BitVec.toNat_ofInt, h3, Nat.and_two_pow_sub_one_eq_mod]
  show IntKind.i64.wrap ((BitVec.ofInt 64 n &&& BitVec.ofInt 64 63).toNat : Nat) = n % 64
  rw [key, IntKind.wrap_i64]
  omega

theorem i64_one (n : Int) : bits .and .i64 n 1 = n % 2 := by
  have h3 : (BitVec.ofInt 64 1).toNat = 2 ^ 1 - 1 := by decide
  have key : (BitVec.ofInt 64 n &&& BitVec.ofInt 64 1).toNat = (n % ((2 ^ 64 : Nat) : Int)).toNat % 2 ^ 1 := by
    rw [BitVec.toNat_and, BitVec.toNat_ofInt, h3, Nat.and_two_pow_sub_one_eq_mod]
  show IntKind.i64.wrap ((BitVec.ofInt 64 n &&& BitVec.ofInt 64 1).toNat : Nat) = n % 2
  rw [key, IntKind.wrap_i64]
  omega

/-- One delta of list, of the number z. -/
def lsD (wild : Bool) (z : Nat) : DlD :=
  ⟨if wild = true ∧ bits .and .i64 ((z : Int) / 4096) 15 = 15 then 18446744073709551615 - bits .and .i64 (z : Int) 3 else bits .and .i64 (z : Int) 63,
   if wild = true ∧ bits .and .i64 ((z : Int) / 65536) 15 = 15 then 18446744073709551615 - bits .and .i64 (z : Int) 1 else bits .and .i64 ((z : Int) / 64) 63⟩

theorem lsD_ok (wild : Bool) (z : Nat) : (lsD wild z).ok := by
  have h1 := i64_and63 (z : Int)
  have h2 := i64_and63 ((z : Int) / 64)
  have h3 := i64_and3 (z : Int)
  have h4 := i64_one (z : Int)
  unfold lsD DlD.ok
  simp only
  constructor
  · split <;> omega
  · split <;> omega

theorem lsD_tame (z : Nat) : (lsD false z).p ≤ 63 ∧ (lsD false z).m ≤ 63 := by
  have h1 := i64_and63 (z : Int)
  have h2 := i64_and63 ((z : Int) / 64)
  unfold lsD
  simp only
  rw [if_neg (fun h => by cases h.1), if_neg (fun h => by cases h.1)]
  omega

def lsL (l : List Int) (wild : Bool) : Nat → List DlD
  | 0 => []
  | k + 1 => lsL l wild k ++ [lsD wild (atN l k)]

theorem lsL_len (l : List Int) (wild : Bool) (k : Nat) : (lsL l wild k).length = k := by
  induction k with
  | zero => rfl
  | succ k ih => simp [lsL, ih]

theorem lsL_mem {l : List Int} {wild : Bool} : ∀ {k : Nat} {d : DlD}, d ∈ lsL l wild k → ∃ z, d = lsD wild z
  | k + 1, d, h => by
    rcases List.mem_append.1 h with h | h
    · exact lsL_mem h
    · exact ⟨_, List.mem_singleton.1 h⟩

theorem lsL_ok (l : List Int) (wild : Bool) (k : Nat) : ∀ d ∈ lsL l wild k, d.ok := fun d hd => by
  obtain ⟨z, rfl⟩ := lsL_mem hd
  exact lsD_ok wild z

set_option maxHeartbeats 16000000 in
theorem lst14_any (v : Value) (l : List Int) (n : Nat) (wild : Bool) (w : World) (h : IntsV w v l) (hn : n ≤ 100000) :
    Calls Try.prog 15 #[v, .int .i64 n, .bool wild] w fun e w' => ∃ v', e = .returned v' ∧ OwnEl DlEl 74 2 w' w.heap.size v' (lsL l wild n) ∧ Below w.heap.size w w' := by
  obtain ⟨a, len, cap, rfl⟩ := ints_shape' h.1
  have HAT := Lib.hid (fun (i : Nat) u (hu : Below w.heap.size w u) (hi : i ≤ 1000000) => at_val (.slice a len cap) l i u (h.below hu) hi)
  obtain ⟨hz1, hst1⟩ := zero_array (P := Try.prog) (t := 74) (n := 2) #[.int .u64 0, .int .u64 0] (by kernel_rfl) rfl (by kernel_rfl)
  clear h
  go_enter Try.func15, Try.ntmps15
  go_wp2_with fail
  go_loopw [7, 8, 9, 10] (fun c i _ _ wr => ∃ k : Nat, k ≤ n ∧ i = .int .i64 k ∧ OwnEl DlEl 74 2 wr w.heap.size c (lsL l wild k) ∧ Below w.heap.size w wr) (fun _ i _ _ _ => n - (intOf i).toNat)
  case atStart => exact ⟨0, Nat.zero_le _, rfl, OwnEl.nil _ _, Below.refl _ _⟩
  case round =>
    obtain ⟨k, hk, rfl, hown, hb⟩ := hrel
    have HOW := Lib.hid hown
    have HB := Lib.hid hb
    clear hown hb
    by_cases hlt : k < n
    case neg =>
      obtain rfl : k = n := by omega
      go_wp2_with fail
      go_ret
      exact ⟨_, rfl, HOW.out, HB.out⟩
    have hlt' : (k : Int) < n := by omega
    have HA := Lib.hid (HAT.out k wr HB.out (by omega))
    have HNX0 : Hid (lsL l wild k ++ [lsD wild (atN l k)] = lsL l wild (k + 1)) := Lib.hid rfl
    obtain ⟨z, hz⟩ : ∃ z, atN l k = z := ⟨_, rfl⟩
    rw [hz] at HA HNX0
    have HAX := HA
    have r1 := i64_and63 (z : Int)
    have r2 := i64_and63 ((z : Int) / 64)
    have r3 := i64_and3 (z : Int)
    have r4 := i64_one (z : Int)
    have HNV : Hid (lsD wild z = ⟨if wild = true ∧ bits .and .i64 ((z : Int) / 4096) 15 = 15 then 18446744073709551615 - bits .and .i64 (z : Int) 3 else bits .and .i64 (z : Int) 63,
       if wild = true ∧ bits .and .i64 ((z : Int) / 65536) 15 = 15 then 18446744073709551615 - bits .and .i64 (z : Int) 1 else bits .and .i64 ((z : Int) / 64) 63⟩) := Lib.hid rfl
    obtain ⟨p0, hp0⟩ : ∃ x, bits .and .i64 (z : Int) 63 = x := ⟨_, rfl⟩
    obtain ⟨m0, hm0⟩ : ∃ x, bits .and .i64 ((z : Int) / 64) 63 = x := ⟨_, rfl⟩
    obtain ⟨q, hq⟩ : ∃ x, bits .and .i64 (z : Int) 3 = x := ⟨_, rfl⟩
    obtain ⟨r, hr⟩ : ∃ x, bits .and .i64 (z : Int) 1 = x := ⟨_, rfl⟩
    obtain ⟨c1, hc1⟩ : ∃ x, bits .and .i64 ((z : Int) / 4096) 15 = x := ⟨_, rfl⟩
    obtain ⟨c2, hc2⟩ : ∃ x, bits .and .i64 ((z : Int) / 65536) 15 = x := ⟨_, rfl⟩
    rw [hp0, hm0, hq, hr, hc1, hc2] at HNV
    have i1 : 0 ≤ p0 ∧ p0 ≤ 63 := by rw [← hp0]; omega
    have i2 : 0 ≤ m0 ∧ m0 ≤ 63 := by rw [← hm0]; omega
    have i3 : 0 ≤ q ∧ q ≤ 3 := by rw [← hq]; omega
    have i4 : 0 ≤ r ∧ r ≤ 1 := by rw [← hr]; omega
    clear r1 r2 r3 r4
    have w1 : IntKind.u64.wrap p0 = p0 := wrap_u64 (by omega) (by omega)
    have w2 : IntKind.u64.wrap m0 = m0 := wrap_u64 (by omega) (by omega)
    have w3 : IntKind.u64.wrap q = q := wrap_u64 (by omega) (by omega)
    have w4 : IntKind.u64.wrap r = r := wrap_u64 (by omega) (by omega)
    have w5 : IntKind.u64.wrap (18446744073709551615 - q) = 18446744073709551615 - q := wrap_u64 (by omega) (by omega)
    have w6 : IntKind.u64.wrap (18446744073709551615 - r) = 18446744073709551615 - r := wrap_u64 (by omega) (by omega)
    cases wild with
    | false =>
      have HNX : Hid (lsL l false (k + 1) = lsL l false k ++ [⟨p0, m0⟩]) := by show _ = _; rw [← HNX0.out, HNV.out]; simp
      have HOK : Hid ((DlD.mk (p0) (m0)).ok) := ⟨⟨by show 0 ≤ p0; omega, by show p0 ≤ _; omega⟩, by show 0 ≤ m0; omega, by show m0 ≤ _; omega⟩
      clear HNX0 HNV HA
      go_wp2_with (first
        | (go_at_call 29; refine HAX.out.mono ?_; rintro e w2 ⟨rfl, hb2⟩; have HB2 := Lib.hid (HB.out.trans (hb2.mono HB.out.size)); have HO2 := Lib.hid (HOW.out.call dlOK hb2); clear hb2)
        | ((with_reducible refine at_app (.tmp 51) (.tmp 53) ?_); refine wpList_appEl dlOK Try.underlying30 info_delta (by rfl) (by omega) (.tmp 51) (.tmp 53) rfl rfl w.heap.size _ _ rfl (HO2.out.call dlOK (((Below.refl w2.heap.size w2).alloc (Nat.le_refl _) (.cells #[.int .u64 (p0), .int .u64 (m0)] 74)).alloc (by simp) (.cells #[.int .u64 (p0), .int .u64 (m0)] 74))) (w2.heap.size + 1) 1 #[.int .u64 (p0), .int .u64 (m0)] ⟨p0, m0⟩ rfl ⟨rfl, HOK.out⟩ (Blk.new (by simp)).range (by rw [lsL_len]; omega) (by rw [lsL_len]; unfold maxLen; omega) (by have := HB2.out.size; simp; omega) ?_; intro v3 w3 h3 g3 o3; rw [← HNX.out] at h3; have HO3 := Lib.hid h3; have HB3 := Lib.hid ((HB2.out.trans (((((Below.refl w2.heap.size w2).alloc (Nat.le_refl _) (.cells #[.int .u64 (p0), .int .u64 (m0)] 74)).alloc (by simp) (.cells #[.int .u64 (p0), .int .u64 (m0)] 74))).mono HB2.out.size)).grown g3 (by have := HB2.out.size; simp; omega) (fun j hj => (HO2.out.lt j hj).1)); clear h3 g3 o3))
      go_roundw
      case rel => exact ⟨k + 1, by omega, by go_num, HO3.out, HB3.out⟩
      case measure => simp [intOf]; omega
    | true =>
      by_cases h1 : c1 = 15
      · have h1b : (c1 == 15) = true := by simpa using h1
        by_cases h2 : c2 = 15
        · have h2b : (c2 == 15) = true := by simpa using h2
          have HNX : Hid (lsL l true (k + 1) = lsL l true k ++ [⟨18446744073709551615 - q, 18446744073709551615 - r⟩]) := by show _ = _; rw [← HNX0.out, HNV.out]; simp [h1, h2]
          have HOK : Hid ((DlD.mk (18446744073709551615 - q) (18446744073709551615 - r)).ok) := ⟨⟨by show 0 ≤ 18446744073709551615 - q; omega, by show 18446744073709551615 - q ≤ _; omega⟩, by show 0 ≤ 18446744073709551615 - r; omega, by show 18446744073709551615 - r ≤ _; omega⟩
          clear HNX0 HNV HA
          go_wp2_with (first
            | (go_at_call 29; refine HAX.out.mono ?_; rintro e w2 ⟨rfl, hb2⟩; have HB2 := Lib.hid (HB.out.trans (hb2.mono HB.out.size)); have HO2 := Lib.hid (HOW.out.call dlOK hb2); clear hb2)
            | ((with_reducible refine at_app (.tmp 51) (.tmp 53) ?_); refine wpList_appEl dlOK Try.underlying30 info_delta (by rfl) (by omega) (.tmp 51) (.tmp 53) rfl rfl w.heap.size _ _ rfl (HO2.out.call dlOK (((Below.refl w2.heap.size w2).alloc (Nat.le_refl _) (.cells #[.int .u64 (18446744073709551615 - q), .int .u64 (18446744073709551615 - r)] 74)).alloc (by simp) (.cells #[.int .u64 (18446744073709551615 - q), .int .u64 (18446744073709551615 - r)] 74))) (w2.heap.size + 1) 1 #[.int .u64 (18446744073709551615 - q), .int .u64 (18446744073709551615 - r)] ⟨18446744073709551615 - q, 18446744073709551615 - r⟩ rfl ⟨rfl, HOK.out⟩ (Blk.new (by simp)).range (by rw [lsL_len]; omega) (by rw [lsL_len]; unfold maxLen; omega) (by have := HB2.out.size; simp; omega) ?_; intro v3 w3 h3 g3 o3; rw [← HNX.out] at h3; have HO3 := Lib.hid h3; have HB3 := Lib.hid ((HB2.out.trans (((((Below.refl w2.heap.size w2).alloc (Nat.le_refl _) (.cells #[.int .u64 (18446744073709551615 - q), .int .u64 (18446744073709551615 - r)] 74)).alloc (by simp) (.cells #[.int .u64 (18446744073709551615 - q), .int .u64 (18446744073709551615 - r)] 74))).mono HB2.out.size)).grown g3 (by have := HB2.out.size; simp; omega) (fun j hj => (HO2.out.lt j hj).1)); clear h3 g3 o3))
          go_roundw
          case rel => exact ⟨k + 1, by omega, by go_num, HO3.out, HB3.out⟩
          case measure => simp [intOf]; omega
        · have h2b : (c2 == 15) = false := by simpa using h2
          have HNX : Hid (lsL l true (k + 1) = lsL l true k ++ [⟨18446744073709551615 - q, m0⟩]) := by show _ = _; rw [← HNX0.out, HNV.out]; simp [h1, h2]
          have HOK : Hid ((DlD.mk (18446744073709551615 - q) (m0)).ok) := ⟨⟨by show 0 ≤ 18446744073709551615 - q; omega, by show 18446744073709551615 - q ≤ _; omega⟩, by show 0 ≤ m0; omega, by show m0 ≤ _; omega⟩
          clear HNX0 HNV HA
          go_wp2_with (first
            | (go_at_call 29; refine HAX.out.mono ?_; rintro e w2 ⟨rfl, hb2⟩; have HB2 := Lib.hid (HB.out.trans (hb2.mono HB.out.size)); have HO2 := Lib.hid (HOW.out.call dlOK hb2); clear hb2)
            | ((with_reducible refine at_app (.tmp 51) (.tmp 53) ?_); refine wpList_appEl dlOK Try.underlying30 info_delta (by rfl) (by omega) (.tmp 51) (.tmp 53) rfl rfl w.heap.size _ _ rfl (HO2.out.call dlOK (((Below.refl w2.heap.size w2).alloc (Nat.le_refl _) (.cells #[.int .u64 (18446744073709551615 - q), .int .u64 (m0)] 74)).alloc (by simp) (.cells #[.int .u64 (18446744073709551615 - q), .int .u64 (m0)] 74))) (w2.heap.size + 1) 1 #[.int .u64 (18446744073709551615 - q), .int .u64 (m0)] ⟨18446744073709551615 - q, m0⟩ rfl ⟨rfl, HOK.out⟩ (Blk.new (by simp)).range (by rw [lsL_len]; omega) (by rw [lsL_len]; unfold maxLen; omega) (by have := HB2.out.size; simp; omega) ?_; intro v3 w3 h3 g3 o3; rw [← HNX.out] at h3; have HO3 := Lib.hid h3; have HB3 := Lib.hid ((HB2.out.trans (((((Below.refl w2.heap.size w2).alloc (Nat.le_refl _) (.cells #[.int .u64 (18446744073709551615 - q), .int .u64 (m0)] 74)).alloc (by simp) (.cells #[.int .u64 (18446744073709551615 - q), .int .u64 (m0)] 74))).mono HB2.out.size)).grown g3 (by have := HB2.out.size; simp; omega) (fun j hj => (HO2.out.lt j hj).1)); clear h3 g3 o3))
          go_roundw
          case rel => exact ⟨k + 1, by omega, by go_num, HO3.out, HB3.out⟩
          case measure => simp [intOf]; omega
      · have h1b : (c1 == 15) = false := by simpa using h1
        by_cases h2 : c2 = 15
        · have h2b : (c2 == 15) = true := by simpa using h2
          have HNX : Hid (lsL l true (k + 1) = lsL l true k ++ [⟨p0, 18446744073709551615 - r⟩]) := by show _ = _; rw [← HNX0.out, HNV.out]; simp [h1, h2]
          have HOK : Hid ((DlD.mk (p0) (18446744073709551615 - r)).ok) := ⟨⟨by show 0 ≤ p0; omega, by show p0 ≤ _; omega⟩, by show 0 ≤ 18446744073709551615 - r; omega, by show 18446744073709551615 - r ≤ _; omega⟩
          clear HNX0 HNV HA
          go_wp2_with (first
            | (go_at_call 29; refine HAX.out.mono ?_; rintro e w2 ⟨rfl, hb2⟩; have HB2 := Lib.hid (HB.out.trans (hb2.mono HB.out.size)); have HO2 := Lib.hid (HOW.out.call dlOK hb2); clear hb2)
            | ((with_reducible refine at_app (.tmp 51) (.tmp 53) ?_); refine wpList_appEl dlOK Try.underlying30 info_delta (by rfl) (by omega) (.tmp 51) (.tmp 53) rfl rfl w.heap.size _ _ rfl (HO2.out.call dlOK (((Below.refl w2.heap.size w2).alloc (Nat.le_refl _) (.cells #[.int .u64 (p0), .int .u64 (18446744073709551615 - r)] 74)).alloc (by simp) (.cells #[.int .u64 (p0), .int .u64 (18446744073709551615 - r)] 74))) (w2.heap.size + 1) 1 #[.int .u64 (p0), .int .u64 (18446744073709551615 - r)] ⟨p0, 18446744073709551615 - r⟩ rfl ⟨rfl, HOK.out⟩ (Blk.new (by simp)).range (by rw [lsL_len]; omega) (by rw [lsL_len]; unfold maxLen; omega) (by have := HB2.out.size; simp; omega) ?_; intro v3 w3 h3 g3 o3; rw [← HNX.out] at h3; have HO3 := Lib.hid h3; have HB3 := Lib.hid ((HB2.out.trans (((((Below.refl w2.heap.size w2).alloc (Nat.le_refl _) (.cells #[.int .u64 (p0), .int .u64 (18446744073709551615 - r)] 74)).alloc (by simp) (.cells #[.int .u64 (p0), .int .u64 (18446744073709551615 - r)] 74))).mono HB2.out.size)).grown g3 (by have := HB2.out.size; simp; omega) (fun j hj => (HO2.out.lt j hj).1)); clear h3 g3 o3))
          go_roundw
          case rel => exact ⟨k + 1, by omega, by go_num, HO3.out, HB3.out⟩
          case measure => simp [intOf]; omega
        · have h2b : (c2 == 15) = false := by simpa using h2
          have HNX : Hid (lsL l true (k + 1) = lsL l true k ++ [⟨p0, m0⟩]) := by show _ = _; rw [← HNX0.out, HNV.out]; simp [h1, h2]
          have HOK : Hid ((DlD.mk (p0) (m0)).ok) := ⟨⟨by show 0 ≤ p0; omega, by show p0 ≤ _; omega⟩, by show 0 ≤ m0; omega, by show m0 ≤ _; omega⟩
          clear HNX0 HNV HA
          go_wp2_with (first
            | (go_at_call 29; refine HAX.out.mono ?_; rintro e w2 ⟨rfl, hb2⟩; have HB2 := Lib.hid (HB.out.trans (hb2.mono HB.out.size)); have HO2 := Lib.hid (HOW.out.call dlOK hb2); clear hb2)
            | ((with_reducible refine at_app (.tmp 51) (.tmp 53) ?_); refine wpList_appEl dlOK Try.underlying30 info_delta (by rfl) (by omega) (.tmp 51) (.tmp 53) rfl rfl w.heap.size _ _ rfl (HO2.out.call dlOK (((Below.refl w2.heap.size w2).alloc (Nat.le_refl _) (.cells #[.int .u64 (p0), .int .u64 (m0)] 74)).alloc (by simp) (.cells #[.int .u64 (p0), .int .u64 (m0)] 74))) (w2.heap.size + 1) 1 #[.int .u64 (p0), .int .u64 (m0)] ⟨p0, m0⟩ rfl ⟨rfl, HOK.out⟩ (Blk.new (by simp)).range (by rw [lsL_len]; omega) (by rw [lsL_len]; unfold maxLen; omega) (by have := HB2.out.size; simp; omega) ?_; intro v3 w3 h3 g3 o3; rw [← HNX.out] at h3; have HO3 := Lib.hid h3; have HB3 := Lib.hid ((HB2.out.trans (((((Below.refl w2.heap.size w2).alloc (Nat.le_refl _) (.cells #[.int .u64 (p0), .int .u64 (m0)] 74)).alloc (by simp) (.cells #[.int .u64 (p0), .int .u64 (m0)] 74))).mono HB2.out.size)).grown g3 (by have := HB2.out.size; simp; omega) (fun j hj => (HO2.out.lt j hj).1)); clear h3 g3 o3))
          go_roundw
          case rel => exact ⟨k + 1, by omega, by go_num, HO3.out, HB3.out⟩
          case measure => simp [intOf]; omega
end

/-! DeQ -/
section
set_option linter.unusedVariables false
set_option linter.unusedSimpArgs false
open Go.RowKit

set_option maxRecDepth 100000

theorem sbX_bd {ns : List NdD} (h9 : ns.length ≤ 9) {f : Nat → Int} {c : Int} (hc : 0 ≤ c) (h : ∀ x, 0 ≤ f x ∧ f x ≤ c) (j : Nat) : 0 ≤ sbX ns f j ∧ sbX ns f j ≤ 9 * c := by
  have h1 : ∀ k : Nat, k ≤ 9 → sumX (fun x => if ancB ns j x = true then f x else 0) k ≤ 9 * c ∧ sumX (fun x => if ancB ns j x = true then f x else 0) k ≤ k * c := by
    intro k
    induction k with
    | zero => intro _; simp [sumX]; omega
    | succ k ih =>
      intro hk
      obtain ⟨_, h3⟩ := ih (by omega)
      have h2 : (if ancB ns j k = true then f k else 0) ≤ c := by
        have := h k
        split <;> omega
      rw [sumX_succ]
      have e : ((k + 1 : Nat) : Int) * c = k * c + c := by rw [Int.natCast_succ, Int.add_mul, Int.one_mul]
      have h4 : ((k + 1 : Nat) : Int) * c ≤ 9 * c := Int.mul_le_mul_of_nonneg_right (by omega) hc
      omega
  exact ⟨sbX_pos (fun x => (h x).1) j, (h1 _ h9).1⟩

theorem sbX_add (ns : List NdD) (f g : Nat → Int) (j : Nat) : sbX ns (fun x => f x + g x) j = sbX ns f j + sbX ns g j := by
  unfold sbX
  rw [← sumX_add]
  refine sumX_congr fun x _ => ?_
  split
  · rfl
  · rfl

theorem sbX_congr {ns : List NdD} {f g : Nat → Int} (h : ∀ x, x < ns.length → f x = g x) (j : Nat) : sbX ns f j = sbX ns g j := by
  unfold sbX
  refine sumX_congr fun x hx => ?_
  rw [h x hx]

/-- Where all numbers fit. -/
theorem aplN_ok {ns : List NdD} {ws : List Int} {ds : List DlD} (hw : ws.length = ns.length) (hd : ds.length = ns.length) (h : ∀ i, i < ns.length → ApK ns ws ds i) : aplN ns ws ds = ((List.range ns.length).map (apX ns ws ds), 0) := by
  unfold aplN
  rw [if_neg (by rw [hw, hd]; simp)]
  exact aplK_ok h

theorem apL_get {ns : List NdD} (ws : List Int) (ds : List DlD) {j : Nat} (hj : j < ns.length) : ((List.range ns.length).map (apX ns ws ds)).getD j 0 = apX ns ws ds j := by
  simp [List.getD_eq_getElem?_getD, hj]
/-! ### One pass -/

theorem movK_at (bs cs : List Int) : ∀ {n j : Nat}, j < n → (movK bs cs n).getD j zeDl = movD (bs.getD j 0) (cs.getD j 0)
  | n + 1, j, h => by
    show (movK bs cs n ++ [movD (bs.getD n 0) (cs.getD n 0)]).getD j zeDl = _
    rw [List.getD_eq_getElem?_getD]
    by_cases e : j < n
    · rw [List.getElem?_append_left (by rw [movK_len]; exact e), ← List.getD_eq_getElem?_getD, movK_at bs cs e]
    · obtain rfl : j = n := by omega
      rw [List.getElem?_append_right (by rw [movK_len]; omega), movK_len, Nat.sub_self]; rfl

theorem movK_over (bs cs : List Int) {n j : Nat} (h : n ≤ j) : (movK bs cs n).getD j zeDl = zeDl := by
  rw [List.getD_eq_getElem?_getD, List.getElem?_eq_none (by rw [movK_len]; exact h)]; rfl

theorem mov_p {b a c : Int} (hb : 0 ≤ b ∧ b ≤ c) (ha : 0 ≤ a ∧ a ≤ c) : (0 ≤ (movD b a).p ∧ (movD b a).p ≤ c) ∧ (0 ≤ (movD b a).m ∧ (movD b a).m ≤ c) ∧ (movD b a).p - (movD b a).m = a - b := by
  unfold movD
  split
  · exact ⟨⟨by show 0 ≤ a - b; omega, by show a - b ≤ c; omega⟩, ⟨by show (0 : Int) ≤ 0; omega, by show (0 : Int) ≤ c; omega⟩, by show a - b - 0 = a - b; omega⟩
  · exact ⟨⟨by show (0 : Int) ≤ 0; omega, by show (0 : Int) ≤ c; omega⟩, ⟨by show 0 ≤ b - a; omega, by show b - a ≤ c; omega⟩, by show 0 - (b - a) = a - b; omega⟩

theorem one_pass {ns : List NdD} (h9 : ns.length ≤ 9) {xs ys : List Int} (hx : ∀ i, 0 ≤ xs.getD i 0 ∧ xs.getD i 0 ≤ 864691128455135232) (hy : ∀ i, 0 ≤ ys.getD i 0 ∧ ys.getD i 0 ≤ 864691128455135232) :
    aplN ns (sbtL ns xs ns.length) (movK xs ys ns.length) = (sbtL ns ys ns.length, 0) := by
  have hP : ∀ x, (0 ≤ dP (movK xs ys ns.length) x ∧ dP (movK xs ys ns.length) x ≤ 864691128455135232) ∧ (0 ≤ dM (movK xs ys ns.length) x ∧ dM (movK xs ys ns.length) x ≤ 864691128455135232) := by
    intro x
    unfold dP dM
    by_cases h : x < ns.length
    · rw [movK_at xs ys h]
      have := mov_p (hx x) (hy x)
      exact ⟨this.1, this.2.1⟩
    · rw [movK_over xs ys (by omega)]
      exact ⟨⟨by show (0 : Int) ≤ 0; omega, by show (0 : Int) ≤ _; omega⟩, ⟨by show (0 : Int) ≤ 0; omega, by show (0 : Int) ≤ _; omega⟩⟩
  have key : ∀ j, j < ns.length → apX ns (sbtL ns xs ns.length) (movK xs ys ns.length) j = (sbtL ns ys ns.length).getD j 0 ∧ ApK ns (sbtL ns xs ns.length) (movK xs ys ns.length) j := by
    intro j hj
    have b1 := sbX_bd h9 (by omega) hx j
    have b2 := sbX_bd h9 (by omega) hy j
    have b3 := sbX_bd h9 (by omega) (fun x => (hP x).1) j
    have b4 := sbX_bd h9 (by omega) (fun x => (hP x).2) j
    have e : sbX ns (fun x => ys.getD x 0) j + sbX ns (dM (movK xs ys ns.length)) j = sbX ns (fun x => xs.getD x 0) j + sbX ns (dP (movK xs ys ns.length)) j := by
      rw [← sbX_add, ← sbX_add]
      refine sbX_congr (fun x hx' => ?_) j
      unfold dP dM
      rw [movK_at xs ys hx']
      have := (mov_p (hx x) (hy x)).2.2
      omega
    have eX : apX ns (sbtL ns xs ns.length) (movK xs ys ns.length) j = sbX ns (fun x => ys.getD x 0) j := by
      unfold apX
      rw [sbtL_get ns xs _ hj, wrap_u64 b1.1 (by omega)]
      omega
    refine ⟨?_, by omega, by omega, by rw [eX]; omega, by rw [eX]; omega⟩
    rw [eX, sbtL_get ns ys _ hj, wrap_u64 b2.1 (by omega)]
  rw [aplN_ok (sbtL_len _ _ _) (movK_len _ _ _) (fun i hi => (key i hi).2)]
  congr 1
  refine ext_getD (by rw [sbtL_len]; simp) fun j hj => ?_
  have hjn : j < ns.length := by simpa using hj
  rw [apL_get _ _ hjn, (key j hjn).1]
/-! ### Merged, and one after the other -/

def addL (n : Nat) (A B : List DlD) : List DlD := (List.range n).map fun j => ⟨(A.getD j zeDl).p + (B.getD j zeDl).p, (A.getD j zeDl).m + (B.getD j zeDl).m⟩

theorem addL_get {n : Nat} (A B : List DlD) {j : Nat} (hj : j < n) : (addL n A B).getD j zeDl = ⟨(A.getD j zeDl).p + (B.getD j zeDl).p, (A.getD j zeDl).m + (B.getD j zeDl).m⟩ := by
  simp [addL, List.getD_eq_getElem?_getD, hj]

theorem addL_len (n : Nat) (A B : List DlD) : (addL n A B).length = n := by simp [addL]

def addJ (n : Nat) (A B : List DlD) (k : Nat) : List DlD := (List.range n).map fun j => if j < k then ⟨(A.getD j zeDl).p + (B.getD j zeDl).p, (A.getD j zeDl).m + (B.getD j zeDl).m⟩ else A.getD j zeDl

theorem addJ_get {n : Nat} (A B : List DlD) (k : Nat) {j : Nat} (hj : j < n) : (addJ n A B k).getD j zeDl = if j < k then ⟨(A.getD j zeDl).p + (B.getD j zeDl).p, (A.getD j zeDl).m + (B.getD j zeDl).m⟩ else A.getD j zeDl := by
  simp [addJ, List.getD_eq_getElem?_getD, hj]

theorem mgK_small {n : Nat} {A B : List DlD} (hA : A.length = n) (h : ∀ j, (A.getD j zeDl).p + (B.getD j zeDl).p ≤ 18446744073709551615 ∧ (A.getD j zeDl).m + (B.getD j zeDl).m ≤ 18446744073709551615) : ∀ k, k ≤ n → mgK A B k = some (addJ n A B k)
  | 0, _ => by
    show some A = _
    congr 1
    refine ext_dl (by simp [addJ, hA]) fun j hj => ?_
    rw [addJ_get A B 0 (by omega), if_neg (by omega)]
  | k + 1, hk => by
    have ih := mgK_small hA h k (by omega)
    have hkn : k < n := by omega
    have e := addJ_get A B k hkn
    rw [if_neg (by omega)] at e
    obtain ⟨a1, a2⟩ := add_lo (h k).1
    obtain ⟨a3, a4⟩ := add_lo (h k).2
    rw [mgK_good ih (by rw [e]; exact a2) (by rw [e]; exact a4), e]
    congr 1
    refine ext_dl (by simp [addJ]) fun j hj => ?_
    have hjn : j < n := by simpa [addJ] using hj
    rw [addJ_get A B (k + 1) hjn]
    simp only [List.getD_eq_getElem?_getD, List.getElem?_set]
    by_cases hjk : k = j
    · subst hjk
      rw [if_pos rfl, if_pos (by simp [addJ]; omega), if_pos (by omega)]
      simp only [Option.getD_some]
      unfold mgA
      simp only [List.getD_eq_getElem?_getD] at a1 a3
      rw [a1, a3]
    · rw [if_neg hjk]
      have := addJ_get A B k hjn
      rw [List.getD_eq_getElem?_getD] at this
      rw [this]
      by_cases hj2 : j < k
      · rw [if_pos hj2, if_pos (by omega)]; simp only [List.getD_eq_getElem?_getD]
      · rw [if_neg hj2, if_neg (by omega)]; simp only [List.getD_eq_getElem?_getD]

theorem addJ_all (n : Nat) (A B : List DlD) : addJ n A B n = addL n A B := by
  unfold addJ addL
  exact List.map_congr_left fun j hj => by rw [if_pos (List.mem_range.1 hj)]

/-- Small deltas. -/
def Tame (A : List DlD) : Prop := ∀ j, (0 ≤ (A.getD j zeDl).p ∧ (A.getD j zeDl).p ≤ 63) ∧ (0 ≤ (A.getD j zeDl).m ∧ (A.getD j zeDl).m ≤ 63)

theorem tame_lsL (l : List Int) (n : Nat) : Tame (lsL l false n) := by
  intro j
  by_cases hj : j < (lsL l false n).length
  · obtain ⟨z, hz⟩ := lsL_mem (getD_mem' (d := zeDl) hj)
    rw [hz]
    have h1 := lsD_ok false z
    have h2 := lsD_tame z
    exact ⟨⟨h1.1.1, h2.1⟩, ⟨h1.2.1, h2.2⟩⟩
  · rw [List.getD_eq_getElem?_getD, List.getElem?_eq_none (by omega)]
    exact ⟨⟨by show (0 : Int) ≤ 0; omega, by show (0 : Int) ≤ _; omega⟩, ⟨by show (0 : Int) ≤ 0; omega, by show (0 : Int) ≤ _; omega⟩⟩

theorem zero_at (n j : Nat) : (List.replicate n zeDl).getD j zeDl = zeDl := by
  rw [List.getD_eq_getElem?_getD, List.getElem?_replicate]
  split <;> rfl

theorem mrg_two {n : Nat} {A B : List DlD} (hA : A.length = n) (hB : B.length = n) (tA : Tame A) (tB : Tame B) : mrgN n [A, B] = (addL n A B, 0) := by
  have h0 : mgK (List.replicate n zeDl) A n = some A := by
    rw [mgK_small (by simp) (fun j => by rw [zero_at]; have := tA j; exact ⟨by show 0 + _ ≤ _; omega, by show 0 + _ ≤ _; omega⟩) n (Nat.le_refl _), addJ_all]
    congr 1
    refine ext_dl (by rw [addL_len, hA]) fun j hj => ?_
    rw [addL_len] at hj
    rw [addL_get _ _ hj, zero_at]
    show (DlD.mk (0 + _) (0 + _)) = _
    rw [Int.zero_add, Int.zero_add]
  have h1 : mgK A B n = some (addL n A B) := by
    rw [mgK_small hA (fun j => by have := tA j; have := tB j; omega) n (Nat.le_refl _), addJ_all]
  unfold mrgN
  rw [if_pos (by simp [hA, hB])]
  have e : mgI n [A, B] [A, B].length = some (addL n A B) := by
    show ((some (List.replicate n zeDl)).bind fun q => mgK q A n).bind (fun q => mgK q B n) = _
    rw [Option.bind_some, h0, Option.bind_some, h1]
  rw [e]

theorem tame_P {A : List DlD} (h : Tame A) : ∀ x, 0 ≤ dP A x ∧ dP A x ≤ 63 := fun x => (h x).1

theorem tame_M {A : List DlD} (h : Tame A) : ∀ x, 0 ≤ dM A x ∧ dM A x ≤ 63 := fun x => (h x).2

theorem together {ns : List NdD} (h9 : ns.length ≤ 9) {A B : List DlD} (hA : A.length = ns.length) (hB : B.length = ns.length) (tA : Tame A) (tB : Tame B) {S : List Int} (hS : S.length = ns.length) (hr : ∀ j, j < ns.length → 5000 ≤ S.getD j 0 ∧ S.getD j 0 ≤ 72057594037932936) :
    ∃ P Q, aplN ns S A = (P, 0) ∧ aplN ns P B = (Q, 0) ∧ aplN ns S (addL ns.length A B) = (Q, 0) ∧ P.length = ns.length ∧ Q.length = ns.length := by
  have bA := fun j => sbX_bd h9 (by omega) (tame_P tA) j
  have bA' := fun j => sbX_bd h9 (by omega) (tame_M tA) j
  have bB := fun j => sbX_bd h9 (by omega) (tame_P tB) j
  have bB' := fun j => sbX_bd h9 (by omega) (tame_M tB) j
  have eP : ∀ j, sbX ns (dP (addL ns.length A B)) j = sbX ns (dP A) j + sbX ns (dP B) j := fun j => by
    rw [← sbX_add]
    exact sbX_congr (fun x hx => by unfold dP; rw [addL_get _ _ hx]) j
  have eM : ∀ j, sbX ns (dM (addL ns.length A B)) j = sbX ns (dM A) j + sbX ns (dM B) j := fun j => by
    rw [← sbX_add]
    exact sbX_congr (fun x hx => by unfold dM; rw [addL_get _ _ hx]) j
  have k1 : ∀ i, i < ns.length → ApK ns S A i := fun i hi => by
    have := hr i hi
    have := bA i
    have := bA' i
    unfold ApK apX
    omega
  have k2 : ∀ i, i < ns.length → ApK ns ((List.range ns.length).map (apX ns S A)) B i := fun i hi => by
    have := hr i hi
    have := bA i
    have := bA' i
    have := bB i
    have := bB' i
    have e : apX ns ((List.range ns.length).map (apX ns S A)) B i = apX ns S A i + sbX ns (dP B) i - sbX ns (dM B) i := by
      unfold apX
      rw [show ((List.range ns.length).map fun i => S.getD i 0 + sbX ns (dP A) i - sbX ns (dM A) i) = (List.range ns.length).map (apX ns S A) from rfl, apL_get _ _ hi]
      rfl
    unfold ApK
    rw [e]
    unfold apX
    omega
  have k3 : ∀ i, i < ns.length → ApK ns S (addL ns.length A B) i := fun i hi => by
    have := hr i hi
    have := bA i
    have := bA' i
    have := bB i
    have := bB' i
    unfold ApK apX
    rw [eP, eM]
    omega
  refine ⟨(List.range ns.length).map (apX ns S A), (List.range ns.length).map (apX ns S (addL ns.length A B)), aplN_ok hS hA k1, ?_, aplN_ok hS (addL_len _ _ _) k3, by simp, by simp⟩
  rw [aplN_ok (by simp) hB k2]
  congr 1
  refine List.map_congr_left fun j hj => ?_
  have hjn := List.mem_range.1 hj
  have e : apX ns ((List.range ns.length).map (apX ns S A)) B j = apX ns S A j + sbX ns (dP B) j - sbX ns (dM B) j := by
    unfold apX
    rw [show ((List.range ns.length).map fun i => S.getD i 0 + sbX ns (dP A) i - sbX ns (dM A) i) = (List.range ns.length).map (apX ns S A) from rfl, apL_get _ _ hjn]
    rfl
  rw [e]
  unfold apX
  rw [eP, eM]
  omega
end

/-! D14 -/
section
set_option linter.unusedVariables false
set_option linter.unusedSimpArgs false
open Go.RowKit

set_option maxRecDepth 100000

/-- The tree's variable, and two lists of numbers. -/
structure DnS (w : World) (bt : Nat) (s : Value) (ns : List NdD) (p q : Value) (X Y : List Int) (u : World) : Prop where
  a : AnS w bt s ns u
  p : NumsV u p X
  q : NumsV u q Y

theorem DnS.call {w u u' : World} {bt : Nat} {s : Value} {ns : List NdD} {p q : Value} {X Y : List Int} (h : DnS w bt s ns p q X Y u) (hb : Below u.heap.size u u') : DnS w bt s ns p q X Y u' := ⟨h.a.call hb, ⟨h.p.1.below hb, h.p.2⟩, ⟨h.q.1.below hb, h.q.2⟩⟩

theorem num_nums {l : List Int} {n : Nat} {w : World} {B : Nat} {v : Value} (h : OwnK .u64 53 w B v (numK l n)) (hn : n ≤ 100000) : NumsV w v (numK l n) :=
  ⟨h.ints (by rw [numK_len]; unfold maxLen; omega), fun x hx => by have := numK_rng l n x hx; omega⟩

theorem num_at (l : List Int) (n i : Nat) : 0 ≤ (numK l n).getD i 0 ∧ (numK l n).getD i 0 ≤ 72057594037927936 := by
  by_cases h : i < (numK l n).length
  · exact numK_rng l n _ (getD_mem' h)
  · rw [List.getD_eq_getElem?_getD, List.getElem?_eq_none (by omega)]; simp

/-- The tree's variable, and two lists of deltas. -/
structure DdS (w : World) (bt : Nat) (s : Value) (ns : List NdD) (p q : Value) (X Y : List DlD) (u : World) : Prop where
  a : AnS w bt s ns u
  p : DeltasV u p X
  q : DeltasV u q Y

theorem DdS.call {w u u' : World} {bt : Nat} {s : Value} {ns : List NdD} {p q : Value} {X Y : List DlD} (h : DdS w bt s ns p q X Y u) (hb : Below u.heap.size u u') : DdS w bt s ns p q X Y u' := ⟨h.a.call hb, h.p.call hb, h.q.call hb⟩

theorem d_same (v1 v2 : Value) (l : List Int) (u : World) (h1 : NumsV u v1 l) (h2 : NumsV u v2 l) : Calls Try.prog 18 #[v1, v2] u fun e w' => e = .returned (.bool true) ∧ Below u.heap.size u w' :=
  (snums2 v1 v2 l l u h1 h2).mono fun e w' ⟨b, he, hb, hbl⟩ => ⟨by rw [he, hb.2 rfl], hbl⟩

theorem i64_and15 (n : Int) : bits .and .i64 n 15 = n % 16 := by
  have h3 : (BitVec.ofInt 64 15).toNat = 2 ^ 4 - 1 := by decide
  have key : (BitVec.ofInt 64 n &&& BitVec.ofInt 64 15).toNat = (n % ((2 ^ 64 : Nat) : Int)).toNat % 2 ^ 4 := by
    rw [BitVec.toNat_and, BitVec.toNat_ofInt, h3, Nat.and_two_pow_sub_one_eq_mod]
  show IntKind.i64.wrap ((BitVec.ofInt 64 n &&& BitVec.ofInt 64 15).toNat : Nat) = n % 16
  rw [key, IntKind.wrap_i64]
  omega

theorem quo15 (n : Int) : ∃ E Q : Nat, E ≤ 15 ∧ Q ≤ 1 ∧ bits .and .i64 n 15 = E ∧ Int.tdiv (E : Int) 15 = Q ∧ (E : Int) / 15 = Q := by
  refine ⟨(n % 16).toNat, (n % 16).toNat / 15, by omega, by omega, by rw [i64_and15]; omega, ?_, by omega⟩
  rw [Int.tdiv_eq_ediv_of_nonneg (by omega)]; omega

/-- weights' Subtree in a tree's variable. -/
theorem d_sub {w : World} {bt m : Nat} {s : Value} {ns : List NdD} (hok : TrOK ns) (hnl : ns.length ≤ 100000) (hm : ns.length = m) (u : World) (h : AnS w bt s ns u) (dv : Value) (dl : List Int) (hd : NumsV u dv dl) (hl : dl.length = m) :
    Calls Try.prog 19 #[.agg #[s], dv] u fun e w' => ∃ v', e = .returned v' ∧ NumsV w' v' (sbtL ns dl m) ∧ Below u.heap.size u w' := by
  refine (csubtree_any ns hok hnl dl s dv u h.n hd (by rw [hl, hm])).mono ?_
  rintro e w' ⟨v', rfl, hr, hb⟩
  rw [hm] at hr
  exact ⟨v', rfl, hr.nums (sbtL_rng _ _ _), hb⟩
end

end Go.Proofs.Ytdlbobpglgjhiaa
