/- Several texts as one: L14g. -/
import Derived.Test.YtdlbobpglgjhiaaZ5
namespace Go.Proofs.Ytdlbobpglgjhiaa

/-! L14g -/
section
set_option linter.unusedVariables false
set_option linter.unusedSimpArgs false
open Go.RowKit

set_option maxRecDepth 100000

theorem wpList_make_elsW {ops : Array Oper} {rest : List Oper} {o : Oper} {a : Act} {w : World} {Q : Exit → Act → World → Prop} (hw : Region.wanted o (yielded ops a.tmps) = true) (l : Operand) (t e : TypeId) (hop : o.op = Op.makeSlice t l l) (Z : List Value) (bytes : Nat)
    (hu : Try.prog.underlying t = some (.slice e)) (hi : (Try.prog.info? e).map (fun i => (i.zero, i.size, i.bytes)) = some (some (.agg Z.toArray), Z.length, bytes)) (kl : IntKind) (n : Nat) (hl : a.eval l = .int kl (n : Int)) (hb : bytes * n ≤ 281474976710656) (hn : n ≤ 1000000)
    (hK : ∀ w', w.grownBy w' none → w'.heap.size = w.heap.size + 1 → RowB w' w.heap.size (List.replicate n Z) → wpList Try.prog ops Q rest (a.put o.dst (.slice (some ⟨w.heap.size, 0, none⟩) n n)) w') : wpList Try.prog ops Q (o :: rest) a w := by
  obtain ⟨i0, hi0, hz0, hz1, hz2⟩ := info_parts hi
  refine BigFrame.wpList_want hw fun _ hK' => ?_
  have hr := run_make (P := Try.prog) w t e i0 (.agg Z.toArray) hu hi0 hz0 kl kl n n (by omega) (by omega) (by rw [hz2, ← Int.natCast_mul]; omega) (by omega)
  simp only [Int.toNat_natCast, hz1] at hr
  have hm : madeCells (Value.agg Z.toArray).cells (n * Z.length) = flatP (List.replicate n Z) := made_flat Z n
  rw [hm] at hr
  unfold Oper.wp
  simp only [execOp, hop, hl, Sem.run_bind, hr, Result.andThen, Sem.run_pure]
  exact hK' _ _ (hK _ (World.grownBy_alloc _ _ _) (by simp) ⟨[], by
    have : flatP (List.replicate n Z ++ [[]]) = flatP (List.replicate n Z) := by simp [flatP]
    rw [this]; exact Blk.new rfl⟩)

theorem rowB_deltas {u : World} {g : Nat} {Q : List DlD} (h : RowB u g (Q.map DlD.cells)) (ho : ∀ d ∈ Q, d.ok) (hl : Q.length ≤ maxLen) (c : Nat) : DeltasV u (.slice (some ⟨g, 0, none⟩) Q.length c) Q := by
  refine ⟨_, _, rfl, hl, .inr ⟨_, 0, rfl, h.lt, Q.map fun d => d.cells.toArray, ?_, by simp, ?_⟩⟩
  · rw [rowsDl]; exact h.range
  · intro p hp
    obtain ⟨i, hi, rfl⟩ := List.mem_iff_getElem.1 hp
    simp only [List.length_zip, List.length_map] at hi
    simp only [List.getElem_zip, List.getElem_map]
    exact ⟨rfl, ho _ (List.getElem_mem _)⟩

theorem rows_two {u : World} {g : Nat} {v1 v2 : Value} {A B : List DlD} (h : Blk u g #[v1, v2]) (h1 : DeltasV u v1 A) (h2 : DeltasV u v2 B) : RowsV u (.slice (some ⟨g, 0, none⟩) 2 2) [A, B] := by
  refine ⟨_, _, rfl, by show 2 ≤ maxLen; unfold maxLen; omega, .inr ⟨g, 0, rfl, h.lt, fun i hi => ?_⟩⟩
  have : i = 0 ∨ i = 1 := by simp at hi; omega
  rcases this with rfl | rfl
  · exact ⟨v1, h.cell 0, h1⟩
  · exact ⟨v2, h.cell 1, h2⟩

theorem mgK_len {o ds q : List DlD} : ∀ {k : Nat}, mgK o ds k = some q → q.length = o.length
  | 0, h => by cases h; rfl
  | k + 1, h => by
    cases hx : mgK o ds k with
    | none => rw [mgK_stop hx (k + 1) (by omega)] at h; cases h
    | some r =>
      have ih := mgK_len hx
      have h2 : (mgK o ds k).bind _ = some q := h
      rw [hx, Option.bind_some] at h2
      split at h2
      · cases h2; rw [List.length_set, ih]
      · cases h2

theorem mgI_len {n : Nat} {R : List (List DlD)} {q : List DlD} : ∀ {k : Nat}, mgI n R k = some q → q.length = n
  | 0, h => by cases h; simp
  | k + 1, h => by
    cases hx : mgI n R k with
    | none => rw [mgI_stop hx (k + 1) (by omega)] at h; cases h
    | some r =>
      have ih := mgI_len hx
      have h2 : (mgI n R k).bind _ = some q := h
      rw [hx, Option.bind_some] at h2
      rw [mgK_len h2, ih]

theorem mrgN_len (n : Nat) (R : List (List DlD)) (hn : n ≤ 1000000) : (mrgN n R).1.length ≤ 1000000 := by
  unfold mrgN
  split
  · cases hx : mgI n R R.length with
    | none => simp
    | some q => simpa [mgI_len hx] using hn
  · simp

theorem rows_none (u : World) : RowsV u (.slice none 0 0) [] := ⟨none, 0, rfl, Nat.zero_le _, .inl rfl⟩

theorem mrg_none (n : Nat) : mrgN n [] = (List.replicate n zeDl, 0) := rfl

set_option maxHeartbeats 32000000 in
theorem walk_DeltasMerges (a0 : Option Addr) (len0 cap0 : Nat) (z0 : List Int) (a1 : Option Addr) (len1 cap1 : Nat) (z1 : List Int) (a2 : Option Addr) (len2 cap2 : Nat) (z2 : List Int) (a3 : Int) (w : World) (w0 : IsRow .i64 w a0 len0 cap0 z0) (w1 : IsRow .i64 w a1 len1 cap1 z1) (w2 : IsRow .i64 w a2 len2 cap2 z2) (w3 : (Lit.int .i64 a3).wf = true) :
    Calls Try.prog 7 #[.slice a0 len0 cap0, .slice a1 len1 cap1, .slice a2 len2 cap2, .int .i64 a3] w fun e w' => e = .returned (.bool true) ∧ Below w.heap.size w w' := by
  have HTR := Lib.hid (fun u (hu : Below w.heap.size w u) => tree_any (.slice a0 len0 cap0) _ u ((rowInts w0).below hu))
  have HI1 := Lib.hid (fun u (hu : Below w.heap.size w u) => (rowInts w1).below hu)
  obtain ⟨l1, hl1⟩ : ∃ l, z1.take len1 = l := ⟨_, rfl⟩
  rw [hl1] at HI1
  have HI2 := Lib.hid (fun u (hu : Below w.heap.size w u) => (rowInts w2).below hu)
  obtain ⟨l2, hl2⟩ : ∃ l, z2.take len2 = l := ⟨_, rfl⟩
  rw [hl2] at HI2
  have HAW := Lib.hid awake14_any
  have hi1 : (Try.prog.info? 25).map (·.size) = some 1 := by kernel_rfl
  obtain ⟨hz1, hst1⟩ := zero_array (P := Try.prog) (t := 25) (n := 1) #[.slice none 0 0] (by kernel_rfl) rfl (by kernel_rfl)
  obtain ⟨E, Q, hE, hQ, hb15, hd1, hd2⟩ := quo15 a3
  clear hst1 w0 w1 w2 w3
  clear hl1
  clear hl2
  go_enter Try.func7, Try.ntmps7
  go_upto_region 2 with (first
    | (go_at_call 9; refine (HTR.out _ (Below.refl _ _)).mono ?_; rintro e w1 ⟨v1, ns, rfl, hn1, hc1, hok, hl9, hb1⟩; obtain ⟨va, vc, rfl, _⟩ := hn1.shape; have HN1 := Lib.hid hn1; have HOK := Lib.hid hok; have HL9 := Lib.hid hl9; have HB1 := Lib.hid hb1; clear hn1 hc1 hok hl9 hb1)
    | ((with_reducible refine at_store (.tmp 9) ?_); refine wpList_store_blk rfl 25 (.tmp 9) _ rfl w1.heap.size #[.slice va ns.length vc] rfl rfl #[.slice none 0 0] (Blk.new rfl) rfl hi1 (by simp [Value.oneCell']) ?_; intro w2 U2 B2; have hb2 := U2.below ((Below.refl w1.heap.size w1).alloc (Nat.le_refl _) (.cells #[.slice none 0 0] 25)) (Nat.le_refl _); have S2 : Hid (AnS w w1.heap.size (.slice va ns.length vc) ns w2) := ⟨B2, HN1.out.call hb2, HB1.out.trans (hb2.mono HB1.out.size)⟩; clear U2 B2 hb2))
  obtain ⟨bt, hbt⟩ : ∃ x, w1.heap.size = x := ⟨_, rfl⟩
  rw [hbt] at S2 ⊢
  have hnl : ns.length ≤ 100000 := by have := HL9.out; omega
  have HNL := Lib.hid hnl
  have HPOS : Hid (0 < ns.length) := HOK.out.pos
  obtain ⟨m, hm⟩ : ∃ m, Hid (ns.length = m) := ⟨_, Lib.hid rfl⟩
  rw [hm.out] at S2 ⊢
  have hm9 : m ≤ 9 := by have := HL9.out; have := hm.out; omega
  have hm1 : 0 < m := by have := HPOS.out; have := hm.out; omega
  clear hbt HN1 HB1 hnl HTR
  (try simp only [Act.put])
  have HLA : Hid (∀ u, AnS w bt (.slice va m vc) ns u → Calls Try.prog 15 #[.slice a1 len1 cap1, .int .i64 (m : Int), .bool true] u fun e w' => ∃ v', e = .returned v' ∧ DeltasV w' v' (lsL l1 true m) ∧ Below u.heap.size u w') := fun u hu => by
    refine (lst14_any (.slice a1 len1 cap1) l1 m true u (HI1.out u hu.b) (by omega)).mono ?_
    rintro e w' ⟨v', rfl, ho, hb⟩
    exact ⟨v', rfl, ho.elV dlOK, hb⟩
  have HLB : Hid (∀ u, AnS w bt (.slice va m vc) ns u → Calls Try.prog 15 #[.slice a2 len2 cap2, .int .i64 ((m : Int) + (Q : Int)), .bool true] u fun e w' => ∃ v', e = .returned v' ∧ DeltasV w' v' (lsL l2 true (m + Q)) ∧ Below u.heap.size u w') := fun u hu => by
    have h := lst14_any (.slice a2 len2 cap2) l2 (m + Q) true u (HI2.out u hu.b) (by omega)
    rw [Int.natCast_add] at h
    refine h.mono ?_
    rintro e w' ⟨v', rfl, ho, hb⟩
    exact ⟨v', rfl, ho.elV dlOK, hb⟩
  have hwr : IntKind.i64.wrap ((m : Int) + (Q : Int)) = (m : Int) + (Q : Int) := by rw [IntKind.wrap_i64]; omega
  have hdz : ((15 : Int) == 0) = false := rfl
  have hwq : IntKind.i64.wrap (Q : Int) = (Q : Int) := by rw [IntKind.wrap_i64]; omega
  obtain ⟨A, hA⟩ : ∃ x, lsL l1 true m = x := ⟨_, rfl⟩
  obtain ⟨B, hB⟩ : ∃ x, lsL l2 true (m + Q) = x := ⟨_, rfl⟩
  rw [hA] at HLA
  rw [hB] at HLB
  clear hA hB HI1 HI2
  go_cut [10, 11] from 20 to 33 (fun pv qv wx => ∃ p q, pv = p ∧ qv = q ∧ DdS w bt (.slice va m vc) ns p q A B wx)
  case first =>
    have HSx0 : Hid ((fun u => AnS w bt (.slice va m vc) ns u) w2.drew) := S2.out.call (Below.drewN (n := 1) (Below.refl _ _) : Below w2.heap.size w2 w2.drew)
    refine wp_region_held_drew (S := fun u => AnS w bt (.slice va m vc) ns u) (by kernel_rfl) (HSx0.out) (fun _ => ?_)
    (try simp only [Act.put, List.setIfInBounds_toArray, List.set_cons_zero, List.set_cons_succ])
    obtain ⟨x0, hx0⟩ : ∃ x, w2.drew = x := ⟨_, rfl⟩
    rw [hx0] at HSx0 ⊢
    clear hx0
    refine wpAnyH_take (i := 0) (oi := ⟨some 20, _, _, _, _, _⟩) (v := .slice a1 len1 cap1) rfl (by kernel_rfl) (by kernel_rfl) (by kernel_rfl) (fun _ _ _ h => h) (Or.inl ⟨by rfl, fun wz hz => ?_⟩) HSx0.out ?_
    · clear hz; go_simp; first | done | with_reducible rfl | rfl
    (try simp only [Act.put, List.setIfInBounds_toArray, List.set_cons_zero, List.set_cons_succ])
    refine wpAnyH_take (i := 1) (oi := ⟨some 21, _, _, _, _, _⟩) (v := .pointer (some ⟨bt, 0, none⟩)) rfl (by kernel_rfl) (by kernel_rfl) (by kernel_rfl) (fun _ _ _ h => h) (Or.inl ⟨by rfl, fun wz hz => ?_⟩) HSx0.out ?_
    · clear hz; go_simp; first | done | with_reducible rfl | rfl
    (try simp only [Act.put, List.setIfInBounds_toArray, List.set_cons_zero, List.set_cons_succ])
    refine held_load1 (oi := ⟨some 22, _, _, _, _, _⟩) 2 rfl (by kernel_rfl) (by kernel_rfl) (by kernel_rfl) (fun _ _ _ _ h => h) rfl 23 (.tmp 21) rfl bt (0) rfl (.slice va m vc) _ (fun u' hu => hu.t.cell 0) Try.underlying23 rfl HSx0.out ?_
    (try simp only [Act.put, List.setIfInBounds_toArray, List.set_cons_zero, List.set_cons_succ])
    refine wpAnyH_take (i := 3) (oi := ⟨some 23, _, _, _, _, _⟩) (v := .int .i64 m) rfl (by kernel_rfl) (by kernel_rfl) (by kernel_rfl) (fun _ _ _ h => h) (Or.inl ⟨by rfl, fun wz hz => ?_⟩) HSx0.out ?_
    · clear hz; go_simp; first | done | with_reducible rfl | rfl
    (try simp only [Act.put, List.setIfInBounds_toArray, List.set_cons_zero, List.set_cons_succ])
    refine wpAnyH_take (i := 5) (oi := ⟨some 25, _, _, _, _, _⟩) (v := .slice a2 len2 cap2) rfl (by kernel_rfl) (by kernel_rfl) (by kernel_rfl) (fun _ _ _ h => h) (Or.inl ⟨by rfl, fun wz hz => ?_⟩) HSx0.out ?_
    · clear hz; go_simp; first | done | with_reducible rfl | rfl
    (try simp only [Act.put, List.setIfInBounds_toArray, List.set_cons_zero, List.set_cons_succ])
    refine wpAnyH_take (i := 6) (oi := ⟨some 26, _, _, _, _, _⟩) (v := .pointer (some ⟨bt, 0, none⟩)) rfl (by kernel_rfl) (by kernel_rfl) (by kernel_rfl) (fun _ _ _ h => h) (Or.inl ⟨by rfl, fun wz hz => ?_⟩) HSx0.out ?_
    · clear hz; go_simp; first | done | with_reducible rfl | rfl
    (try simp only [Act.put, List.setIfInBounds_toArray, List.set_cons_zero, List.set_cons_succ])
    refine held_load1 (oi := ⟨some 27, _, _, _, _, _⟩) 7 rfl (by kernel_rfl) (by kernel_rfl) (by kernel_rfl) (fun _ _ _ _ h => h) rfl 23 (.tmp 26) rfl bt (0) rfl (.slice va m vc) _ (fun u' hu => hu.t.cell 0) Try.underlying23 rfl HSx0.out ?_
    (try simp only [Act.put, List.setIfInBounds_toArray, List.set_cons_zero, List.set_cons_succ])
    refine wpAnyH_take (i := 8) (oi := ⟨some 28, _, _, _, _, _⟩) (v := .int .i64 m) rfl (by kernel_rfl) (by kernel_rfl) (by kernel_rfl) (fun _ _ _ h => h) (Or.inl ⟨by rfl, fun wz hz => ?_⟩) HSx0.out ?_
    · clear hz; go_simp; first | done | with_reducible rfl | rfl
    (try simp only [Act.put, List.setIfInBounds_toArray, List.set_cons_zero, List.set_cons_succ])
    refine wpAnyH_take (i := 9) (oi := ⟨some 29, _, _, _, _, _⟩) (v := .int .i64 a3) rfl (by kernel_rfl) (by kernel_rfl) (by kernel_rfl) (fun _ _ _ h => h) (Or.inl ⟨by rfl, fun wz hz => ?_⟩) HSx0.out ?_
    · clear hz; go_simp; first | done | with_reducible rfl | rfl
    (try simp only [Act.put, List.setIfInBounds_toArray, List.set_cons_zero, List.set_cons_succ])
    refine wpAnyH_take (i := 10) (oi := ⟨some 30, _, _, _, _, _⟩) (v := .int .i64 E) rfl (by kernel_rfl) (by kernel_rfl) (by kernel_rfl) (fun _ _ _ h => h) (Or.inl ⟨by rfl, fun wz hz => ?_⟩) HSx0.out ?_
    · clear hz; go_simp; first | done | with_reducible rfl | rfl
    (try simp only [Act.put, List.setIfInBounds_toArray, List.set_cons_zero, List.set_cons_succ])
    refine wpAnyH_take (i := 11) (oi := ⟨some 31, _, _, _, _, _⟩) (v := .int .i64 Q) rfl (by kernel_rfl) (by kernel_rfl) (by kernel_rfl) (fun _ _ _ h => h) (Or.inl ⟨by rfl, fun wz hz => ?_⟩) HSx0.out ?_
    · clear hz; go_simp; first | done | with_reducible rfl | rfl
    (try simp only [Act.put, List.setIfInBounds_toArray, List.set_cons_zero, List.set_cons_succ])
    refine wpAnyH_take (i := 12) (oi := ⟨some 32, _, _, _, _, _⟩) (v := .int .i64 ((m : Int) + (Q : Int))) rfl (by kernel_rfl) (by kernel_rfl) (by kernel_rfl) (fun _ _ _ h => h) (Or.inl ⟨by rfl, fun wz hz => ?_⟩) HSx0.out ?_
    · clear hz; go_simp; first | done | with_reducible rfl | rfl
    (try simp only [Act.put, List.setIfInBounds_toArray, List.set_cons_zero, List.set_cons_succ])
    refine wpAnyH_ready (rs := [4]) (by kernel_rfl) (by simp) ?_
    refine AllReadyH.cons (o := ⟨some 24, _, _, _, _, _⟩) rfl (fun K hK => ?_) AllReadyH.nil
    go_simp
    refine (HLA.out x0 HSx0.out).mono ?_
    rintro e x1 ⟨p1, rfl, hd1x, hb⟩
    have HP1 := Lib.hid hd1x
    clear hd1x
    have HSx1 : Hid ((fun u => AnS w bt (.slice va m vc) ns u) x1) := HSx0.out.call hb
    clear hb
    refine hK.out _ _ (HSx1.out) (fun _ => ?_)
    clear hK K
    (try simp only [Act.put, List.setIfInBounds_toArray, List.set_cons_zero, List.set_cons_succ])
    refine wpAnyH_ready (rs := [13]) (by kernel_rfl) (by simp) ?_
    refine AllReadyH.cons (o := ⟨some 33, _, _, _, _, _⟩) rfl (fun K hK => ?_) AllReadyH.nil
    go_simp
    refine (HLB.out x1 HSx1.out).mono ?_
    rintro e x2 ⟨p2, rfl, hd2x, hb⟩
    have HP2 := Lib.hid hd2x
    clear hd2x
    have HP1 := Lib.hid (HP1.out.call hb)
    have HSx2 : Hid ((fun u => AnS w bt (.slice va m vc) ns u) x2) := HSx1.out.call hb
    clear hb
    refine hK.out _ _ (HSx2.out) (fun _ => ?_)
    clear hK K
    (try simp only [Act.put, List.setIfInBounds_toArray, List.set_cons_zero, List.set_cons_succ])
    refine wpAnyH_ready (rs := [14]) (by kernel_rfl) (by simp) ?_
    refine AllReadyH.cons (o := ⟨some 10, _, _, _, _, _⟩) rfl (fun K hK => ?_) AllReadyH.nil
    go_simp
    refine hK.out _ _ (HSx2.out) (fun _ => ?_)
    clear hK K
    (try simp only [Act.put, List.setIfInBounds_toArray, List.set_cons_zero, List.set_cons_succ])
    refine wpAnyH_ready (rs := [15]) (by kernel_rfl) (by simp) ?_
    refine AllReadyH.cons (o := ⟨some 11, _, _, _, _, _⟩) rfl (fun K hK => ?_) AllReadyH.nil
    go_simp
    refine hK.out _ _ (HSx2.out) (fun _ => ?_)
    clear hK K
    (try simp only [Act.put, List.setIfInBounds_toArray, List.set_cons_zero, List.set_cons_succ])
    refine wpAnyH_done (by kernel_rfl) ?_ _
    go_wp2_with fail
    go_meet
    case rel => exact ⟨p1, p2, rfl, rfl, HSx2.out, HP1.out, HP2.out⟩
  case rest =>
    obtain ⟨p, q, rfl, rfl, hs⟩ := hcut
    obtain ⟨pa, pc, rfl, _⟩ := ElV.shape hs.p
    obtain ⟨qa, qc, rfl, _⟩ := ElV.shape hs.q
    have S3 := Lib.hid hs
    obtain ⟨pl, hpl⟩ : ∃ x, A.length = x := ⟨_, rfl⟩
    obtain ⟨ql, hql⟩ : ∃ x, B.length = x := ⟨_, rfl⟩
    rw [hpl, hql] at S3
    (try rw [hpl])
    (try rw [hql])
    obtain ⟨w3, hw3⟩ : ∃ z, wc = z := ⟨_, rfl⟩
    rw [hw3] at S3 ⊢
    clear hs S2 HLA HLB hpl hql hw3
    obtain ⟨R, hR⟩ : ∃ x, mrgN m [A, B] = x := ⟨_, rfl⟩
    obtain ⟨R1, R2⟩ := R
    have HCM : Hid (∀ u, DdS w bt (.slice va m vc) ns (.slice pa pl pc) (.slice qa ql qc) A B u → ∀ lv, RowsV u lv [A, B] → Calls Try.prog 25 #[.agg #[.slice va m vc], lv] u fun e w' => ∃ v', e = .returned (.tuple #[v', .int .i64 R2]) ∧ DeltasV w' v' R1 ∧ Below u.heap.size u w') := fun u hu lv hr => by
      have h := cmrg_any (.slice va m vc) lv ns [A, B] HNL.out u hu.a.n hr
      rw [hm.out, hR] at h
      exact h
    have HRM : Hid (∀ u, DdS w bt (.slice va m vc) ns (.slice pa pl pc) (.slice qa ql qc) A B u → ∀ lv, RowsV u lv [A, B] → Calls Try.prog 26 #[.agg #[.slice va m vc], lv] u fun e w' => ∃ v', e = .returned (.tuple #[v', .int .i64 R2]) ∧ DeltasV w' v' R1 ∧ Below u.heap.size u w') := fun u hu lv hr => by
      have h := mrg_any (.slice va m vc) lv ns [A, B] HNL.out u hu.a.n hr
      rw [hm.out, hR] at h
      exact h
    have HCN : Hid (∀ u, DdS w bt (.slice va m vc) ns (.slice pa pl pc) (.slice qa ql qc) A B u → Calls Try.prog 25 #[.agg #[.slice va m vc], .slice none 0 0] u fun e w' => ∃ v', e = .returned (.tuple #[v', .int .i64 0]) ∧ DeltasV w' v' (List.replicate m zeDl) ∧ Below u.heap.size u w') := fun u hu => by
      have h := cmrg_any (.slice va m vc) (.slice none 0 0) ns [] HNL.out u hu.a.n (rows_none u)
      rw [hm.out, mrg_none] at h
      exact h
    have HR1L : Hid (R1.length ≤ 1000000) := by
      show _ ≤ _
      have e : R1 = (mrgN m [A, B]).1 := by rw [hR]
      rw [e]
      exact mrgN_len m [A, B] (by omega)
    have HSD := Lib.hid sdeltas_yes
    have HZO : Hid (∀ d ∈ List.replicate m zeDl, d.ok) := fun d hd => by rw [List.eq_of_mem_replicate hd]; exact zeDl_ok
    have HZM : Hid ((List.replicate m zeDl).map DlD.cells = List.replicate m zeDl.cells) := List.map_replicate
    have HZL : Hid ((List.replicate m zeDl).length = m) := List.length_replicate
    have A3 : Hid (Below w3.heap.size w3 (w3.alloc (.cells #[.slice pa pl pc, .slice qa ql qc] 30))) := (Below.refl _ _).alloc (Nat.le_refl _) _
    have HT := Lib.hid S3.out.a.t
    clear hR
    go_wp2_with (first
      | ((with_reducible refine at_load (.tmp 9) ?_); refine wpList_load_g 25 (.tmp 9) rfl bt rfl #[.slice va m vc] _ HT.out Try.underlying25 rfl hi1 rfl ?_)
      | (go_at_call_of 25 (Value.slice none 0 0); refine (HCN.out _ S5.out).mono ?_; rintro e w6 ⟨v6, rfl, hd6, hb6⟩; have HD6 := Lib.hid hd6; have HD5 := Lib.hid (HD5.out.call hb6); have HD4 := Lib.hid (HD4.out.call hb6); have S6 := Lib.hid (S5.out.call hb6); clear hd6 hb6)
      | (go_at_call 25; refine (HCM.out _ (S3.out.call A3.out) _ (rows_two (Blk.new rfl) (S3.out.p.call A3.out) (S3.out.q.call A3.out))).mono ?_; rintro e w4 ⟨v4, rfl, hd4, hb4⟩; have HD4 := Lib.hid hd4; have S4 := Lib.hid ((S3.out.call A3.out).call hb4); have HT := Lib.hid S4.out.a.t; have A4 : Hid (Below w4.heap.size w4 (w4.alloc (.cells #[.slice pa pl pc, .slice qa ql qc] 30))) := (Below.refl _ _).alloc (Nat.le_refl _) _; clear hd4 hb4)
      | (go_at_call 26; refine (HRM.out _ (S4.out.call A4.out) _ (rows_two (Blk.new rfl) (S4.out.p.call A4.out) (S4.out.q.call A4.out))).mono ?_; rintro e w5 ⟨v5, rfl, hd5, hb5⟩; have HD5 := Lib.hid hd5; have HD4 := Lib.hid ((HD4.out.call A4.out).call hb5); have S5 := Lib.hid ((S4.out.call A4.out).call hb5); have HT := Lib.hid S5.out.a.t; clear hd5 hb5)
      | (go_at_call_of 11 v4; refine (HSD.out _ _ _ _ HD4.out HD5.out HR1L.out).mono ?_; rintro e w7 ⟨rfl, hb7⟩; have S7 := Lib.hid (S6.out.call hb7); have HD7 := Lib.hid (HD6.out.call hb7); have HC7 := Lib.hid (S7.out.a.t.cell 0); clear hb7)
      | ((with_reducible refine at_load (.tmp 69) ?_); refine wpList_load_1 23 (.tmp 69) rfl bt 0 (.slice va m vc) HC7.out rfl _ Try.underlying23 rfl rfl ?_)
      | ((with_reducible refine at_makeEl (.tmp 71) ?_); refine wpList_make_elsW rfl (.tmp 71) 30 74 rfl zeDl.cells 16 Try.underlying30 info_delta .i64 m rfl (by omega) (by omega) ?_; intro w8 hg8 hs8 hr8; rw [← HZM.out] at hr8; have hb8 : Below w7.heap.size w7 w8 := ⟨hg8.os, hg8.tape, hg8.output, hg8.size, fun j hj => hg8.block j hj (by simp)⟩; have HD8 := Lib.hid (rowB_deltas hr8 HZO.out (by rw [HZL.out]; unfold maxLen; omega) m); rw [HZL.out] at HD8; have HD7 := Lib.hid (HD7.out.call hb8); have S8 := Lib.hid (S7.out.call hb8); clear hg8 hs8 hr8 hb8)
      | (go_at_call_of 11 v6; refine (HSD.out _ _ _ _ HD7.out HD8.out (by rw [HZL.out]; omega)).mono ?_; rintro e w9 ⟨rfl, hb9⟩; have S9 := Lib.hid (S8.out.call hb9); clear hb9)
      | (go_at_call 14; refine (HAW.out _).mono ?_; rintro e w10 ⟨rfl, hb10⟩; have S10 := Lib.hid (S9.out.call hb10); clear hb10))
    go_ret
    exact ⟨rfl, S10.out.a.b⟩
end

end Go.Proofs.Ytdlbobpglgjhiaa
