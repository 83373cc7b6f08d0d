/- Several texts as one: L11i. -/
import Derived.Test.YtgdlkkeiijhecaaZ1
import Derived.Test.YtgdlkkeiijhecaaZ0
namespace Go.Proofs.Ytgdlkkeiijhecaa

/-! L11i -/
section
set_option linter.unusedVariables false
set_option linter.unusedSimpArgs false
open Go.RowKit

set_option maxRecDepth 100000

/-- The block's variable and the tree's. -/
structure LiS (w : World) (bt : Nat) (s : Value) (ns : List NdD) (x : BkD) (u : World) : Prop where
  x : Blk u w.heap.size (flatP x.parts)
  v : TvS w bt s ns u
  lt : w.heap.size < bt

theorem LiS.call {w u u' : World} {bt : Nat} {s : Value} {ns : List NdD} {x : BkD} (h : LiS w bt s ns x u) (hb : Below u.heap.size u u') : LiS w bt s ns x u' := ⟨h.x.call hb, h.v.call hb, h.lt⟩

def LiR (w : World) (bt : Nat) (s : Value) (ns : List NdD) (u : World) : Prop := ∃ x : BkD, x.ok ∧ LiS w bt s ns x u

theorem wp_store_partL {P : Program} {op : Oper} {a : Act} {w : World} {K : Act → World → Prop} {Q : Exit → Act → World → Prop} (ty : TypeId) (x y : Operand) (ho : op.op = .store ty x y)
    (b : Nat) (ps : List (List Value)) (k : Nat) (p q : List Value) (hB : Blk w b (flatP ps)) (hk : ps[k]? = some p) (hx : a.eval x = .pointer (some ⟨b, offP ps k, none⟩)) (hy : a.eval y = .agg q.toArray)
    (hq : q.length = p.length) (hi : (P.info? ty).map (·.size) = some q.length) (h1 : ∀ v ∈ q, v.oneCell' = true)
    (h : ∀ w', Upd b w w' → Blk w' b (flatP (ps.set k q)) → K (a.put op.dst undef) w') : op.wp P a w K Q := by
  have hth : w.there b (offP ps k) q.toArray.size := by rw [List.size_toArray, hq]; exact hB.partThere hk
  refine wp_store_mid ty x y ho b (offP ps k) q.toArray hx hy hth (by simpa using hi) (all_oneCell_toArray h1) ?_
  obtain ⟨u, v⟩ := hB.setPart hk hq
  exact h _ u v

theorem off4 {x : BkD} (h : x.ok) : offP x.parts 4 = 99 := by
  obtain ⟨h1, h2, _, h3, _⟩ := h
  simp [offP, BkD.parts, CpD.len h1, CpD.len h2, bytesL_len h3]

set_option maxHeartbeats 16000000 in
theorem walk_BlocktreeInserts (a0 : Option Addr) (len0 cap0 : Nat) (z0 : List Int) (a1 : BkD) (a2 a3 : Int) (w : World) (w0 : IsRow .i64 w a0 len0 cap0 z0) (w1 : a1.ok) (w2 : (Lit.int .i64 a2).wf = true) (w3 : (Lit.int .i64 a3).wf = true) :
    Calls Try.prog 5 #[.slice a0 len0 cap0, .agg (flatP a1.parts), .int .i64 a2, .int .i64 a3] w fun e w' => e = .returned (.bool true) ∧ Below w.heap.size w w' := by
  have HTR := Lib.hid (fun u (hu : Below w.heap.size w u) => tree_any (.slice a0 len0 cap0) _ u ((rowInts w0).below hu))
  have h3 := wf_i64 w3
  have H3 := Lib.hid h3
  have HOK1 := Lib.hid w1
  have HAW := Lib.hid awake11_any
  obtain ⟨K, hK16, hK⟩ := i64_and16_nat a2
  obtain ⟨Q, hQ3, hQ⟩ := i64_and3_nat (K : Int)
  have hi1 : (Try.prog.info? 24).map (·.size) = some 1 := by kernel_rfl
  obtain ⟨hz1, hst1⟩ := zero_array (P := Try.prog) (t := 24) (n := 1) #[.slice none 0 0] (by kernel_rfl) rfl (by kernel_rfl)
  have HX0 : Hid (Blk (w.alloc (.cells (flatP a1.parts) 42)) w.heap.size (flatP a1.parts)) := Blk.new rfl
  have HB0 := Lib.hid ((Below.refl w.heap.size w).alloc (Nat.le_refl _) (.cells (flatP a1.parts) 42))
  obtain ⟨X, hX⟩ : ∃ X, flatP a1.parts = X := ⟨_, rfl⟩
  have HXE := Lib.hid hX
  rw [hX] at HX0 HB0 ⊢
  clear w0 w1 w2 w3 hst1 hX
  go_enter Try.func5, Try.ntmps5
  go_upto_if 21 with (first
    | (go_at_call 12; refine (HTR.out _ HB0.out).mono ?_; rintro e w1 ⟨v1, ns, rfl, hn1, hc1, hok, hl9, hb1⟩; obtain ⟨va, vc, rfl, _⟩ := hn1.shape; have HN1 := Lib.hid hn1; have HOK := Lib.hid hok; have HL9 := Lib.hid hl9; have HX1 := Lib.hid (HX0.out.call hb1); have HB1 := Lib.hid (HB0.out.trans (hb1.mono HB0.out.size)); clear hn1 hc1 hok hl9 hb1)
    | ((with_reducible refine at_store (.tmp 9) ?_); refine wpList_store_blk rfl 24 (.tmp 9) _ rfl w1.heap.size #[.slice va ns.length vc] rfl rfl #[.slice none 0 0] (Blk.new rfl) rfl hi1 (by simp [Value.oneCell']) ?_; intro w2 U2 B2; have hb2 := U2.below ((Below.refl w1.heap.size w1).alloc (Nat.le_refl _) (.cells #[.slice none 0 0] 24)) (Nat.le_refl _); have S2 : Hid (LiS w w1.heap.size (.slice va ns.length vc) ns a1 w2) := ⟨by rw [HXE.out]; exact HX1.out.call hb2, ⟨B2, HN1.out.call hb2, HB1.out.trans (hb2.mono HB1.out.size)⟩, HX1.out.lt⟩; clear U2 B2 hb2))
  obtain ⟨m, hm⟩ : ∃ m, Hid (ns.length = m) := ⟨_, Lib.hid rfl⟩
  obtain ⟨bt, hbt⟩ : ∃ x, w1.heap.size = x := ⟨_, rfl⟩
  rw [hm.out] at S2 HL9 ⊢
  rw [hbt] at S2 ⊢
  have HMP : Hid (0 < m) := by show 0 < m; rw [← hm.out]; exact HOK.out.pos
  clear hbt HN1 HX1 HB1
  (try simp only [Act.put])
  go_cut [] from 22 to 35 (fun wx => LiR w bt (.slice va m vc) ns wx)
  case first =>
    by_cases hq0 : Q = 0
    · subst hq0
      have hq0' : ((0 : Int) < ((0 : Nat) : Int)) = False := by simp
      go_wp2_with fail
      go_meet
      case rel => exact ⟨a1, HOK1.out, S2.out⟩
    · have hq0' : (0 : Int) < (Q : Int) := by omega
      clear hq0
      obtain ⟨j, hj⟩ : ∃ j, K / 4 % m = j := ⟨_, rfl⟩
      have hjm : j < m := by rw [← hj]; exact Nat.mod_lt _ HMP.out
      have hjm' : (j : Int) < (m : Int) := by omega
      have hm0 : ((m : Int) == 0) = false := by have := HMP.out; simp; omega
      have hm0' : ¬ (m : Int) = 0 := by have := HMP.out; omega
      have hm0n : ¬ m = 0 := by have := HMP.out; omega
      have hrem : Int.tmod ((K : Int) / 4) (m : Int) = (j : Int) := by
        rw [show (K : Int) / 4 = ((K / 4 : Nat) : Int) by omega, Int.tmod_eq_emod_of_nonneg (by omega), ← hj]
        rfl
      have hjn : j < ns.length := by rw [hm.out]; exact hjm
      have HNE := Lib.hid (S2.out.v.n.elem hjn)
      obtain ⟨b, off, rfl, hlm, hbb, hna, hok⟩ := HNE.out
      have HRT := Lib.hid hna.bk.root
      have HRO := Lib.hid hok.1.2.2.2.1
      have hiR : (Try.prog.info? 34).map (·.size) = some (bytesL ns[j].b.root).length := by rw [bytesL_len hok.1.2.2.2.1]; kernel_rfl
      have HIR := Lib.hid hiR
      obtain ⟨rr, hrr⟩ : ∃ r, ns[j].b.root = r := ⟨_, rfl⟩
      have HRR := Lib.hid hrr
      rw [hrr] at HRT HRO hiR HIR
      obtain ⟨R, hR⟩ : ∃ R, bytesL rr = R := ⟨_, rfl⟩
      have HRE := Lib.hid hR
      rw [hR] at HRT hiR
      have HOKP : Hid (({a1 with parent := rr} : BkD).ok) := by obtain ⟨o1, o2, o3, o4, _, o6⟩ := HOK1.out; exact ⟨o1, o2, o3, o4, HRO.out, o6⟩
      have HCEL : Hid (∀ u, LiR w bt (.slice (some ⟨b, off, none⟩) m vc) ns u → u.cell? ⟨bt, 0, none⟩ = some (.slice (some ⟨b, off, none⟩) m vc)) := fun u ⟨x, _, h⟩ => h.v.t.cell 0
      have HRNG : Hid (∀ u, LiR w bt (.slice (some ⟨b, off, none⟩) m vc) ns u → u.rangeAt b (off + j * 240 + 67) R) := fun u ⟨x, _, h⟩ => by
        obtain ⟨b2, off2, e2, _, _, hna2, _⟩ := h.v.n.elem hjn
        cases e2
        rw [← HRE.out, ← HRR.out]
        exact hna2.bk.root
      clear hlm hna hok hrr hR hj HNE
      go_upto_region 4 with fail
      have HSx0 : Hid (LiR w bt (.slice (some ⟨b, off, none⟩) m vc) ns w2.drew) := ⟨a1, HOK1.out, S2.out.call (Below.drewN (n := 1) (Below.refl _ _))⟩
      have S3 := Lib.hid (S2.out.call (Below.drewN (n := 1) (Below.refl _ _)) : LiS w bt (.slice (some ⟨b, off, none⟩) m vc) ns a1 w2.drew)
      refine wp_region_held_drew (S := fun u => LiR w bt (.slice (some ⟨b, off, none⟩) m vc) ns u) (by kernel_rfl) (HSx0.out) (fun _ => ?_)
      (try simp only [Act.put, List.setIfInBounds_toArray, List.set_cons_zero, List.set_cons_succ])
      obtain ⟨x0, hx0⟩ : ∃ x, w2.drew = x := ⟨_, rfl⟩
      rw [hx0] at HSx0 S3 ⊢
      clear hx0
      refine wpAnyH_take (i := 0) (oi := ⟨some 22, _, _, _, _, _⟩) (v := .pointer (some ⟨bt, 0, none⟩)) rfl (by kernel_rfl) (by kernel_rfl) (by kernel_rfl) (fun _ _ _ h => h) (Or.inl ⟨by rfl, fun wz hz => ?_⟩) HSx0.out ?_
      · clear hz; go_simp; first | done | with_reducible rfl | rfl
      (try simp only [Act.put, List.setIfInBounds_toArray, List.set_cons_zero, List.set_cons_succ])
      refine held_load1 (oi := ⟨some 23, _, _, _, _, _⟩) 1 rfl (by kernel_rfl) (by kernel_rfl) (by kernel_rfl) (fun _ _ _ _ h => h) rfl 22 (.tmp 22) rfl bt (0) rfl (.slice (some ⟨b, off, none⟩) m vc) _ (fun u' hu => HCEL.out u' hu) Try.underlying22 rfl HSx0.out ?_
      (try simp only [Act.put, List.setIfInBounds_toArray, List.set_cons_zero, List.set_cons_succ])
      refine wpAnyH_take (i := 2) (oi := ⟨some 24, _, _, _, _, _⟩) (v := .int .i64 (K : Int)) rfl (by kernel_rfl) (by kernel_rfl) (by kernel_rfl) (fun _ _ _ h => h) (Or.inl ⟨by rfl, fun wz hz => ?_⟩) HSx0.out ?_
      · clear hz; go_simp; first | done | with_reducible rfl | rfl
      (try simp only [Act.put, List.setIfInBounds_toArray, List.set_cons_zero, List.set_cons_succ])
      refine wpAnyH_take (i := 3) (oi := ⟨some 25, _, _, _, _, _⟩) (v := .int .i64 ((K : Int) / 4)) rfl (by kernel_rfl) (by kernel_rfl) (by kernel_rfl) (fun _ _ _ h => h) (Or.inl ⟨by rfl, fun wz hz => ?_⟩) HSx0.out ?_
      · clear hz; go_simp; first | done | with_reducible rfl | rfl
      (try simp only [Act.put, List.setIfInBounds_toArray, List.set_cons_zero, List.set_cons_succ])
      refine wpAnyH_take (i := 4) (oi := ⟨some 26, _, _, _, _, _⟩) (v := .pointer (some ⟨bt, 0, none⟩)) rfl (by kernel_rfl) (by kernel_rfl) (by kernel_rfl) (fun _ _ _ h => h) (Or.inl ⟨by rfl, fun wz hz => ?_⟩) HSx0.out ?_
      · clear hz; go_simp; first | done | with_reducible rfl | rfl
      (try simp only [Act.put, List.setIfInBounds_toArray, List.set_cons_zero, List.set_cons_succ])
      refine held_load1 (oi := ⟨some 27, _, _, _, _, _⟩) 5 rfl (by kernel_rfl) (by kernel_rfl) (by kernel_rfl) (fun _ _ _ _ h => h) rfl 22 (.tmp 26) rfl bt (0) rfl (.slice (some ⟨b, off, none⟩) m vc) _ (fun u' hu => HCEL.out u' hu) Try.underlying22 rfl HSx0.out ?_
      (try simp only [Act.put, List.setIfInBounds_toArray, List.set_cons_zero, List.set_cons_succ])
      refine wpAnyH_take (i := 6) (oi := ⟨some 28, _, _, _, _, _⟩) (v := .int .i64 (m : Int)) rfl (by kernel_rfl) (by kernel_rfl) (by kernel_rfl) (fun _ _ _ h => h) (Or.inl ⟨by rfl, fun wz hz => ?_⟩) HSx0.out ?_
      · clear hz; go_simp; first | done | with_reducible rfl | rfl
      (try simp only [Act.put, List.setIfInBounds_toArray, List.set_cons_zero, List.set_cons_succ])
      refine wpAnyH_take (i := 7) (oi := ⟨some 29, _, _, _, _, _⟩) (v := .int .i64 (j : Int)) rfl (by kernel_rfl) (by kernel_rfl) (by kernel_rfl) (fun _ _ _ h => h) (Or.inl ⟨by rfl, fun wz hz => ?_⟩) HSx0.out ?_
      · clear hz; go_simp; first | done | with_reducible rfl | rfl
      (try simp only [Act.put, List.setIfInBounds_toArray, List.set_cons_zero, List.set_cons_succ])
      refine wpAnyH_take (i := 8) (oi := ⟨some 30, _, _, _, _, _⟩) (v := .pointer (some ⟨b, off + j * 240, none⟩)) rfl (by kernel_rfl) (by kernel_rfl) (by kernel_rfl) (fun _ _ _ h => h) (Or.inl ⟨by rfl, fun wz hz => ?_⟩) HSx0.out ?_
      · clear hz; go_simp; first | done | with_reducible rfl | rfl
      (try simp only [Act.put, List.setIfInBounds_toArray, List.set_cons_zero, List.set_cons_succ])
      refine wpAnyH_take (i := 9) (oi := ⟨some 31, _, _, _, _, _⟩) (v := .pointer (some ⟨b, off + j * 240, none⟩)) rfl (by kernel_rfl) (by kernel_rfl) (by kernel_rfl) (fun _ _ _ h => h) (Or.inl ⟨by rfl, fun wz hz => ?_⟩) HSx0.out ?_
      · clear hz; go_simp; first | done | with_reducible rfl | rfl
      (try simp only [Act.put, List.setIfInBounds_toArray, List.set_cons_zero, List.set_cons_succ])
      refine wpAnyH_take (i := 10) (oi := ⟨some 32, _, _, _, _, _⟩) (v := .pointer (some ⟨b, off + j * 240 + 67, none⟩)) rfl (by kernel_rfl) (by kernel_rfl) (by kernel_rfl) (fun _ _ _ h => h) (Or.inl ⟨by rfl, fun wz hz => ?_⟩) HSx0.out ?_
      · clear hz; go_simp; first | done | with_reducible rfl | rfl
      (try simp only [Act.put, List.setIfInBounds_toArray, List.set_cons_zero, List.set_cons_succ])
      refine held_load (oi := ⟨some 33, _, _, _, _, _⟩) 11 rfl (by kernel_rfl) (by kernel_rfl) (by kernel_rfl) (fun _ _ _ _ h => h) rfl 34 (.tmp 32) rfl b (off + j * 240 + 67) rfl R _ (fun u' hu => HRNG.out u' hu) Try.underlying34 rfl (hiR) HSx0.out ?_
      (try simp only [Act.put, List.setIfInBounds_toArray, List.set_cons_zero, List.set_cons_succ])
      refine wpAnyH_take (i := 12) (oi := ⟨some 34, _, _, _, _, _⟩) (v := .pointer (some ⟨w.heap.size, 99, none⟩)) rfl (by kernel_rfl) (by kernel_rfl) (by kernel_rfl) (fun _ _ _ h => h) (Or.inl ⟨by rfl, fun wz hz => ?_⟩) HSx0.out ?_
      · clear hz; go_simp; first | done | with_reducible rfl | rfl
      (try simp only [Act.put, List.setIfInBounds_toArray, List.set_cons_zero, List.set_cons_succ])
      refine wpAnyH_ready (rs := [13]) (by kernel_rfl) (by simp) ?_
      refine AllReadyH.cons (o := ⟨none, _, _, _, _, _⟩) rfl (fun K hK => ?_) AllReadyH.nil
      refine wp_store_partL 34 (.tmp 34) _ rfl w.heap.size a1.parts 4 (bytesL a1.parent) R S3.out.x rfl (by rw [off4 HOK1.out]; rfl) rfl (by rw [← HRE.out, bytesL_len HRO.out, bytesL_len HOK1.out.2.2.2.2.1]) hiR (by rw [← HRE.out]; exact bytesL_one _) ?_
      intro w9 U9 B9
      have S9 : Hid (LiR w bt (.slice (some ⟨b, off, none⟩) m vc) ns w9) := ⟨{a1 with parent := rr}, HOKP.out, ⟨by rw [← HRE.out] at B9; exact B9, ⟨U9.blk S3.out.v.t (by have := S3.out.lt; omega), S3.out.v.n.grownOff (upd_grown U9) (S3.out.v.n.offBlk S3.out.x (by rw [flatP_size, BkD.flen HOK1.out]; omega)), U9.below S3.out.v.b (Nat.le_refl _)⟩, S3.out.lt⟩⟩
      clear U9 B9
      refine hK.out _ _ (S9.out) (fun _ => ?_)
      clear hK K
      (try simp only [Act.put, List.setIfInBounds_toArray, List.set_cons_zero, List.set_cons_succ])
      refine wpAnyH_done (by kernel_rfl) ?_ _
      go_wp2_with fail
      go_meet
      case rel => exact S9.out
  case rest =>
    obtain ⟨x, hxo, hs⟩ := hcut
    have HOX := Lib.hid hxo
    have S4 := Lib.hid hs
    obtain ⟨w4, hw4⟩ : ∃ z, wc = z := ⟨_, rfl⟩
    rw [hw4] at S4 ⊢
    clear hxo hs hw4 S2
    have hIC := (fun u (hu : LiS w bt (.slice va m vc) ns x u) => cinsn_any (.slice va m vc) ns x a3 u hu.v.n HOX.out (by have := H3.out; omega))
    have hIR := (fun u (hu : LiS w bt (.slice va m vc) ns x u) => insn_any (.slice va m vc) ns x a3 u hu.v.n HOX.out (by have := H3.out; omega))
    have hsX : (flatP x.parts).size = 238 := by rw [flatP_size, BkD.flen HOX.out]
    have hiX : (Try.prog.info? 42).map (·.size) = some (flatP x.parts).size := by rw [hsX]; kernel_rfl
    obtain ⟨res, hres⟩ : ∃ z, insT ns x a3 = z := ⟨_, rfl⟩
    have HVAL : Hid (res.2 = 0 → vtE res.1 = 0) := fun h => by rw [← hres] at h ⊢; have := HOK.out.val.add h; exact vtE_val this.1 this.2
    unfold InsTE at hIC hIR
    rw [hres] at hIC hIR
    obtain ⟨rs, er⟩ := res
    simp only at hIC hIR HVAL
    obtain ⟨XP, hXP⟩ : ∃ z, flatP x.parts = z := ⟨_, rfl⟩
    have HXP := Lib.hid hXP
    rw [hXP] at hIC hIR hiX
    have HSAME := Lib.hid (fun v1 v2 u (h1 : NodesV u v1 rs) (h2 : NodesV u v2 rs) => stree_yes v1 v2 rs u h1 h2)
    have HVT := Lib.hid (fun v u (h : NodesV u v rs) => cvtree_any v rs u h)
    clear hres hXP hsX
    by_cases he : er = 0
    · subst he
      have HVZ : Hid (vtE rs = 0) := HVAL rfl
      rw [HVZ.out] at HVT
      have HIC := Lib.hid hIC
      have HIR := Lib.hid hIR
      clear hIC hIR HVAL
      have e1 : ((0 : Int) == 0) = true := by simp
      have e2 : ((0 : Int) != 0) = false := by simp
      go_wp2_with (first
      | ((with_reducible refine at_load (.tmp 9) ?_); refine wpList_load_g 24 (.tmp 9) rfl bt rfl #[.slice va m vc] _ S6.out.v.t Try.underlying24 rfl hi1 rfl ?_)
      | ((with_reducible refine at_load (.tmp 9) ?_); refine wpList_load_g 24 (.tmp 9) rfl bt rfl #[.slice va m vc] _ S4.out.v.t Try.underlying24 rfl hi1 rfl ?_)
      | ((with_reducible refine at_load (.tmp 5) ?_); refine wpList_load_g 42 (.tmp 5) rfl w.heap.size rfl XP _ (by rw [← HXP.out]; exact S6.out.x) Try.underlying42 rfl hiX rfl ?_)
      | ((with_reducible refine at_load (.tmp 5) ?_); refine wpList_load_g 42 (.tmp 5) rfl w.heap.size rfl XP _ (by rw [← HXP.out]; exact S4.out.x) Try.underlying42 rfl hiX rfl ?_)
      | (go_at_call 14; refine (HIC.out _ S4.out).mono ?_; rintro e w5 ⟨v5, rfl, hn5, hw5, hc5, hb5⟩; obtain ⟨a5, c5, rfl, _⟩ := hn5.shape; have HN5 := Lib.hid hn5; have S5 := Lib.hid (S4.out.call hb5); clear hn5 hw5 hc5 hb5)
      | ((with_reducible refine at_store (.tmp 11) ?_); refine wpList_store_blk rfl 24 (.tmp 11) _ rfl w5.heap.size #[.slice a5 rs.length c5] rfl rfl #[.slice none 0 0] (Blk.new rfl) rfl hi1 (by simp [Value.oneCell']) ?_; intro w6 U6 B6; have hb6 := U6.below ((Below.refl w5.heap.size w5).alloc (Nat.le_refl _) (.cells #[.slice none 0 0] 24)) (Nat.le_refl _); have S6 := Lib.hid (S5.out.call hb6); have HN6 := Lib.hid (HN5.out.call hb6); have HB6 := Lib.hid B6; clear U6 B6 hb6)
      | (go_at_call 15; refine (HIR.out _ S6.out).mono ?_; rintro e w7 ⟨v7, rfl, hn7, hw7, hc7, hb7⟩; obtain ⟨a7, c7, rfl, _⟩ := hn7.shape; have HN7 := Lib.hid hn7; have S7 := Lib.hid (S6.out.call hb7); have HM7 := Lib.hid (HN6.out.call hb7); have HB7 := Lib.hid (HB6.out.call hb7); clear hn7 hw7 hc7 hb7)
      | ((with_reducible refine at_store (.tmp 13) ?_); refine wpList_store_blk rfl 24 (.tmp 13) _ rfl w7.heap.size #[.slice a7 rs.length c7] rfl rfl #[.slice none 0 0] (Blk.new rfl) rfl hi1 (by simp [Value.oneCell']) ?_; intro w8 U8 B8; have hb8 := U8.below ((Below.refl w7.heap.size w7).alloc (Nat.le_refl _) (.cells #[.slice none 0 0] 24)) (Nat.le_refl _); have HL8 := Lib.hid (S7.out.v.b.trans (hb8.mono S7.out.v.b.size)); have HN8 := Lib.hid (HN7.out.call hb8); have HM8 := Lib.hid (HM7.out.call hb8); have HB8 := Lib.hid (HB7.out.call hb8); have HK8 := Lib.hid B8; clear U8 B8 hb8)
      | ((with_reducible refine at_load (.tmp 11) ?_); refine wpList_load_g 24 (.tmp 11) rfl w5.heap.size rfl #[.slice a5 rs.length c5] _ HB9.out Try.underlying24 rfl hi1 rfl ?_)
      | ((with_reducible refine at_load (.tmp 11) ?_); refine wpList_load_g 24 (.tmp 11) rfl w5.heap.size rfl #[.slice a5 rs.length c5] _ HB8.out Try.underlying24 rfl hi1 rfl ?_)
      | ((with_reducible refine at_load (.tmp 13) ?_); refine wpList_load_g 24 (.tmp 13) rfl w7.heap.size rfl #[.slice a7 rs.length c7] _ HK8.out Try.underlying24 rfl hi1 rfl ?_)
      | (go_at_call 16; refine (HSAME.out _ _ _ HM8.out HN8.out).mono ?_; rintro e w9 ⟨rfl, hb9⟩; have HL9' := Lib.hid (HL8.out.trans (hb9.mono HL8.out.size)); have HM9 := Lib.hid (HM8.out.call hb9); have HB9 := Lib.hid (HB8.out.call hb9); clear hb9)
      | (go_at_call 10; refine (HVT.out _ _ HM9.out).mono ?_; rintro e w10 ⟨rfl, hb10⟩; have HL10 := Lib.hid (HL9'.out.trans (hb10.mono HL9'.out.size)); clear hb10)
      | (go_at_call 9; refine (HAW.out _).mono ?_; rintro e w11 ⟨rfl, hb11⟩; have HL11 := Lib.hid (HL10.out.trans (hb11.mono HL10.out.size)); clear hb11))
      go_ret
      exact ⟨rfl, HL11.out⟩
    · have HIC := Lib.hid hIC
      have HIR := Lib.hid hIR
      have e1 : (er == er) = true := by simp
      have e2 : (er != 0) = true := by simpa using he
      clear hIC hIR HVAL he
      go_wp2_with (first
      | ((with_reducible refine at_load (.tmp 9) ?_); refine wpList_load_g 24 (.tmp 9) rfl bt rfl #[.slice va m vc] _ S6.out.v.t Try.underlying24 rfl hi1 rfl ?_)
      | ((with_reducible refine at_load (.tmp 9) ?_); refine wpList_load_g 24 (.tmp 9) rfl bt rfl #[.slice va m vc] _ S4.out.v.t Try.underlying24 rfl hi1 rfl ?_)
      | ((with_reducible refine at_load (.tmp 5) ?_); refine wpList_load_g 42 (.tmp 5) rfl w.heap.size rfl XP _ (by rw [← HXP.out]; exact S6.out.x) Try.underlying42 rfl hiX rfl ?_)
      | ((with_reducible refine at_load (.tmp 5) ?_); refine wpList_load_g 42 (.tmp 5) rfl w.heap.size rfl XP _ (by rw [← HXP.out]; exact S4.out.x) Try.underlying42 rfl hiX rfl ?_)
      | (go_at_call 14; refine (HIC.out _ S4.out).mono ?_; rintro e w5 ⟨v5, rfl, hn5, hw5, hc5, hb5⟩; obtain ⟨a5, c5, rfl, _⟩ := hn5.shape; have HN5 := Lib.hid hn5; have S5 := Lib.hid (S4.out.call hb5); clear hn5 hw5 hc5 hb5)
      | ((with_reducible refine at_store (.tmp 11) ?_); refine wpList_store_blk rfl 24 (.tmp 11) _ rfl w5.heap.size #[.slice a5 rs.length c5] rfl rfl #[.slice none 0 0] (Blk.new rfl) rfl hi1 (by simp [Value.oneCell']) ?_; intro w6 U6 B6; have hb6 := U6.below ((Below.refl w5.heap.size w5).alloc (Nat.le_refl _) (.cells #[.slice none 0 0] 24)) (Nat.le_refl _); have S6 := Lib.hid (S5.out.call hb6); have HN6 := Lib.hid (HN5.out.call hb6); have HB6 := Lib.hid B6; clear U6 B6 hb6)
      | (go_at_call 15; refine (HIR.out _ S6.out).mono ?_; rintro e w7 ⟨v7, rfl, hn7, hw7, hc7, hb7⟩; obtain ⟨a7, c7, rfl, _⟩ := hn7.shape; have HN7 := Lib.hid hn7; have S7 := Lib.hid (S6.out.call hb7); have HM7 := Lib.hid (HN6.out.call hb7); have HB7 := Lib.hid (HB6.out.call hb7); clear hn7 hw7 hc7 hb7)
      | ((with_reducible refine at_store (.tmp 13) ?_); refine wpList_store_blk rfl 24 (.tmp 13) _ rfl w7.heap.size #[.slice a7 rs.length c7] rfl rfl #[.slice none 0 0] (Blk.new rfl) rfl hi1 (by simp [Value.oneCell']) ?_; intro w8 U8 B8; have hb8 := U8.below ((Below.refl w7.heap.size w7).alloc (Nat.le_refl _) (.cells #[.slice none 0 0] 24)) (Nat.le_refl _); have HL8 := Lib.hid (S7.out.v.b.trans (hb8.mono S7.out.v.b.size)); have HN8 := Lib.hid (HN7.out.call hb8); have HM8 := Lib.hid (HM7.out.call hb8); have HB8 := Lib.hid (HB7.out.call hb8); have HK8 := Lib.hid B8; clear U8 B8 hb8)
      | ((with_reducible refine at_load (.tmp 11) ?_); refine wpList_load_g 24 (.tmp 11) rfl w5.heap.size rfl #[.slice a5 rs.length c5] _ HB8.out Try.underlying24 rfl hi1 rfl ?_)
      | ((with_reducible refine at_load (.tmp 13) ?_); refine wpList_load_g 24 (.tmp 13) rfl w7.heap.size rfl #[.slice a7 rs.length c7] _ HK8.out Try.underlying24 rfl hi1 rfl ?_)
      | (go_at_call 16; refine (HSAME.out _ _ _ HM8.out HN8.out).mono ?_; rintro e w9 ⟨rfl, hb9⟩; have HL9' := Lib.hid (HL8.out.trans (hb9.mono HL8.out.size)); clear hb9)
      | (go_at_call 9; refine (HAW.out _).mono ?_; rintro e w11 ⟨rfl, hb11⟩; have HL11 := Lib.hid (HL9'.out.trans (hb11.mono HL9'.out.size)); clear hb11))
      go_ret
      exact ⟨rfl, HL11.out⟩
end

end Go.Proofs.Ytgdlkkeiijhecaa
