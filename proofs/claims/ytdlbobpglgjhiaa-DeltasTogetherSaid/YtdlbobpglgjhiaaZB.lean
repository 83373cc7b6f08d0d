/- Several texts as one: L14t. -/
import Derived.Test.YtdlbobpglgjhiaaZA
namespace Go.Proofs.Ytdlbobpglgjhiaa

/-! L14t -/
section
set_option linter.unusedVariables false
set_option linter.unusedSimpArgs false
open Go.RowKit

set_option maxRecDepth 100000

def upL (X : List Int) (m k : Nat) : List Int := (List.range m).map fun j => if j < k then X.getD j 0 + 5000 else X.getD j 0

theorem upL_len (X : List Int) (m k : Nat) : (upL X m k).length = m := by simp [upL]

theorem upL_get (X : List Int) {m : Nat} (k : Nat) {j : Nat} (hj : j < m) : (upL X m k).getD j 0 = if j < k then X.getD j 0 + 5000 else X.getD j 0 := by simp [upL, List.getD_eq_getElem?_getD, hj]

theorem upL_first {X : List Int} {m : Nat} (h : X.length = m) : upL X m 0 = X := by
  refine ext_getD (by rw [upL_len, h]) fun j hj => ?_
  rw [upL_len] at hj
  rw [upL_get X 0 hj, if_neg (by omega)]

theorem upL_step (X : List Int) {m k : Nat} (hk : k < m) : (upL X m k).set k (X.getD k 0 + 5000) = upL X m (k + 1) := by
  refine ext_getD (by rw [List.length_set, upL_len, upL_len]) fun j hj => ?_
  rw [List.length_set, upL_len] at hj
  rw [upL_get X (k + 1) hj]
  simp only [List.getD_eq_getElem?_getD, List.getElem?_set, upL_len]
  by_cases e : k = j
  · subst e
    rw [if_pos rfl, if_pos hk, if_pos (by omega)]; rfl
  · rw [if_neg e]
    have := upL_get X k hj
    rw [List.getD_eq_getElem?_getD] at this
    rw [this]
    by_cases h : j < k
    · rw [if_pos h, if_pos (by omega), List.getD_eq_getElem?_getD]
    · rw [if_neg h, if_neg (by omega), List.getD_eq_getElem?_getD]

/-- The tree's variable, two lists of deltas, and the numbers. -/
structure DtS (w : World) (bt : Nat) (s : Value) (ns : List NdD) (p q sv : Value) (A B : List DlD) (X : List Int) (u : World) : Prop where
  d : DdS w bt s ns p q A B u
  s : NumsV u sv X

theorem DtS.call {w u u' : World} {bt : Nat} {s : Value} {ns : List NdD} {p q sv : Value} {A B : List DlD} {X : List Int} (h : DtS w bt s ns p q sv A B X u) (hb : Below u.heap.size u u') : DtS w bt s ns p q sv A B X u' := ⟨h.d.call hb, ⟨h.s.1.below hb, h.s.2⟩⟩

set_option maxHeartbeats 32000000 in
theorem walk_DeltasTogether (a0 : Option Addr) (len0 cap0 : Nat) (z0 : List Int) (a1 : Option Addr) (len1 cap1 : Nat) (z1 : List Int) (a2 : Option Addr) (len2 cap2 : Nat) (z2 : List Int) (a3 : Option Addr) (len3 cap3 : Nat) (z3 : List Int) (w : World) (w0 : IsRow .i64 w a0 len0 cap0 z0) (w1 : IsRow .i64 w a1 len1 cap1 z1) (w2 : IsRow .i64 w a2 len2 cap2 z2) (w3 : IsRow .i64 w a3 len3 cap3 z3) :
    Calls Try.prog 8 #[.slice a0 len0 cap0, .slice a1 len1 cap1, .slice a2 len2 cap2, .slice a3 len3 cap3] w fun e w' => e = .returned (.bool true) ∧ Below w.heap.size w w' := by
  have HTR := Lib.hid (fun u (hu : Below w.heap.size w u) => tree_any (.slice a0 len0 cap0) _ u ((rowInts w0).below hu))
  have HI1 := Lib.hid (fun u (hu : Below w.heap.size w u) => (rowInts w1).below hu)
  obtain ⟨l1, hl1⟩ : ∃ l, z1.take len1 = l := ⟨_, rfl⟩
  rw [hl1] at HI1
  have HI2 := Lib.hid (fun u (hu : Below w.heap.size w u) => (rowInts w2).below hu)
  obtain ⟨l2, hl2⟩ : ∃ l, z2.take len2 = l := ⟨_, rfl⟩
  rw [hl2] at HI2
  have HI3 := Lib.hid (fun u (hu : Below w.heap.size w u) => (rowInts w3).below hu)
  obtain ⟨l3, hl3⟩ : ∃ l, z3.take len3 = l := ⟨_, rfl⟩
  rw [hl3] at HI3
  have HAW := Lib.hid awake14_any
  have hi1 : (Try.prog.info? 25).map (·.size) = some 1 := by kernel_rfl
  obtain ⟨hz1, hst1⟩ := zero_array (P := Try.prog) (t := 25) (n := 1) #[.slice none 0 0] (by kernel_rfl) rfl (by kernel_rfl)
  clear hst1 w0 w1 w2 w3
  clear hl1
  clear hl2
  clear hl3
  go_enter Try.func8, Try.ntmps8
  go_upto_region 2 with (first
    | (go_at_call 9; refine (HTR.out _ (Below.refl _ _)).mono ?_; rintro e w1 ⟨v1, ns, rfl, hn1, hc1, hok, hl9, hb1⟩; obtain ⟨va, vc, rfl, _⟩ := hn1.shape; have HN1 := Lib.hid hn1; have HOK := Lib.hid hok; have HL9 := Lib.hid hl9; have HB1 := Lib.hid hb1; clear hn1 hc1 hok hl9 hb1)
    | ((with_reducible refine at_store (.tmp 9) ?_); refine wpList_store_blk rfl 25 (.tmp 9) _ rfl w1.heap.size #[.slice va ns.length vc] rfl rfl #[.slice none 0 0] (Blk.new rfl) rfl hi1 (by simp [Value.oneCell']) ?_; intro w2 U2 B2; have hb2 := U2.below ((Below.refl w1.heap.size w1).alloc (Nat.le_refl _) (.cells #[.slice none 0 0] 25)) (Nat.le_refl _); have S2 : Hid (AnS w w1.heap.size (.slice va ns.length vc) ns w2) := ⟨B2, HN1.out.call hb2, HB1.out.trans (hb2.mono HB1.out.size)⟩; clear U2 B2 hb2))
  obtain ⟨bt, hbt⟩ : ∃ x, w1.heap.size = x := ⟨_, rfl⟩
  rw [hbt] at S2 ⊢
  have hnl : ns.length ≤ 100000 := by have := HL9.out; omega
  have HNL := Lib.hid hnl
  have HPOS : Hid (0 < ns.length) := HOK.out.pos
  obtain ⟨m, hm⟩ : ∃ m, Hid (ns.length = m) := ⟨_, Lib.hid rfl⟩
  rw [hm.out] at S2 ⊢
  have hm9 : m ≤ 9 := by have := HL9.out; have := hm.out; omega
  have hm1 : 0 < m := by have := HPOS.out; have := hm.out; omega
  clear hbt HN1 HB1 hnl HTR
  (try simp only [Act.put])
  have HLA : Hid (∀ u, AnS w bt (.slice va m vc) ns u → Calls Try.prog 15 #[.slice a2 len2 cap2, .int .i64 (m : Int), .bool false] u fun e w' => ∃ v', e = .returned v' ∧ DeltasV w' v' (lsL l2 false m) ∧ Below u.heap.size u w') := fun u hu => by
    refine (lst14_any (.slice a2 len2 cap2) l2 m false u (HI2.out u hu.b) (by omega)).mono ?_
    rintro e w' ⟨v', rfl, ho, hb⟩
    exact ⟨v', rfl, ho.elV dlOK, hb⟩
  have HLB : Hid (∀ u, AnS w bt (.slice va m vc) ns u → Calls Try.prog 15 #[.slice a3 len3 cap3, .int .i64 (m : Int), .bool false] u fun e w' => ∃ v', e = .returned v' ∧ DeltasV w' v' (lsL l3 false m) ∧ Below u.heap.size u w') := fun u hu => by
    refine (lst14_any (.slice a3 len3 cap3) l3 m false u (HI3.out u hu.b) (by omega)).mono ?_
    rintro e w' ⟨v', rfl, ho, hb⟩
    exact ⟨v', rfl, ho.elV dlOK, hb⟩
  have HAL : Hid ((lsL l2 false m).length = m) := lsL_len _ _ _
  have HBL : Hid ((lsL l3 false m).length = m) := lsL_len _ _ _
  have HAT : Hid (Tame (lsL l2 false m)) := tame_lsL _ _
  have HBT : Hid (Tame (lsL l3 false m)) := tame_lsL _ _
  obtain ⟨A, hA⟩ : ∃ x, lsL l2 false m = x := ⟨_, rfl⟩
  obtain ⟨B, hB⟩ : ∃ x, lsL l3 false m = x := ⟨_, rfl⟩
  rw [hA] at HLA HAL HAT
  rw [hB] at HLB HBL HBT
  clear hA hB HI2 HI3
  go_cut [10, 11] from 24 to 33 (fun pv qv wx => ∃ p q, pv = p ∧ qv = q ∧ DdS w bt (.slice va m vc) ns p q A B wx)
  case first =>
    have HSx0 : Hid ((fun u => AnS w bt (.slice va m vc) ns u) w2.drew) := S2.out.call (Below.drewN (n := 1) (Below.refl _ _) : Below w2.heap.size w2 w2.drew)
    refine wp_region_held_drew (S := fun u => AnS w bt (.slice va m vc) ns u) (by kernel_rfl) (HSx0.out) (fun _ => ?_)
    (try simp only [Act.put, List.setIfInBounds_toArray, List.set_cons_zero, List.set_cons_succ])
    obtain ⟨x0, hx0⟩ : ∃ x, w2.drew = x := ⟨_, rfl⟩
    rw [hx0] at HSx0 ⊢
    clear hx0
    refine wpAnyH_take (i := 0) (oi := ⟨some 24, _, _, _, _, _⟩) (v := .slice a2 len2 cap2) rfl (by kernel_rfl) (by kernel_rfl) (by kernel_rfl) (fun _ _ _ h => h) (Or.inl ⟨by rfl, fun wz hz => ?_⟩) HSx0.out ?_
    · clear hz; go_simp; first | done | with_reducible rfl | rfl
    (try simp only [Act.put, List.setIfInBounds_toArray, List.set_cons_zero, List.set_cons_succ])
    refine wpAnyH_take (i := 1) (oi := ⟨some 25, _, _, _, _, _⟩) (v := .pointer (some ⟨bt, 0, none⟩)) rfl (by kernel_rfl) (by kernel_rfl) (by kernel_rfl) (fun _ _ _ h => h) (Or.inl ⟨by rfl, fun wz hz => ?_⟩) HSx0.out ?_
    · clear hz; go_simp; first | done | with_reducible rfl | rfl
    (try simp only [Act.put, List.setIfInBounds_toArray, List.set_cons_zero, List.set_cons_succ])
    refine held_load1 (oi := ⟨some 26, _, _, _, _, _⟩) 2 rfl (by kernel_rfl) (by kernel_rfl) (by kernel_rfl) (fun _ _ _ _ h => h) rfl 23 (.tmp 25) rfl bt (0) rfl (.slice va m vc) _ (fun u' hu => hu.t.cell 0) Try.underlying23 rfl HSx0.out ?_
    (try simp only [Act.put, List.setIfInBounds_toArray, List.set_cons_zero, List.set_cons_succ])
    refine wpAnyH_take (i := 3) (oi := ⟨some 27, _, _, _, _, _⟩) (v := .int .i64 m) rfl (by kernel_rfl) (by kernel_rfl) (by kernel_rfl) (fun _ _ _ h => h) (Or.inl ⟨by rfl, fun wz hz => ?_⟩) HSx0.out ?_
    · clear hz; go_simp; first | done | with_reducible rfl | rfl
    (try simp only [Act.put, List.setIfInBounds_toArray, List.set_cons_zero, List.set_cons_succ])
    refine wpAnyH_take (i := 5) (oi := ⟨some 29, _, _, _, _, _⟩) (v := .slice a3 len3 cap3) rfl (by kernel_rfl) (by kernel_rfl) (by kernel_rfl) (fun _ _ _ h => h) (Or.inl ⟨by rfl, fun wz hz => ?_⟩) HSx0.out ?_
    · clear hz; go_simp; first | done | with_reducible rfl | rfl
    (try simp only [Act.put, List.setIfInBounds_toArray, List.set_cons_zero, List.set_cons_succ])
    refine wpAnyH_take (i := 6) (oi := ⟨some 30, _, _, _, _, _⟩) (v := .pointer (some ⟨bt, 0, none⟩)) rfl (by kernel_rfl) (by kernel_rfl) (by kernel_rfl) (fun _ _ _ h => h) (Or.inl ⟨by rfl, fun wz hz => ?_⟩) HSx0.out ?_
    · clear hz; go_simp; first | done | with_reducible rfl | rfl
    (try simp only [Act.put, List.setIfInBounds_toArray, List.set_cons_zero, List.set_cons_succ])
    refine held_load1 (oi := ⟨some 31, _, _, _, _, _⟩) 7 rfl (by kernel_rfl) (by kernel_rfl) (by kernel_rfl) (fun _ _ _ _ h => h) rfl 23 (.tmp 30) rfl bt (0) rfl (.slice va m vc) _ (fun u' hu => hu.t.cell 0) Try.underlying23 rfl HSx0.out ?_
    (try simp only [Act.put, List.setIfInBounds_toArray, List.set_cons_zero, List.set_cons_succ])
    refine wpAnyH_take (i := 8) (oi := ⟨some 32, _, _, _, _, _⟩) (v := .int .i64 m) rfl (by kernel_rfl) (by kernel_rfl) (by kernel_rfl) (fun _ _ _ h => h) (Or.inl ⟨by rfl, fun wz hz => ?_⟩) HSx0.out ?_
    · clear hz; go_simp; first | done | with_reducible rfl | rfl
    (try simp only [Act.put, List.setIfInBounds_toArray, List.set_cons_zero, List.set_cons_succ])
    refine wpAnyH_ready (rs := [4]) (by kernel_rfl) (by simp) ?_
    refine AllReadyH.cons (o := ⟨some 28, _, _, _, _, _⟩) rfl (fun K hK => ?_) AllReadyH.nil
    go_simp
    refine (HLA.out x0 HSx0.out).mono ?_
    rintro e x1 ⟨p1, rfl, hd1x, hb⟩
    have HP1 := Lib.hid hd1x
    clear hd1x
    have HSx1 : Hid ((fun u => AnS w bt (.slice va m vc) ns u) x1) := HSx0.out.call hb
    clear hb
    refine hK.out _ _ (HSx1.out) (fun _ => ?_)
    clear hK K
    (try simp only [Act.put, List.setIfInBounds_toArray, List.set_cons_zero, List.set_cons_succ])
    refine wpAnyH_ready (rs := [9]) (by kernel_rfl) (by simp) ?_
    refine AllReadyH.cons (o := ⟨some 33, _, _, _, _, _⟩) rfl (fun K hK => ?_) AllReadyH.nil
    go_simp
    refine (HLB.out x1 HSx1.out).mono ?_
    rintro e x2 ⟨p2, rfl, hd2x, hb⟩
    have HP2 := Lib.hid hd2x
    clear hd2x
    have HP1 := Lib.hid (HP1.out.call hb)
    have HSx2 : Hid ((fun u => AnS w bt (.slice va m vc) ns u) x2) := HSx1.out.call hb
    clear hb
    refine hK.out _ _ (HSx2.out) (fun _ => ?_)
    clear hK K
    (try simp only [Act.put, List.setIfInBounds_toArray, List.set_cons_zero, List.set_cons_succ])
    refine wpAnyH_ready (rs := [10]) (by kernel_rfl) (by simp) ?_
    refine AllReadyH.cons (o := ⟨some 10, _, _, _, _, _⟩) rfl (fun K hK => ?_) AllReadyH.nil
    go_simp
    refine hK.out _ _ (HSx2.out) (fun _ => ?_)
    clear hK K
    (try simp only [Act.put, List.setIfInBounds_toArray, List.set_cons_zero, List.set_cons_succ])
    refine wpAnyH_ready (rs := [11]) (by kernel_rfl) (by simp) ?_
    refine AllReadyH.cons (o := ⟨some 11, _, _, _, _, _⟩) rfl (fun K hK => ?_) AllReadyH.nil
    go_simp
    refine hK.out _ _ (HSx2.out) (fun _ => ?_)
    clear hK K
    (try simp only [Act.put, List.setIfInBounds_toArray, List.set_cons_zero, List.set_cons_succ])
    refine wpAnyH_done (by kernel_rfl) ?_ _
    go_wp2_with fail
    go_meet
    case rel => exact ⟨p1, p2, rfl, rfl, HSx2.out, HP1.out, HP2.out⟩
  case rest =>
    obtain ⟨p, q, rfl, rfl, hs⟩ := hcut
    obtain ⟨pa, pc, rfl, _⟩ := ElV.shape hs.p
    obtain ⟨qa, qc, rfl, _⟩ := ElV.shape hs.q
    have S3 := Lib.hid hs
    rw [HAL.out, HBL.out] at S3
    (try rw [HAL.out])
    (try rw [HBL.out])
    obtain ⟨w3, hw3⟩ : ∃ z, wc = z := ⟨_, rfl⟩
    rw [hw3] at S3 ⊢
    clear hs S2 HLA HLB hw3
    have HNU := Lib.hid (num_any (.slice a1 len1 cap1) l1 m w3 (HI1.out w3 S3.out.a.b) (by omega))
    have HXL := Lib.hid (numK_len l1 m)
    have HXR := Lib.hid (num_at l1 m)
    have HC3 := Lib.hid (S3.out.a.t.cell 0)
    have hiu : (Try.prog.info? 53).map (·.size) = some 1 := by kernel_rfl
    obtain ⟨X, hX⟩ : ∃ x, numK l1 m = x := ⟨_, rfl⟩
    rw [hX] at HNU HXL HXR
    clear hX HI1
    go_upto_region 4 with (first
      | ((with_reducible refine at_load (.tmp 35) ?_); refine wpList_load_1 23 (.tmp 35) rfl bt 0 (.slice va m vc) HC3.out rfl _ Try.underlying23 rfl rfl ?_)
      | (go_at_call 10; refine HNU.out.mono ?_; rintro e w4 ⟨v4, rfl, ho4, hb4⟩; have HB4 := Lib.hid hb4; have HO4 := Lib.hid (HoR.of ho4 hb4.size (by rw [HXL.out]; omega)); clear ho4 hb4))
    rcases HO4.out.row with ⟨h1, _⟩ | ⟨g, c4, hv4, hgb, hrow⟩
    · have := HXL.out; rw [h1] at this; simp at this; omega
    rw [HXL.out] at hv4
    subst hv4
    have HGB := Lib.hid hgb
    have R4 : Hid (RowB w4 g (numL .u64 (upL X m 0))) := by rw [upL_first HXL.out]; exact hrow
    clear hrow HO4 hgb
    (try simp only [Act.put])
    go_wp2_with fail
    go_loopw [13] (fun iv wr => ∃ k : Nat, k ≤ m ∧ iv = .int .i64 k ∧ RowB wr g (numL .u64 (upL X m k)) ∧ Below w3.heap.size w3 wr) (fun iv _ => m - (intOf iv).toNat)
    case atStart => exact ⟨0, Nat.zero_le _, rfl, R4.out, HB4.out⟩
    case round =>
      obtain ⟨k, hk, rfl, hr, hb⟩ := hrel
      have R5 := Lib.hid hr
      have HB5 := Lib.hid hb
      clear hr hb R4 HB4
      by_cases hlt : k < m
      case pos =>
        have hlt' : (k : Int) < m := by omega
        have HN := Lib.hid (R5.out.num (i := k) (by rw [upL_len]; exact hlt))
        have hx0 := upL_get X (m := m) k hlt
        rw [if_neg (by omega)] at hx0
        rw [hx0] at HN
        have HST := Lib.hid (upL_step X (m := m) hlt)
        have hxr := HXR.out k
        obtain ⟨x, hx⟩ : ∃ x, X.getD k 0 = x := ⟨_, rfl⟩
        rw [hx] at HN HST hxr
        have hw5 : IntKind.u64.wrap (x + 5000) = x + 5000 := wrap_u64 (by omega) (by omega)
        clear hx0 hx
        go_wp2_with (first
          | ((with_reducible refine at_load (.tmp 49) ?_); refine wpList_load_1 53 (.tmp 49) rfl g k (.int .u64 x) HN.out rfl _ Try.underlying53 rfl rfl ?_)
          | ((with_reducible refine at_store (.tmp 52) ?_); refine wpList_store_num rfl 53 (.tmp 52) (.tmp 51) rfl g k .u64 (upL X m k) (x + 5000) R5.out (by rw [upL_len]; exact hlt) (by first | rfl | simp [Act.eval, Act.put]) rfl hiu ?_; intro w6 U6 B6; rw [HST.out] at B6; have R6 := Lib.hid B6; have HB6 := Lib.hid (U6.below HB5.out HGB.out); clear U6 B6))
        go_roundw
        case rel => exact ⟨k + 1, by omega, by go_num, R6.out, HB6.out⟩
        case measure => simp [intOf]; omega
      obtain rfl : m = k := by omega
      have HSR : Hid (∀ j, j < m → 5000 ≤ (upL X m m).getD j 0 ∧ (upL X m m).getD j 0 ≤ 72057594037932936) := fun j hj => by
        have := HXR.out j
        rw [upL_get X m hj, if_pos hj]
        omega
      have HSL : Hid ((upL X m m).length = m) := upL_len _ _ _
      have HSV : Hid (NumsV wr (.slice (some ⟨g, 0, none⟩) m c4) (upL X m m)) := ⟨R5.out.ints (by rw [upL_len]) (by rw [upL_len]; unfold maxLen; omega), fun x hx => by
        obtain ⟨j, hj, rfl⟩ := List.mem_iff_getElem.1 hx
        have h2 := HSR.out j (by rw [upL_len] at hj; exact hj)
        have e : (upL X m m)[j] = (upL X m m).getD j 0 := by simp [List.getD_eq_getElem?_getD, hj]
        rw [e]; omega⟩
      have S5 : Hid (DtS w bt (.slice va m vc) ns (.slice pa m pc) (.slice qa m qc) (.slice (some ⟨g, 0, none⟩) m c4) A B (upL X m m) wr) := ⟨S3.out.call HB5.out, HSV.out⟩
      obtain ⟨S, hS⟩ : ∃ x, upL X m m = x := ⟨_, rfl⟩
      rw [hS] at HSR HSL S5
      obtain ⟨P, Z, e1, e2, e3, hP, hZ⟩ := together (ns := ns) (by rw [hm.out]; omega) (by rw [HAL.out, hm.out]) (by rw [HBL.out, hm.out]) HAT.out HBT.out (S := S) (by rw [HSL.out, hm.out]) (fun j hj => HSR.out j (by rw [← hm.out]; exact hj))
      have hMT := mrg_two (n := m) HAL.out HBL.out HAT.out HBT.out
      rw [hm.out] at e3 hP hZ
      have HZL := Lib.hid hZ
      obtain ⟨M, hM⟩ : ∃ x, addL m A B = x := ⟨_, rfl⟩
      rw [hM] at e3 hMT
      have HCM : Hid (∀ u, DdS w bt (.slice va m vc) ns (.slice pa m pc) (.slice qa m qc) A B u → ∀ lv, RowsV u lv [A, B] → Calls Try.prog 25 #[.agg #[.slice va m vc], lv] u fun e w' => ∃ v', e = .returned (.tuple #[v', .int .i64 0]) ∧ DeltasV w' v' M ∧ Below u.heap.size u w') := fun u hu lv hr => by
        have h := cmrg_any (.slice va m vc) lv ns [A, B] HNL.out u hu.a.n hr
        rw [hm.out, hMT] at h
        exact h
      have HA1 : Hid (∀ u, AnS w bt (.slice va m vc) ns u → ∀ wv dv, NumsV u wv S → DeltasV u dv A → Calls Try.prog 16 #[.agg #[.slice va m vc], wv, dv] u fun e w' => ∃ v', e = .returned (.tuple #[v', .int .i64 0]) ∧ NumsV w' v' P ∧ Below u.heap.size u w') := fun u hu wv dv hw hd => by
        have h := capl_any (.slice va m vc) wv dv ns HOK.out S A HNL.out u hu.n hw hd
        rw [e1] at h
        exact h
      have HA2 : Hid (∀ u, AnS w bt (.slice va m vc) ns u → ∀ wv dv, NumsV u wv P → DeltasV u dv B → Calls Try.prog 16 #[.agg #[.slice va m vc], wv, dv] u fun e w' => ∃ v', e = .returned (.tuple #[v', .int .i64 0]) ∧ NumsV w' v' Z ∧ Below u.heap.size u w') := fun u hu wv dv hw hd => by
        have h := capl_any (.slice va m vc) wv dv ns HOK.out P B HNL.out u hu.n hw hd
        rw [e2] at h
        exact h
      have HA3 : Hid (∀ u, AnS w bt (.slice va m vc) ns u → ∀ wv dv, NumsV u wv S → DeltasV u dv M → Calls Try.prog 16 #[.agg #[.slice va m vc], wv, dv] u fun e w' => ∃ v', e = .returned (.tuple #[v', .int .i64 0]) ∧ NumsV w' v' Z ∧ Below u.heap.size u w') := fun u hu wv dv hw hd => by
        have h := capl_any (.slice va m vc) wv dv ns HOK.out S M HNL.out u hu.n hw hd
        rw [e3] at h
        exact h
      have HSM := Lib.hid d_same
      have A5 : Hid (Below wr.heap.size wr (wr.alloc (.cells #[.slice pa m pc, .slice qa m qc] 30))) := (Below.refl _ _).alloc (Nat.le_refl _) _
      have HT := Lib.hid S5.out.d.a.t
      clear e1 e2 e3 hP hZ hMT hM hS HSR HSV R5 HB5 HXR HXL HC3 HNU HAL HBL HAT HBT
      go_wp2_with (first
        | ((with_reducible refine at_load (.tmp 9) ?_); refine wpList_load_g 25 (.tmp 9) rfl bt rfl #[.slice va m vc] _ HT.out Try.underlying25 rfl hi1 rfl ?_)
        | (go_at_call 25; refine (HCM.out _ (S5.out.d.call A5.out) _ (rows_two (Blk.new rfl) (S5.out.d.p.call A5.out) (S5.out.d.q.call A5.out))).mono ?_; rintro e w6 ⟨v6, rfl, hd6, hb6⟩; have HD6 := Lib.hid hd6; have S6 := Lib.hid ((S5.out.call A5.out).call hb6); have HT := Lib.hid S6.out.d.a.t; clear hd6 hb6)
        | (go_at_call_of 16 (Value.slice pa m pc); refine (HA1.out _ S6.out.d.a _ _ S6.out.s S6.out.d.p).mono ?_; rintro e w7 ⟨v7, rfl, hn7, hb7⟩; have HN7 := Lib.hid hn7; have HD7 := Lib.hid (HD6.out.call hb7); have S7 := Lib.hid (S6.out.call hb7); have HT := Lib.hid S7.out.d.a.t; clear hn7 hb7)
        | (go_at_call_of 16 (Value.slice qa m qc); refine (HA2.out _ S7.out.d.a _ _ HN7.out S7.out.d.q).mono ?_; rintro e w8 ⟨v8, rfl, hn8, hb8⟩; have HN8 := Lib.hid hn8; have HD8 := Lib.hid (HD7.out.call hb8); have S8 := Lib.hid (S7.out.call hb8); have HT := Lib.hid S8.out.d.a.t; clear hn8 hb8)
        | (go_at_call_of 16 v6; refine (HA3.out _ S8.out.d.a _ _ S8.out.s HD8.out).mono ?_; rintro e w9 ⟨v9, rfl, hn9, hb9⟩; obtain ⟨na9, nc9, rfl, _⟩ := NumsV.shapeW hn9; rw [HZL.out] at hn9 ⊢; have HN9 := Lib.hid hn9; have HN8 : Hid (NumsV w9 v8 Z) := ⟨HN8.out.1.below hb9, HN8.out.2⟩; have S9 := Lib.hid (S8.out.call hb9); have HC9 := Lib.hid (S9.out.d.a.t.cell 0); clear hn9 hb9)
        | ((with_reducible refine at_load (.tmp 99) ?_); refine wpList_load_1 23 (.tmp 99) rfl bt 0 (.slice va m vc) HC9.out rfl _ Try.underlying23 rfl rfl ?_)
        | (go_at_call 18; refine (HSM.out _ _ Z _ HN8.out HN9.out).mono ?_; rintro e w10 ⟨rfl, hb10⟩; have S10 := Lib.hid (S9.out.call hb10); clear hb10)
        | (go_at_call 14; refine (HAW.out _).mono ?_; rintro e w11 ⟨rfl, hb11⟩; have S11 := Lib.hid (S10.out.call hb11); clear hb11))
      go_ret
      exact ⟨rfl, S11.out.d.a.b⟩
end

end Go.Proofs.Ytdlbobpglgjhiaa
