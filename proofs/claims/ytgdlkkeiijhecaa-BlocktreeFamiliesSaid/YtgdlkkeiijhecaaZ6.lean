/- Several texts as one: L11l. -/
import Derived.Test.YtgdlkkeiijhecaaZ5
namespace Go.Proofs.Ytgdlkkeiijhecaa

/-! L11l -/
section
set_option linter.unusedVariables false
set_option linter.unusedSimpArgs false
open Go.RowKit

set_option maxRecDepth 100000

/-- A function that lists numbers. -/
def LstE (l : List Int) (w : World) (e : Ending) (w' : World) : Prop := ∃ a c, e = .returned (.slice a l.length c) ∧ IntsV w' (.slice a l.length c) l ∧ Below w.heap.size w w'

theorem SelE.lst {l : List Int} {w : World} {e : Ending} {w' : World} (h : SelE l w e w') (hl : l.length ≤ 100000) (hr : ∀ x ∈ l, 0 ≤ x ∧ x < 100000) : LstE l w e w' := by
  obtain ⟨v, he, ho, hb⟩ := h
  obtain ⟨a, c, rfl, _⟩ := ho.cap
  exact ⟨a, c, he, ⟨ho.ints (by unfold maxLen; omega), fun x hx => by have := hr x hx; omega⟩, hb⟩

theorem child_rng (ns : List NdD) (i : Int) : ∀ x ∈ childN ns i, 0 ≤ x ∧ x < ns.length := by
  intro x hx
  unfold childN at hx
  split at hx
  · exact selK_rng _ _ x hx
  · cases hx

set_option maxHeartbeats 16000000 in
theorem walk_BlocktreeLooks (a0 : Option Addr) (len0 cap0 : Nat) (z0 : List Int) (a1 : Int) (a2 : BkD) (a3 : Int) (w : World) (w0 : IsRow .i64 w a0 len0 cap0 z0) (w1 : (Lit.int .i64 a1).wf = true) (w2 : a2.ok) (w3 : (Lit.int .i64 a3).wf = true) :
    Calls Try.prog 6 #[.slice a0 len0 cap0, .int .i64 a1, .agg (flatP a2.parts), .int .i64 a3] w fun e w' => e = .returned (.bool true) ∧ Below w.heap.size w w' := by
  have HTR := Lib.hid (fun u (hu : Below w.heap.size w u) => tree_any (.slice a0 len0 cap0) _ u ((rowInts w0).below hu))
  have h3 := wf_i64 w3
  have H3 := Lib.hid h3
  have HOK2 := Lib.hid w2
  have HAW := Lib.hid awake11_any
  have hi1 : (Try.prog.info? 24).map (·.size) = some 1 := by kernel_rfl
  obtain ⟨hz1, hst1⟩ := zero_array (P := Try.prog) (t := 24) (n := 1) #[.slice none 0 0] (by kernel_rfl) rfl (by kernel_rfl)
  have HX0 : Hid (Blk (w.alloc (.cells (flatP a2.parts) 42)) w.heap.size (flatP a2.parts)) := Blk.new rfl
  have HB0 := Lib.hid ((Below.refl w.heap.size w).alloc (Nat.le_refl _) (.cells (flatP a2.parts) 42))
  have hsX : (flatP a2.parts).size = 238 := by rw [flatP_size, BkD.flen w2]
  have hiX : (Try.prog.info? 42).map (·.size) = some (flatP a2.parts).size := by rw [hsX]; kernel_rfl
  have hiXl : (Try.prog.info? 42).map (·.size) = some (flatP a2.parts).toList.length := by rw [Array.length_toList]; exact hiX
  obtain ⟨X, hX⟩ : ∃ X, flatP a2.parts = X := ⟨_, rfl⟩
  have HXE := Lib.hid hX
  have hiR : (Try.prog.info? 34).map (·.size) = some (bytesL a2.root).length := by rw [bytesL_len w2.2.2.2.1]; kernel_rfl
  rw [hX] at HX0 HB0 hiX hiXl ⊢
  clear w0 w1 w2 w3 hst1 hX hsX
  go_enter Try.func6, Try.ntmps6
  go_wp2_with (first
    | (go_at_call 12; refine (HTR.out _ HB0.out).mono ?_; rintro e w1 ⟨v1, ns, rfl, hn1, hc1, hok, hl9, hb1⟩; obtain ⟨va, vc, rfl, _⟩ := hn1.shape; have HN1 := Lib.hid hn1; have HOK := Lib.hid hok; have HL9 := Lib.hid hl9; have HX1 := Lib.hid (HX0.out.call hb1); have HB1 := Lib.hid (HB0.out.trans (hb1.mono HB0.out.size)); clear hn1 hc1 hok hl9 hb1)
    | ((with_reducible refine at_store (.tmp 9) ?_); refine wpList_store_blk rfl 24 (.tmp 9) _ rfl w1.heap.size #[.slice va ns.length vc] rfl rfl #[.slice none 0 0] (Blk.new rfl) rfl hi1 (by simp [Value.oneCell']) ?_; intro w2 U2 B2; have hb2 := U2.below ((Below.refl w1.heap.size w1).alloc (Nat.le_refl _) (.cells #[.slice none 0 0] 24)) (Nat.le_refl _); have S2 : Hid (LiS w w1.heap.size (.slice va ns.length vc) ns a2 w2) := ⟨by rw [HXE.out]; exact HX1.out.call hb2, ⟨B2, HN1.out.call hb2, HB1.out.trans (hb2.mono HB1.out.size)⟩, HX1.out.lt⟩; clear U2 B2 hb2))
  obtain ⟨bt, hbt⟩ : ∃ x, w1.heap.size = x := ⟨_, rfl⟩
  rw [hbt] at S2 ⊢
  have HCL := Lib.hid (fun (k : Int) => childN_len ns k)
  have HPL := Lib.hid (fun (k : Int) => pathN_len ns k)
  have hnl : ns.length ≤ 100000 := by have := HL9.out; omega
  have HNL := Lib.hid hnl
  have HSC := Lib.hid (fun (k : Int) u (hu : LiS w bt (.slice va ns.length vc) ns a2 u) => (cchild_any ns k (.slice va ns.length vc) u hu.v.n HNL.out).mono fun e w' h => h.lst (Nat.le_trans (HCL.out k) HNL.out) (fun x hx => by have := child_rng ns k x hx; have := HNL.out; have := HL9.out; omega))
  have HSR := Lib.hid (fun (k : Int) u (hu : LiS w bt (.slice va ns.length vc) ns a2 u) => (child_any ns k (.slice va ns.length vc) u hu.v.n HNL.out).mono fun e w' h => h.lst (Nat.le_trans (HCL.out k) HNL.out) (fun x hx => by have := child_rng ns k x hx; have := HNL.out; have := HL9.out; omega))
  have HLC := Lib.hid (fun u (hu : LiS w bt (.slice va ns.length vc) ns a2 u) => (cleaves_any ns (.slice va ns.length vc) u hu.v.n HNL.out).mono fun e w' h => h.lst (Nat.le_trans (selK_len _ _) HNL.out) (fun x hx => by have := selK_rng _ _ x hx; have := HL9.out; omega))
  have HLR := Lib.hid (fun u (hu : LiS w bt (.slice va ns.length vc) ns a2 u) => (leaves_any ns (.slice va ns.length vc) u hu.v.n HNL.out).mono fun e w' h => h.lst (Nat.le_trans (selK_len _ _) HNL.out) (fun x hx => by have := selK_rng _ _ x hx; have := HL9.out; omega))
  have HDP := Lib.hid (fun (k : Int) (hk : -9223372036854775808 ≤ k ∧ k ≤ 9223372036854775807) u (hu : LiS w bt (.slice va ns.length vc) ns a2 u) => cdepth_any ns HOK.out HNL.out k hk (.slice va ns.length vc) u hu.v.n)
  have HPA : Hid (∀ (k : Int) u, LiS w bt (.slice va ns.length vc) ns a2 u → Calls Try.prog 21 #[.agg #[.slice va ns.length vc], .int .i64 k] u fun e w' => ∃ a c, e = .returned (.slice a (pathN ns k).length c) ∧ Below u.heap.size u w') := fun k u hu => (path_any ns HOK.out HNL.out k (.slice va ns.length vc) u hu.v.n).mono fun e w' ⟨v, he, ho, hb⟩ => by
    obtain ⟨a, c, rfl, _⟩ := ho.cap
    exact ⟨a, c, he, hb⟩
  have HFI := Lib.hid (fun (r : List Int) (hr : IsBytes 32 r) u (hu : LiS w bt (.slice va ns.length vc) ns a2 u) => cfind_any (.slice va ns.length vc) ns r u hu.v.n hr)
  have HFR := Lib.hid (fun (r : List Int) (hr : IsBytes 32 r) u (hu : LiS w bt (.slice va ns.length vc) ns a2 u) => find_any (.slice va ns.length vc) ns r u hu.v.n hr)
  have HSM := Lib.hid same_12
  have HNC := Lib.hid (fun (u : World) => cnewt_any a2 a3 u HOK2.out H3.out)
  have HNR := Lib.hid (fun (u : World) => newt_any a2 a3 u HOK2.out H3.out)
  rw [HXE.out] at HNC HNR
  have HSAME := Lib.hid (fun v1 v2 ns u (h1 : NodesV u v1 ns) (h2 : NodesV u v2 ns) => stree_yes v1 v2 ns u h1 h2)
  obtain ⟨m, hm⟩ : ∃ m, Hid (ns.length = m) := ⟨_, Lib.hid rfl⟩
  rw [hm.out] at S2 HL9 HSC HSR HLC HLR HDP HPA HFI HFR HCL HPL ⊢
  have hm9 : m ≤ 9 := HL9.out
  clear hbt HN1 HX1 HB1 hnl
  (try simp only [Act.put])
  go_loopw [10] (fun i wr => ∃ kk : Int, i = .int .i64 kk ∧ -1 ≤ kk ∧ kk ≤ m + 1 ∧ LiS w bt (.slice va m vc) ns a2 wr) (fun i _ => (m + 1 - intOf i).toNat)
  case atStart => exact ⟨-1, rfl, by omega, by omega, S2.out⟩
  case round =>
    obtain ⟨kk, rfl, hk1, hk2, hs⟩ := hrel
    have S3 := Lib.hid hs
    clear hs S2
    by_cases hlt : kk ≤ (m : Int)
    case pos =>
      have HKR : Hid (-9223372036854775808 ≤ kk ∧ kk ≤ 9223372036854775807) := by show _ ∧ _; omega
      go_upto_region 5 with (first
        | ((with_reducible refine at_load (.tmp 14) ?_); refine wpList_load_1 22 (.tmp 14) rfl bt 0 (.slice va m vc) (S3.out.v.t.cell 0) rfl _ Try.underlying22 rfl rfl ?_))
      obtain ⟨C, hC⟩ : ∃ C, childN ns kk = C := ⟨_, rfl⟩
      obtain ⟨L, hL⟩ : ∃ L, (pathN ns kk).length = L := ⟨_, rfl⟩
      have H1 := Lib.hid (HSC.out kk)
      have H2 := Lib.hid (HSR.out kk)
      have H4 := Lib.hid (HDP.out kk HKR.out)
      have H5 := Lib.hid (HPA.out kk)
      rw [hC] at H1 H2
      rw [hL] at H4 H5
      unfold LstE at H1 H2
      clear hC hL
      have HSx0 : Hid ((fun u => LiS w bt (.slice va m vc) ns a2 u) wr.drew) := S3.out.call (Below.drewN (n := 1) (Below.refl _ _) : Below wr.heap.size wr wr.drew)
      refine wp_region_held_drew (S := fun u => LiS w bt (.slice va m vc) ns a2 u) (by kernel_rfl) (HSx0.out) (fun _ => ?_)
      (try simp only [Act.put, List.setIfInBounds_toArray, List.set_cons_zero, List.set_cons_succ])
      obtain ⟨x0, hx0⟩ : ∃ x, wr.drew = x := ⟨_, rfl⟩
      rw [hx0] at HSx0 ⊢
      clear hx0
      refine held_load (oi := ⟨some 20, _, _, _, _, _⟩) 0 rfl (by kernel_rfl) (by kernel_rfl) (by kernel_rfl) (fun _ _ _ _ h => h) rfl 24 (.tmp 9) rfl bt (0) rfl [.slice va m vc] _ (fun u' hu => hu.v.t.rng) Try.underlying24 rfl (hi1) HSx0.out ?_
      (try simp only [Act.put, List.setIfInBounds_toArray, List.set_cons_zero, List.set_cons_succ])
      refine wpAnyH_take (i := 1) (oi := ⟨some 21, _, _, _, _, _⟩) (v := .int .i64 kk) rfl (by kernel_rfl) (by kernel_rfl) (by kernel_rfl) (fun _ _ _ h => h) (Or.inl ⟨by rfl, fun wz hz => ?_⟩) HSx0.out ?_
      · clear hz; go_simp; first | done | with_reducible rfl | rfl
      (try simp only [Act.put, List.setIfInBounds_toArray, List.set_cons_zero, List.set_cons_succ])
      refine held_load (oi := ⟨some 23, _, _, _, _, _⟩) 3 rfl (by kernel_rfl) (by kernel_rfl) (by kernel_rfl) (fun _ _ _ _ h => h) rfl 24 (.tmp 9) rfl bt (0) rfl [.slice va m vc] _ (fun u' hu => hu.v.t.rng) Try.underlying24 rfl (hi1) HSx0.out ?_
      (try simp only [Act.put, List.setIfInBounds_toArray, List.set_cons_zero, List.set_cons_succ])
      refine wpAnyH_take (i := 4) (oi := ⟨some 24, _, _, _, _, _⟩) (v := .int .i64 kk) rfl (by kernel_rfl) (by kernel_rfl) (by kernel_rfl) (fun _ _ _ h => h) (Or.inl ⟨by rfl, fun wz hz => ?_⟩) HSx0.out ?_
      · clear hz; go_simp; first | done | with_reducible rfl | rfl
      (try simp only [Act.put, List.setIfInBounds_toArray, List.set_cons_zero, List.set_cons_succ])
      refine wpAnyH_ready (rs := [2]) (by kernel_rfl) (by simp) ?_
      refine AllReadyH.cons (o := ⟨some 22, _, _, _, _, _⟩) rfl (fun K hK => ?_) AllReadyH.nil
      go_simp
      refine (H1.out x0 HSx0.out).mono ?_
      rintro e x1 ⟨ca, cc, rfl, hci, hb⟩
      have HCI := Lib.hid hci
      clear hci
      have HSx1 : Hid ((fun u => LiS w bt (.slice va m vc) ns a2 u) x1) := HSx0.out.call hb
      clear hb
      refine hK.out _ _ (HSx1.out) (fun _ => ?_)
      clear hK K
      (try simp only [Act.put, List.setIfInBounds_toArray, List.set_cons_zero, List.set_cons_succ])
      refine wpAnyH_ready (rs := [5]) (by kernel_rfl) (by simp) ?_
      refine AllReadyH.cons (o := ⟨some 25, _, _, _, _, _⟩) rfl (fun K hK => ?_) AllReadyH.nil
      go_simp
      refine (H2.out x1 HSx1.out).mono ?_
      rintro e x2 ⟨da, dc, rfl, hdi, hb⟩
      have HDI := Lib.hid hdi
      clear hdi
      have HCI := Lib.hid (HCI.out.below hb)
      have HSx2 : Hid ((fun u => LiS w bt (.slice va m vc) ns a2 u) x2) := HSx1.out.call hb
      clear hb
      refine hK.out _ _ (HSx2.out) (fun _ => ?_)
      clear hK K
      (try simp only [Act.put, List.setIfInBounds_toArray, List.set_cons_zero, List.set_cons_succ])
      refine wpAnyH_ready (rs := [6]) (by kernel_rfl) (by simp) ?_
      refine AllReadyH.cons (o := ⟨some 26, _, _, _, _, _⟩) rfl (fun K hK => ?_) AllReadyH.nil
      go_simp
      refine (HSM.out _ _ C x2 HCI.out HDI.out).mono ?_
      rintro e x3 ⟨rfl, hb⟩
      have HSx3 : Hid ((fun u => LiS w bt (.slice va m vc) ns a2 u) x3) := HSx2.out.call hb
      clear hb
      refine hK.out _ _ (HSx3.out) (fun _ => ?_)
      clear hK K
      (try simp only [Act.put, List.setIfInBounds_toArray, List.set_cons_zero, List.set_cons_succ])
      refine wpAnyH_take (i := 7) (oi := ⟨some 27, _, _, _, _, _⟩) (v := .bool false) rfl (by kernel_rfl) (by kernel_rfl) (by kernel_rfl) (fun _ _ _ h => h) (Or.inl ⟨by rfl, fun wz hz => ?_⟩) HSx3.out ?_
      · clear hz; go_simp; first | done | with_reducible rfl | rfl
      (try simp only [Act.put, List.setIfInBounds_toArray, List.set_cons_zero, List.set_cons_succ])
      refine wpAnyH_take (i := 8) (oi := ⟨some 28, _, _, _, _, _⟩) (v := .bool false) rfl (by kernel_rfl) (by kernel_rfl) (by kernel_rfl) (fun _ _ _ h => h) (Or.inl ⟨by rfl, fun wz hz => ?_⟩) HSx3.out ?_
      · clear hz; go_simp; first | done | with_reducible rfl | rfl
      (try simp only [Act.put, List.setIfInBounds_toArray, List.set_cons_zero, List.set_cons_succ])
      refine held_load (oi := ⟨some 29, _, _, _, _, _⟩) 9 rfl (by kernel_rfl) (by kernel_rfl) (by kernel_rfl) (fun _ _ _ _ h => h) rfl 24 (.tmp 9) rfl bt (0) rfl [.slice va m vc] _ (fun u' hu => hu.v.t.rng) Try.underlying24 rfl (hi1) HSx3.out ?_
      (try simp only [Act.put, List.setIfInBounds_toArray, List.set_cons_zero, List.set_cons_succ])
      refine wpAnyH_take (i := 10) (oi := ⟨some 30, _, _, _, _, _⟩) (v := .int .i64 kk) rfl (by kernel_rfl) (by kernel_rfl) (by kernel_rfl) (fun _ _ _ h => h) (Or.inl ⟨by rfl, fun wz hz => ?_⟩) HSx3.out ?_
      · clear hz; go_simp; first | done | with_reducible rfl | rfl
      (try simp only [Act.put, List.setIfInBounds_toArray, List.set_cons_zero, List.set_cons_succ])
      refine held_load (oi := ⟨some 32, _, _, _, _, _⟩) 12 rfl (by kernel_rfl) (by kernel_rfl) (by kernel_rfl) (fun _ _ _ _ h => h) rfl 24 (.tmp 9) rfl bt (0) rfl [.slice va m vc] _ (fun u' hu => hu.v.t.rng) Try.underlying24 rfl (hi1) HSx3.out ?_
      (try simp only [Act.put, List.setIfInBounds_toArray, List.set_cons_zero, List.set_cons_succ])
      refine wpAnyH_take (i := 13) (oi := ⟨some 33, _, _, _, _, _⟩) (v := .int .i64 kk) rfl (by kernel_rfl) (by kernel_rfl) (by kernel_rfl) (fun _ _ _ h => h) (Or.inl ⟨by rfl, fun wz hz => ?_⟩) HSx3.out ?_
      · clear hz; go_simp; first | done | with_reducible rfl | rfl
      (try simp only [Act.put, List.setIfInBounds_toArray, List.set_cons_zero, List.set_cons_succ])
      refine wpAnyH_ready (rs := [11]) (by kernel_rfl) (by simp) ?_
      refine AllReadyH.cons (o := ⟨some 31, _, _, _, _, _⟩) rfl (fun K hK => ?_) AllReadyH.nil
      go_simp
      refine (H4.out x3 HSx3.out).mono ?_
      rintro e x4 ⟨rfl, hb⟩
      have HSx4 : Hid ((fun u => LiS w bt (.slice va m vc) ns a2 u) x4) := HSx3.out.call hb
      clear hb
      refine hK.out _ _ (HSx4.out) (fun _ => ?_)
      clear hK K
      (try simp only [Act.put, List.setIfInBounds_toArray, List.set_cons_zero, List.set_cons_succ])
      refine wpAnyH_ready (rs := [14]) (by kernel_rfl) (by simp) ?_
      refine AllReadyH.cons (o := ⟨some 34, _, _, _, _, _⟩) rfl (fun K hK => ?_) AllReadyH.nil
      go_simp
      refine (H5.out x4 HSx4.out).mono ?_
      rintro e x5 ⟨pa, pc, rfl, hb⟩
      have HSx5 : Hid ((fun u => LiS w bt (.slice va m vc) ns a2 u) x5) := HSx4.out.call hb
      clear hb
      refine hK.out _ _ (HSx5.out) (fun _ => ?_)
      clear hK K
      (try simp only [Act.put, List.setIfInBounds_toArray, List.set_cons_zero, List.set_cons_succ])
      refine wpAnyH_take (i := 15) (oi := ⟨some 35, _, _, _, _, _⟩) (v := .int .i64 (L : Int)) rfl (by kernel_rfl) (by kernel_rfl) (by kernel_rfl) (fun _ _ _ h => h) (Or.inl ⟨by rfl, fun wz hz => ?_⟩) HSx5.out ?_
      · clear hz; go_simp; first | done | with_reducible rfl | rfl
      (try simp only [Act.put, List.setIfInBounds_toArray, List.set_cons_zero, List.set_cons_succ])
      refine wpAnyH_take (i := 16) (oi := ⟨some 36, _, _, _, _, _⟩) (v := .bool false) rfl (by kernel_rfl) (by kernel_rfl) (by kernel_rfl) (fun _ _ _ h => h) (Or.inl ⟨by rfl, fun wz hz => ?_⟩) HSx5.out ?_
      · clear hz; go_simp; first | done | with_reducible rfl | rfl
      (try simp only [Act.put, List.setIfInBounds_toArray, List.set_cons_zero, List.set_cons_succ])
      refine wpAnyH_take (i := 17) (oi := ⟨some 37, _, _, _, _, _⟩) (v := .bool false) rfl (by kernel_rfl) (by kernel_rfl) (by kernel_rfl) (fun _ _ _ h => h) (Or.inl ⟨by rfl, fun wz hz => ?_⟩) HSx5.out ?_
      · clear hz; go_simp; first | done | with_reducible rfl | rfl
      (try simp only [Act.put, List.setIfInBounds_toArray, List.set_cons_zero, List.set_cons_succ])
      refine wpAnyH_done (by kernel_rfl) ?_ _
      have S4 := Lib.hid HSx5.out
      clear S3
      go_upto_region 7 with fail
      by_cases hin : 0 ≤ kk ∧ kk < (m : Int)
      case neg =>
        have hX1 : (0 ≤ kk) = False ∨ ((0 ≤ kk) = True ∧ (kk < (m : Int)) = False) := by
          by_cases h : 0 ≤ kk
          · exact .inr ⟨eq_true h, eq_false (fun h2 => hin ⟨h, h2⟩)⟩
          · exact .inl (eq_false h)
        clear hin
        rcases hX1 with hX1 | ⟨hX1, hX2⟩
        · have hd1 : decide (0 ≤ kk) = false := by rw [decide_eq_false_iff_not, hX1]; exact fun h => h
          refine wp_region_fam2 (by kernel_rfl) (by kernel_rfl) ?_
          intro T F hT hF hG
          repeat (go_big_quiet_step (fail))
          refine wpQuiet_nil ?_
          rintro _ ⟨t, rfl⟩
          have S5 := Lib.hid (S4.out.call (hF t))
          go_wp2_with fail
          go_roundw
          case rel => exact ⟨kk + 1, by go_num, by omega, by omega, S5.out⟩
          case measure => simp [intOf]; omega
        · have hd1 : decide (0 ≤ kk) = true := by rw [decide_eq_true_iff, hX1]; trivial
          have hd2 : decide (kk < (m : Int)) = false := by rw [decide_eq_false_iff_not, hX2]; exact fun h => h
          refine wp_region_fam2 (by kernel_rfl) (by kernel_rfl) ?_
          intro T F hT hF hG
          have c0 : ∀ t, (F t).cell? ⟨bt, 0, none⟩ = some (.slice va m vc) := fun t => (S4.out.call (hF t)).v.t.cell 0
          repeat (go_big_quiet_step (fail))
          refine wpQuiet_nil ?_
          rintro _ ⟨t, rfl⟩
          have S5 := Lib.hid (S4.out.call (hF t))
          go_wp2_with fail
          go_roundw
          case rel => exact ⟨kk + 1, by go_num, by omega, by omega, S5.out⟩
          case measure => simp [intOf]; omega
      case pos =>
        obtain ⟨k, rfl⟩ : ∃ k : Nat, kk = k := ⟨kk.toNat, by omega⟩
        have hkn : k < ns.length := by rw [hm.out]; omega
        have hkm : (k : Int) < (m : Int) := hin.2
        have hk0 : (0 : Int) ≤ (k : Int) := by omega
        obtain ⟨b, off, rfl, hlm, hbb, hna, hok⟩ := S4.out.v.n.elem hkn
        have HRT := Lib.hid hna.bk.root
        have hrok := hok.1.2.2.2.1
        have hiRk : (Try.prog.info? 34).map (·.size) = some (bytesL ns[k].b.root).length := by rw [bytesL_len hrok]; kernel_rfl
        have HFK := Lib.hid (HFI.out _ hrok)
        rw [HOK.out.find hkn] at HFK
        have hbne : ((k : Int) != (k : Int)) = false := by simp
        obtain ⟨R, hR⟩ : ∃ R, bytesL ns[k].b.root = R := ⟨_, rfl⟩
        rw [hR] at HRT hiRk HFK
        clear hlm hna hok hrok hR hin
        refine wp_region_fam2 (by kernel_rfl) (by kernel_rfl) ?_
        intro T F hT hF hG
        have c0 : ∀ t, (F t).cell? ⟨bt, 0, none⟩ = some (.slice (some ⟨b, off, none⟩) m vc) := fun t => (S4.out.call (hF t)).v.t.cell 0
        have CT := Lib.hid (show ∀ u, (∃ t, u = F t) → Blk u bt #[.slice (some ⟨b, off, none⟩) m vc] by rintro _ ⟨t, rfl⟩; exact (S4.out.call (hF t)).v.t)
        have CR := Lib.hid (show ∀ u, (∃ t, u = F t) → u.rangeAt b (off + k * 240 + 67) R by rintro _ ⟨t, rfl⟩; exact Below.rng (hF t) hbb HRT.out)
        repeat (first
          | ((with_reducible refine at_qload (.tmp 54) ?_); refine wpQuiet_load_midE 34 _ rfl b (off + k * 240 + 67) (by simp [Act.eval]) R CR.out Try.underlying34 rfl hiRk (by kernel_rfl) ?_; simp only [Act.put, List.setIfInBounds_toArray, List.set_cons_succ, List.set_cons_zero])
          | ((with_reducible refine at_qload (.tmp 9) ?_); refine wpQuiet_load 24 _ rfl bt rfl #[.slice (some ⟨b, off, none⟩) m vc] CT.out Try.underlying24 rfl hi1 (by kernel_rfl) ?_; simp only [Act.put, List.setIfInBounds_toArray, List.set_cons_succ, List.set_cons_zero])
          | (go_big_quiet_step ((go_at_call 22; exact fam_call hF hG (Nat.le_refl _) (HFK.out _ (S4.out.call (hF _)))))))
        refine wpQuiet_nil ?_
        rintro _ ⟨t, rfl⟩
        have S5 := Lib.hid (S4.out.call (hF t))
        go_wp2_with fail
        go_roundw
        case rel => exact ⟨(k : Int) + 1, by go_num, by omega, by omega, S5.out⟩
        case measure => simp [intOf]; omega
    case neg =>
      obtain rfl : kk = (m : Int) + 1 := by omega
      have hlt' : ((m : Int) + 1 ≤ (m : Int)) = False := eq_false hlt
      clear hlt
      go_upto_region 9 with (first
        | ((with_reducible refine at_load (.tmp 14) ?_); refine wpList_load_1 22 (.tmp 14) rfl bt 0 (.slice va m vc) (S3.out.v.t.cell 0) rfl _ Try.underlying22 rfl rfl ?_))
      obtain ⟨C, hC⟩ : ∃ C, childN ns a1 = C := ⟨_, rfl⟩
      obtain ⟨V, hV⟩ : ∃ V, leafN ns = V := ⟨_, rfl⟩
      obtain ⟨f, hf⟩ : ∃ f, findN ns a2.root = f := ⟨_, rfl⟩
      have H1 := Lib.hid (HSC.out a1)
      have H2 := Lib.hid (HSR.out a1)
      have H4 := Lib.hid (HFI.out _ HOK2.out.2.2.2.1)
      have H5 := Lib.hid (HFR.out _ HOK2.out.2.2.2.1)
      have H6 := HLC
      have H7 := HLR
      rw [hC] at H1 H2
      rw [hf] at H4 H5
      rw [hV] at H6 H7
      unfold LstE at H1 H2 H6 H7
      have HRR : Hid (∀ u, LiS w bt (.slice va m vc) ns a2 u → u.rangeAt w.heap.size 67 (bytesL a2.root)) := fun u h => by have := (bk_at (Blk.rng h.x) HOK2.out).root; rw [Nat.zero_add] at this; exact this
      have HXR : Hid (∀ u, LiS w bt (.slice va m vc) ns a2 u → u.rangeAt w.heap.size 0 X.toList) := fun u h => by have := h.x; rw [HXE.out] at this; exact this.rng
      obtain ⟨R, hR⟩ : ∃ R, bytesL a2.root = R := ⟨_, rfl⟩
      rw [hR] at HRR H4 H5 hiR
      obtain ⟨nC, hnC⟩ : ∃ n, C.length = n := ⟨_, rfl⟩
      rw [hnC] at H1 H2
      clear hC hV hf hR hnC
      have HSx0 : Hid ((fun u => LiS w bt (.slice va m vc) ns a2 u) wr.drew) := S3.out.call (Below.drewN (n := 1) (Below.refl _ _) : Below wr.heap.size wr wr.drew)
      refine wp_region_held_drew (S := fun u => LiS w bt (.slice va m vc) ns a2 u) (by kernel_rfl) (HSx0.out) (fun _ => ?_)
      (try simp only [Act.put, List.setIfInBounds_toArray, List.set_cons_zero, List.set_cons_succ])
      obtain ⟨x0, hx0⟩ : ∃ x, wr.drew = x := ⟨_, rfl⟩
      rw [hx0] at HSx0 ⊢
      clear hx0
      refine held_load (oi := ⟨some 60, _, _, _, _, _⟩) 0 rfl (by kernel_rfl) (by kernel_rfl) (by kernel_rfl) (fun _ _ _ _ h => h) rfl 24 (.tmp 9) rfl bt (0) rfl [.slice va m vc] _ (fun u' hu => hu.v.t.rng) Try.underlying24 rfl (hi1) HSx0.out ?_
      (try simp only [Act.put, List.setIfInBounds_toArray, List.set_cons_zero, List.set_cons_succ])
      refine wpAnyH_take (i := 1) (oi := ⟨some 61, _, _, _, _, _⟩) (v := .int .i64 a1) rfl (by kernel_rfl) (by kernel_rfl) (by kernel_rfl) (fun _ _ _ h => h) (Or.inl ⟨by rfl, fun wz hz => ?_⟩) HSx0.out ?_
      · clear hz; go_simp; first | done | with_reducible rfl | rfl
      (try simp only [Act.put, List.setIfInBounds_toArray, List.set_cons_zero, List.set_cons_succ])
      refine held_load (oi := ⟨some 64, _, _, _, _, _⟩) 4 rfl (by kernel_rfl) (by kernel_rfl) (by kernel_rfl) (fun _ _ _ _ h => h) rfl 24 (.tmp 9) rfl bt (0) rfl [.slice va m vc] _ (fun u' hu => hu.v.t.rng) Try.underlying24 rfl (hi1) HSx0.out ?_
      (try simp only [Act.put, List.setIfInBounds_toArray, List.set_cons_zero, List.set_cons_succ])
      refine wpAnyH_take (i := 5) (oi := ⟨some 65, _, _, _, _, _⟩) (v := .int .i64 a1) rfl (by kernel_rfl) (by kernel_rfl) (by kernel_rfl) (fun _ _ _ h => h) (Or.inl ⟨by rfl, fun wz hz => ?_⟩) HSx0.out ?_
      · clear hz; go_simp; first | done | with_reducible rfl | rfl
      (try simp only [Act.put, List.setIfInBounds_toArray, List.set_cons_zero, List.set_cons_succ])
      refine wpAnyH_ready (rs := [2]) (by kernel_rfl) (by simp) ?_
      refine AllReadyH.cons (o := ⟨some 62, _, _, _, _, _⟩) rfl (fun K hK => ?_) AllReadyH.nil
      go_simp
      refine (H1.out x0 HSx0.out).mono ?_
      rintro e x1 ⟨ca, cc, rfl, _, hb⟩
      have HSx1 : Hid ((fun u => LiS w bt (.slice va m vc) ns a2 u) x1) := HSx0.out.call hb
      clear hb
      refine hK.out _ _ (HSx1.out) (fun _ => ?_)
      clear hK K
      (try simp only [Act.put, List.setIfInBounds_toArray, List.set_cons_zero, List.set_cons_succ])
      refine wpAnyH_take (i := 3) (oi := ⟨some 63, _, _, _, _, _⟩) (v := .int .i64 (nC : Int)) rfl (by kernel_rfl) (by kernel_rfl) (by kernel_rfl) (fun _ _ _ h => h) (Or.inl ⟨by rfl, fun wz hz => ?_⟩) HSx1.out ?_
      · clear hz; go_simp; first | done | with_reducible rfl | rfl
      (try simp only [Act.put, List.setIfInBounds_toArray, List.set_cons_zero, List.set_cons_succ])
      refine wpAnyH_ready (rs := [6]) (by kernel_rfl) (by simp) ?_
      refine AllReadyH.cons (o := ⟨some 66, _, _, _, _, _⟩) rfl (fun K hK => ?_) AllReadyH.nil
      go_simp
      refine (H2.out x1 HSx1.out).mono ?_
      rintro e x2 ⟨da, dc, rfl, _, hb⟩
      have HSx2 : Hid ((fun u => LiS w bt (.slice va m vc) ns a2 u) x2) := HSx1.out.call hb
      clear hb
      refine hK.out _ _ (HSx2.out) (fun _ => ?_)
      clear hK K
      (try simp only [Act.put, List.setIfInBounds_toArray, List.set_cons_zero, List.set_cons_succ])
      refine wpAnyH_take (i := 7) (oi := ⟨some 67, _, _, _, _, _⟩) (v := .int .i64 (nC : Int)) rfl (by kernel_rfl) (by kernel_rfl) (by kernel_rfl) (fun _ _ _ h => h) (Or.inl ⟨by rfl, fun wz hz => ?_⟩) HSx2.out ?_
      · clear hz; go_simp; first | done | with_reducible rfl | rfl
      (try simp only [Act.put, List.setIfInBounds_toArray, List.set_cons_zero, List.set_cons_succ])
      refine wpAnyH_take (i := 8) (oi := ⟨some 68, _, _, _, _, _⟩) (v := .bool true) rfl (by kernel_rfl) (by kernel_rfl) (by kernel_rfl) (fun _ _ _ h => h) (Or.inl ⟨by rfl, fun wz hz => ?_⟩) HSx2.out ?_
      · clear hz; go_simp; first | done | with_reducible rfl | rfl
      (try simp only [Act.put, List.setIfInBounds_toArray, List.set_cons_zero, List.set_cons_succ])
      refine wpAnyH_take (i := 9) (oi := ⟨some 69, _, _, _, _, _⟩) (v := .bool true) rfl (by kernel_rfl) (by kernel_rfl) (by kernel_rfl) (fun _ _ _ h => h) (Or.inl ⟨by rfl, fun wz hz => ?_⟩) HSx2.out ?_
      · clear hz; go_simp; first | done | with_reducible rfl | rfl
      (try simp only [Act.put, List.setIfInBounds_toArray, List.set_cons_zero, List.set_cons_succ])
      refine held_load (oi := ⟨some 70, _, _, _, _, _⟩) 10 rfl (by kernel_rfl) (by kernel_rfl) (by kernel_rfl) (fun _ _ _ _ h => h) rfl 24 (.tmp 9) rfl bt (0) rfl [.slice va m vc] _ (fun u' hu => hu.v.t.rng) Try.underlying24 rfl (hi1) HSx2.out ?_
      (try simp only [Act.put, List.setIfInBounds_toArray, List.set_cons_zero, List.set_cons_succ])
      refine wpAnyH_take (i := 11) (oi := ⟨some 71, _, _, _, _, _⟩) (v := .pointer (some ⟨w.heap.size, 67, none⟩)) rfl (by kernel_rfl) (by kernel_rfl) (by kernel_rfl) (fun _ _ _ h => h) (Or.inl ⟨by rfl, fun wz hz => ?_⟩) HSx2.out ?_
      · clear hz; go_simp; first | done | with_reducible rfl | rfl
      (try simp only [Act.put, List.setIfInBounds_toArray, List.set_cons_zero, List.set_cons_succ])
      refine held_load (oi := ⟨some 74, _, _, _, _, _⟩) 14 rfl (by kernel_rfl) (by kernel_rfl) (by kernel_rfl) (fun _ _ _ _ h => h) rfl 24 (.tmp 9) rfl bt (0) rfl [.slice va m vc] _ (fun u' hu => hu.v.t.rng) Try.underlying24 rfl (hi1) HSx2.out ?_
      (try simp only [Act.put, List.setIfInBounds_toArray, List.set_cons_zero, List.set_cons_succ])
      refine wpAnyH_take (i := 15) (oi := ⟨some 75, _, _, _, _, _⟩) (v := .pointer (some ⟨w.heap.size, 67, none⟩)) rfl (by kernel_rfl) (by kernel_rfl) (by kernel_rfl) (fun _ _ _ h => h) (Or.inl ⟨by rfl, fun wz hz => ?_⟩) HSx2.out ?_
      · clear hz; go_simp; first | done | with_reducible rfl | rfl
      (try simp only [Act.put, List.setIfInBounds_toArray, List.set_cons_zero, List.set_cons_succ])
      refine held_load (oi := ⟨some 72, _, _, _, _, _⟩) 12 rfl (by kernel_rfl) (by kernel_rfl) (by kernel_rfl) (fun _ _ _ _ h => h) rfl 34 (.tmp 71) rfl w.heap.size (67) rfl R _ (fun u' hu => HRR.out u' hu) Try.underlying34 rfl (hiR) HSx2.out ?_
      (try simp only [Act.put, List.setIfInBounds_toArray, List.set_cons_zero, List.set_cons_succ])
      refine held_load (oi := ⟨some 76, _, _, _, _, _⟩) 16 rfl (by kernel_rfl) (by kernel_rfl) (by kernel_rfl) (fun _ _ _ _ h => h) rfl 34 (.tmp 75) rfl w.heap.size (67) rfl R _ (fun u' hu => HRR.out u' hu) Try.underlying34 rfl (hiR) HSx2.out ?_
      (try simp only [Act.put, List.setIfInBounds_toArray, List.set_cons_zero, List.set_cons_succ])
      refine wpAnyH_ready (rs := [13]) (by kernel_rfl) (by simp) ?_
      refine AllReadyH.cons (o := ⟨some 73, _, _, _, _, _⟩) rfl (fun K hK => ?_) AllReadyH.nil
      go_simp
      refine (H4.out x2 HSx2.out).mono ?_
      rintro e x3 ⟨rfl, hb⟩
      have HSx3 : Hid ((fun u => LiS w bt (.slice va m vc) ns a2 u) x3) := HSx2.out.call hb
      clear hb
      refine hK.out _ _ (HSx3.out) (fun _ => ?_)
      clear hK K
      (try simp only [Act.put, List.setIfInBounds_toArray, List.set_cons_zero, List.set_cons_succ])
      refine wpAnyH_ready (rs := [17]) (by kernel_rfl) (by simp) ?_
      refine AllReadyH.cons (o := ⟨some 77, _, _, _, _, _⟩) rfl (fun K hK => ?_) AllReadyH.nil
      go_simp
      refine (H5.out x3 HSx3.out).mono ?_
      rintro e x4 ⟨rfl, hb⟩
      have HSx4 : Hid ((fun u => LiS w bt (.slice va m vc) ns a2 u) x4) := HSx3.out.call hb
      clear hb
      refine hK.out _ _ (HSx4.out) (fun _ => ?_)
      clear hK K
      (try simp only [Act.put, List.setIfInBounds_toArray, List.set_cons_zero, List.set_cons_succ])
      refine wpAnyH_take (i := 18) (oi := ⟨some 78, _, _, _, _, _⟩) (v := .bool true) rfl (by kernel_rfl) (by kernel_rfl) (by kernel_rfl) (fun _ _ _ h => h) (Or.inl ⟨by rfl, fun wz hz => ?_⟩) HSx4.out ?_
      · clear hz; go_simp; first | done | with_reducible rfl | rfl
      (try simp only [Act.put, List.setIfInBounds_toArray, List.set_cons_zero, List.set_cons_succ])
      refine wpAnyH_take (i := 19) (oi := ⟨some 79, _, _, _, _, _⟩) (v := .bool true) rfl (by kernel_rfl) (by kernel_rfl) (by kernel_rfl) (fun _ _ _ h => h) (Or.inl ⟨by rfl, fun wz hz => ?_⟩) HSx4.out ?_
      · clear hz; go_simp; first | done | with_reducible rfl | rfl
      (try simp only [Act.put, List.setIfInBounds_toArray, List.set_cons_zero, List.set_cons_succ])
      refine wpAnyH_take (i := 20) (oi := ⟨some 80, _, _, _, _, _⟩) (v := .bool true) rfl (by kernel_rfl) (by kernel_rfl) (by kernel_rfl) (fun _ _ _ h => h) (Or.inl ⟨by rfl, fun wz hz => ?_⟩) HSx4.out ?_
      · clear hz; go_simp; first | done | with_reducible rfl | rfl
      (try simp only [Act.put, List.setIfInBounds_toArray, List.set_cons_zero, List.set_cons_succ])
      refine held_load (oi := ⟨some 81, _, _, _, _, _⟩) 21 rfl (by kernel_rfl) (by kernel_rfl) (by kernel_rfl) (fun _ _ _ _ h => h) rfl 24 (.tmp 9) rfl bt (0) rfl [.slice va m vc] _ (fun u' hu => hu.v.t.rng) Try.underlying24 rfl (hi1) HSx4.out ?_
      (try simp only [Act.put, List.setIfInBounds_toArray, List.set_cons_zero, List.set_cons_succ])
      refine held_load (oi := ⟨some 83, _, _, _, _, _⟩) 23 rfl (by kernel_rfl) (by kernel_rfl) (by kernel_rfl) (fun _ _ _ _ h => h) rfl 24 (.tmp 9) rfl bt (0) rfl [.slice va m vc] _ (fun u' hu => hu.v.t.rng) Try.underlying24 rfl (hi1) HSx4.out ?_
      (try simp only [Act.put, List.setIfInBounds_toArray, List.set_cons_zero, List.set_cons_succ])
      refine wpAnyH_ready (rs := [22]) (by kernel_rfl) (by simp) ?_
      refine AllReadyH.cons (o := ⟨some 82, _, _, _, _, _⟩) rfl (fun K hK => ?_) AllReadyH.nil
      go_simp
      refine (H6.out x4 HSx4.out).mono ?_
      rintro e x5 ⟨ga, gc, rfl, hgi, hb⟩
      have HGI := Lib.hid hgi
      clear hgi
      have HSx5 : Hid ((fun u => LiS w bt (.slice va m vc) ns a2 u) x5) := HSx4.out.call hb
      clear hb
      refine hK.out _ _ (HSx5.out) (fun _ => ?_)
      clear hK K
      (try simp only [Act.put, List.setIfInBounds_toArray, List.set_cons_zero, List.set_cons_succ])
      refine wpAnyH_ready (rs := [24]) (by kernel_rfl) (by simp) ?_
      refine AllReadyH.cons (o := ⟨some 84, _, _, _, _, _⟩) rfl (fun K hK => ?_) AllReadyH.nil
      go_simp
      refine (H7.out x5 HSx5.out).mono ?_
      rintro e x6 ⟨ha, hc, rfl, hhi, hb⟩
      have HHI := Lib.hid hhi
      clear hhi
      have HGI := Lib.hid (HGI.out.below hb)
      have HSx6 : Hid ((fun u => LiS w bt (.slice va m vc) ns a2 u) x6) := HSx5.out.call hb
      clear hb
      refine hK.out _ _ (HSx6.out) (fun _ => ?_)
      clear hK K
      (try simp only [Act.put, List.setIfInBounds_toArray, List.set_cons_zero, List.set_cons_succ])
      refine wpAnyH_ready (rs := [25]) (by kernel_rfl) (by simp) ?_
      refine AllReadyH.cons (o := ⟨some 85, _, _, _, _, _⟩) rfl (fun K hK => ?_) AllReadyH.nil
      go_simp
      refine (HSM.out _ _ V x6 HGI.out HHI.out).mono ?_
      rintro e x7 ⟨rfl, hb⟩
      have HSx7 : Hid ((fun u => LiS w bt (.slice va m vc) ns a2 u) x7) := HSx6.out.call hb
      clear hb
      refine hK.out _ _ (HSx7.out) (fun _ => ?_)
      clear hK K
      (try simp only [Act.put, List.setIfInBounds_toArray, List.set_cons_zero, List.set_cons_succ])
      refine wpAnyH_take (i := 26) (oi := ⟨some 86, _, _, _, _, _⟩) (v := .bool true) rfl (by kernel_rfl) (by kernel_rfl) (by kernel_rfl) (fun _ _ _ h => h) (Or.inl ⟨by rfl, fun wz hz => ?_⟩) HSx7.out ?_
      · clear hz; go_simp; first | done | with_reducible rfl | rfl
      (try simp only [Act.put, List.setIfInBounds_toArray, List.set_cons_zero, List.set_cons_succ])
      refine wpAnyH_take (i := 27) (oi := ⟨some 87, _, _, _, _, _⟩) (v := .bool true) rfl (by kernel_rfl) (by kernel_rfl) (by kernel_rfl) (fun _ _ _ h => h) (Or.inl ⟨by rfl, fun wz hz => ?_⟩) HSx7.out ?_
      · clear hz; go_simp; first | done | with_reducible rfl | rfl
      (try simp only [Act.put, List.setIfInBounds_toArray, List.set_cons_zero, List.set_cons_succ])
      refine held_load (oi := ⟨some 88, _, _, _, _, _⟩) 28 rfl (by kernel_rfl) (by kernel_rfl) (by kernel_rfl) (fun _ _ _ _ h => h) rfl 42 (.tmp 6) rfl w.heap.size (0) rfl X.toList _ (fun u' hu => HXR.out u' hu) Try.underlying42 rfl (hiXl) HSx7.out ?_
      (try simp only [Act.put, List.setIfInBounds_toArray, List.set_cons_zero, List.set_cons_succ])
      refine wpAnyH_take (i := 29) (oi := ⟨some 89, _, _, _, _, _⟩) (v := .int .i64 a3) rfl (by kernel_rfl) (by kernel_rfl) (by kernel_rfl) (fun _ _ _ h => h) (Or.inl ⟨by rfl, fun wz hz => ?_⟩) HSx7.out ?_
      · clear hz; go_simp; first | done | with_reducible rfl | rfl
      (try simp only [Act.put, List.setIfInBounds_toArray, List.set_cons_zero, List.set_cons_succ])
      refine held_load (oi := ⟨some 91, _, _, _, _, _⟩) 31 rfl (by kernel_rfl) (by kernel_rfl) (by kernel_rfl) (fun _ _ _ _ h => h) rfl 42 (.tmp 6) rfl w.heap.size (0) rfl X.toList _ (fun u' hu => HXR.out u' hu) Try.underlying42 rfl (hiXl) HSx7.out ?_
      (try simp only [Act.put, List.setIfInBounds_toArray, List.set_cons_zero, List.set_cons_succ])
      refine wpAnyH_take (i := 32) (oi := ⟨some 92, _, _, _, _, _⟩) (v := .int .i64 a3) rfl (by kernel_rfl) (by kernel_rfl) (by kernel_rfl) (fun _ _ _ h => h) (Or.inl ⟨by rfl, fun wz hz => ?_⟩) HSx7.out ?_
      · clear hz; go_simp; first | done | with_reducible rfl | rfl
      (try simp only [Act.put, List.setIfInBounds_toArray, List.set_cons_zero, List.set_cons_succ])
      refine wpAnyH_ready (rs := [30]) (by kernel_rfl) (by simp) ?_
      refine AllReadyH.cons (o := ⟨some 90, _, _, _, _, _⟩) rfl (fun K hK => ?_) AllReadyH.nil
      go_simp
      refine (HNC.out x7).mono ?_
      rintro e x8 ⟨v1, rfl, hn1, _, _, hb⟩
      obtain ⟨na, nc, rfl, _⟩ := hn1.shape
      have HN1 := Lib.hid hn1
      clear hn1
      have HSx8 : Hid ((fun u => LiS w bt (.slice va m vc) ns a2 u) x8) := HSx7.out.call hb
      clear hb
      refine hK.out _ _ (HSx8.out) (fun _ => ?_)
      clear hK K
      (try simp only [Act.put, List.setIfInBounds_toArray, List.set_cons_zero, List.set_cons_succ])
      refine wpAnyH_ready (rs := [33]) (by kernel_rfl) (by simp) ?_
      refine AllReadyH.cons (o := ⟨some 93, _, _, _, _, _⟩) rfl (fun K hK => ?_) AllReadyH.nil
      go_simp
      refine (HNR.out x8).mono ?_
      rintro e x9 ⟨v2, rfl, hn2, _, _, hb⟩
      obtain ⟨oa, oc, rfl, _⟩ := hn2.shape
      have HN2 := Lib.hid hn2
      clear hn2
      have HN1 := Lib.hid (HN1.out.call hb)
      have HSx9 : Hid ((fun u => LiS w bt (.slice va m vc) ns a2 u) x9) := HSx8.out.call hb
      clear hb
      refine hK.out _ _ (HSx9.out) (fun _ => ?_)
      clear hK K
      (try simp only [Act.put, List.setIfInBounds_toArray, List.set_cons_zero, List.set_cons_succ])
      refine wpAnyH_ready (rs := [34]) (by kernel_rfl) (by simp) ?_
      refine AllReadyH.cons (o := ⟨some 94, _, _, _, _, _⟩) rfl (fun K hK => ?_) AllReadyH.nil
      go_simp
      refine (HSAME.out _ _ _ x9 HN1.out HN2.out).mono ?_
      rintro e x10 ⟨rfl, hb⟩
      have HSx10 : Hid ((fun u => LiS w bt (.slice va m vc) ns a2 u) x10) := HSx9.out.call hb
      clear hb
      refine hK.out _ _ (HSx10.out) (fun _ => ?_)
      clear hK K
      (try simp only [Act.put, List.setIfInBounds_toArray, List.set_cons_zero, List.set_cons_succ])
      refine wpAnyH_take (i := 35) (oi := ⟨some 95, _, _, _, _, _⟩) (v := .bool true) rfl (by kernel_rfl) (by kernel_rfl) (by kernel_rfl) (fun _ _ _ h => h) (Or.inl ⟨by rfl, fun wz hz => ?_⟩) HSx10.out ?_
      · clear hz; go_simp; first | done | with_reducible rfl | rfl
      (try simp only [Act.put, List.setIfInBounds_toArray, List.set_cons_zero, List.set_cons_succ])
      refine wpAnyH_take (i := 36) (oi := ⟨some 96, _, _, _, _, _⟩) (v := .bool true) rfl (by kernel_rfl) (by kernel_rfl) (by kernel_rfl) (fun _ _ _ h => h) (Or.inl ⟨by rfl, fun wz hz => ?_⟩) HSx10.out ?_
      · clear hz; go_simp; first | done | with_reducible rfl | rfl
      (try simp only [Act.put, List.setIfInBounds_toArray, List.set_cons_zero, List.set_cons_succ])
      refine wpAnyH_ready (rs := [37]) (by kernel_rfl) (by simp) ?_
      refine AllReadyH.cons (o := ⟨some 97, _, _, _, _, _⟩) rfl (fun K hK => ?_) AllReadyH.nil
      go_simp
      refine (HAW.out x10).mono ?_
      rintro e x11 ⟨rfl, hb⟩
      have HSx11 : Hid ((fun u => LiS w bt (.slice va m vc) ns a2 u) x11) := HSx10.out.call hb
      clear hb
      refine hK.out _ _ (HSx11.out) (fun _ => ?_)
      clear hK K
      (try simp only [Act.put, List.setIfInBounds_toArray, List.set_cons_zero, List.set_cons_succ])
      refine wpAnyH_take (i := 38) (oi := ⟨some 98, _, _, _, _, _⟩) (v := .bool true) rfl (by kernel_rfl) (by kernel_rfl) (by kernel_rfl) (fun _ _ _ h => h) (Or.inl ⟨by rfl, fun wz hz => ?_⟩) HSx11.out ?_
      · clear hz; go_simp; first | done | with_reducible rfl | rfl
      (try simp only [Act.put, List.setIfInBounds_toArray, List.set_cons_zero, List.set_cons_succ])
      refine wpAnyH_ready (rs := [39]) (by kernel_rfl) (by simp) ?_
      refine AllReadyH.cons (o := ⟨some 8, _, _, _, _, _⟩) rfl (fun K hK => ?_) AllReadyH.nil
      go_simp
      refine hK.out _ _ (HSx11.out) (fun _ => ?_)
      clear hK K
      (try simp only [Act.put, List.setIfInBounds_toArray, List.set_cons_zero, List.set_cons_succ])
      refine wpAnyH_done (by kernel_rfl) ?_ _
      go_wp2_with fail
      go_ret
      exact ⟨rfl, HSx11.out.v.b⟩
end

end Go.Proofs.Ytgdlkkeiijhecaa
