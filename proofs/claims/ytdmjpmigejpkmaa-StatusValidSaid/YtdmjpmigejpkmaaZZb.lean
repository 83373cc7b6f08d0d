/- Several texts as one: L16v. -/
import Derived.Test.YtdmjpmigejpkmaaZ8
import Derived.Test.YtdmjpmigejpkmaaZ9
import Derived.Test.YtdmjpmigejpkmaaHeld4
import Derived.Test.YtdmjpmigejpkmaaZ5
namespace Go.Proofs.Ytdmjpmigejpkmaa

/-! L16v -/
section
set_option linter.unusedVariables false
set_option linter.unusedSimpArgs false
open Go.RowKit

set_option maxRecDepth 100000

set_option maxHeartbeats 32000000 in
theorem walk_StatusValid (a0 : Option Addr) (len0 cap0 : Nat) (z0 : List Int) (a1 a2 : Int) (w : World) (w0 : IsRow .i64 w a0 len0 cap0 z0) (w1 : (Lit.int .i64 a1).wf = true) (w2 : (Lit.int .i64 a2).wf = true) :
    Calls Try.prog 3 #[.slice a0 len0 cap0, .int .i64 a1, .int .i64 a2] w fun e w' => e = .returned (.bool true) ∧ Below w.heap.size w w' := by
  have HTR := Lib.hid (fun u (hu : Below w.heap.size w u) => tree_any (.slice a0 len0 cap0) _ u ((rowInts w0).below hu))
  have HAW := Lib.hid awake16_any
  obtain ⟨K2, hK2, hA2⟩ : ∃ m : Nat, m < 65536 ∧ bits .and .i64 a1 65535 = m := and_nat 16 (by omega) a1
  obtain ⟨N3, hN3, hA4⟩ : ∃ m : Nat, m < 8 ∧ bits .and .i64 a2 7 = m := and_nat 3 (by omega) a2
  have hi1 : (Try.prog.info? 25).map (·.size) = some 1 := by kernel_rfl
  have hiI : (Try.prog.info? 3).map (·.size) = some 1 := by kernel_rfl
  obtain ⟨hz1, hst1⟩ := zero_array (P := Try.prog) (t := 25) (n := 1) #[.slice none 0 0] (by kernel_rfl) rfl (by kernel_rfl)
  have hne0 : ((0 : Int) != 0) = false := by simp
  clear w0 w1 w2 hst1
  go_enter Try.func3, Try.ntmps3
  go_upto_region 4 with (first
    | (go_at_call 9; refine (HTR.out _ (Below.refl _ _)).mono ?_; rintro e w1 ⟨v1, ns, rfl, hn1, hc1, hok, hl9, hb1⟩; obtain ⟨va, vc, rfl, _⟩ := hn1.shape; have HN1 := Lib.hid hn1; have HOK := Lib.hid hok; have HL9 := Lib.hid hl9; have HB1 := Lib.hid hb1; have HVZ : Hid (∀ u, NodesV u (.slice va ns.length vc) ns → Calls Try.prog 10 #[.agg #[.slice va ns.length vc]] u fun e w' => e = .returned (.int .i64 0) ∧ Below u.heap.size u w') := (fun u hu => by have h := cclo_any (.slice va ns.length vc) ns u hu hc1; rw [clo_ok hok (by omega)] at h; exact h); clear hn1 hc1 hok hl9 hb1)
    | ((with_reducible refine at_store (.tmp 7) ?_); refine wpList_store_blk rfl 25 (.tmp 7) _ rfl w1.heap.size #[.slice va ns.length vc] rfl rfl #[.slice none 0 0] (Blk.new rfl) rfl hi1 (by simp [Value.oneCell']) ?_; intro w2 U2 B2; have hb2 := U2.below ((Below.refl w1.heap.size w1).alloc (Nat.le_refl _) (.cells #[.slice none 0 0] 25)) (Nat.le_refl _); have S2 : Hid (TvS w w1.heap.size (.slice va ns.length vc) ns w2) := ⟨B2, HN1.out.call hb2, HB1.out.trans (hb2.mono HB1.out.size)⟩; clear U2 B2 hb2)
    | ((with_reducible refine at_load (.tmp 7) ?_); refine wpList_load_g 25 (.tmp 7) rfl w1.heap.size rfl #[.slice va ns.length vc] _ S2.out.t Try.underlying25 rfl hi1 rfl ?_)
    | (go_at_call 10; refine (HVZ.out _ S2.out.n).mono ?_; rintro e w3 ⟨rfl, hb3⟩; have S3 := Lib.hid (S2.out.call hb3); clear hb3))
  have HG1 : Hid (w.heap.size ≤ w1.heap.size) := HB1.out.size
  obtain ⟨bt, hbt⟩ : ∃ x, w1.heap.size = x := ⟨_, rfl⟩
  obtain ⟨Ys, hAY, hrow⟩ := HN1.out.row
  have HAY := Lib.hid hAY
  have hrow3 := S3.out.n.row
  have HPOS := Lib.hid HOK.out.pos
  clear hrow hAY HAY Ys
  obtain ⟨Ys, hAY, hrow⟩ := hrow3
  have HAY := Lib.hid hAY
  have HRW := Lib.hid hrow
  rw [hbt] at S3 HG1 ⊢
  obtain ⟨m, hm⟩ : ∃ m, Hid (ns.length = m) := ⟨_, Lib.hid rfl⟩
  rw [hm.out] at S3 HL9 HPOS HRW ⊢
  have hm9 : m ≤ 9 := HL9.out
  have hm1 : 1 ≤ m := HPOS.out
  clear hbt HN1 HB1 S2 HVZ hAY hrow
  (try simp only [Act.put])
  go_upto_region 5 with (first
    | ((with_reducible refine at_load (.tmp 14) ?_); refine wpList_load_1 23 (.tmp 14) rfl bt 0 (.slice va m vc) (S3.out.t.cell 0) rfl _ Try.underlying23 rfl rfl ?_)
    | ((with_reducible refine at_app (.const (.slice none 0 0)) (.tmp 15) ?_); refine wpList_appElsN ndOK Try.underlying23 info_node (by rfl) (by omega) (.const (.slice none 0 0)) (.tmp 15) rfl rfl w.heap.size (.slice none 0 0) [] rfl (OwnEl.nil _ _) va m vc ns Ys rfl hm.out (by rcases HRW.out with h | ⟨b, off, e, _, hr⟩; exact .inl (by rw [hm.out]; exact h); exact .inr ⟨b, off, e, hr⟩) (HAY.out _ _) (by simp [hm.out]; omega) (by simp [hm.out]; unfold maxLen; omega) S3.out.b.size ?_; intro v4 w4 h4 g4 o4; rw [List.nil_append] at h4; have H4 := Lib.hid h4; have HB4 : Hid (Below w.heap.size w w4) := S3.out.b.grown g4 S3.out.b.size (fun k hk => by cases hk); have hsh := h4.shape; obtain ⟨ga, gc, rfl, _, hgc, _⟩ := hsh; rw [hm.out] at H4 hgc ⊢; have HGC := Lib.hid hgc; clear h4 g4 o4 hgc)
    | ((with_reducible refine at_build (some 17) ?_); refine wpList_build_g 25 _ rfl #[(0, .slice ga m gc)] (by simp [Act.eval, Act.put]) (.agg #[.slice ga m gc]) (b_tree _ _ _ _) rfl ?_)
    | ((with_reducible refine at_store (.tmp 8) ?_); refine wpList_store_blk rfl 25 (.tmp 8) _ rfl w4.heap.size #[.slice ga m gc] rfl rfl #[.slice none 0 0] (Blk.new rfl) rfl hi1 (by simp [Value.oneCell']) ?_; intro w5 U5 B5; have hb5 := U5.below ((Below.refl w4.heap.size w4).alloc (Nat.le_refl _) (.cells #[.slice none 0 0] 25)) (Nat.le_refl _); have HB5 := Lib.hid B5; have H5 := Lib.hid (H4.out.call ndOK hb5); have HL5 := Lib.hid (HB4.out.trans (hb5.mono HB4.out.size)); clear U5 B5 hb5))
  obtain ⟨g, rfl⟩ : ∃ g, ga = some ⟨g, 0, none⟩ := by
    obtain ⟨Xs, h1, _⟩ := H4.out
    rcases h1.2 with ⟨e, _⟩ | ⟨g, cap, cur, e, _⟩
    · injection e with e1 e2 e3; omega
    · injection e with e1 e2 e3; exact ⟨g, e1⟩
  have hrb := H5.out.rowB ndOK (enc := NdD.cells) (fun h => h.1)
  have hgl := (H4.out.lt g rfl)
  have S5 : Hid (SpS w w4.heap.size g m gc ns w5) := ⟨HB5.out, hrb.1, (by obtain ⟨h1, h2, _⟩ := H5.out.elV ndOK; exact NodesV.oks (v := .slice (some ⟨g, 0, none⟩) m gc) (H5.out.elV ndOK)), HL5.out, ⟨hm.out.symm, hm1, hm9, HGC.out⟩, ⟨hgl.1, HB4.out.size, by omega⟩⟩
  obtain ⟨bu, hbu⟩ : ∃ x, w4.heap.size = x := ⟨_, rfl⟩
  rw [hbu] at S5 ⊢
  obtain ⟨j, hj⟩ : ∃ j, K2 % m = j := ⟨_, rfl⟩
  have hjm : j < m := by rw [← hj]; exact Nat.mod_lt _ (by omega)
  have hjm' : (j : Int) < (m : Int) := by omega
  have hm0 : ((m : Int) == 0) = false := beq_false_of_ne (by omega)
  have hm0' : ¬ (m : Int) = 0 := by omega
  have hm0n : ¬ m = 0 := by omega
  have hrem : Int.tmod (K2 : Int) (m : Int) = (j : Int) := by rw [Int.tmod_eq_emod_of_nonneg (by omega), ← hj]; rfl
  have HJN : Hid (j < ns.length) := by show j < ns.length; rw [hm.out]; exact hjm
  clear hrb hgl hbu hj H4 H5 HB4 HB5 HL5
  (try simp only [Act.put])
  obtain ⟨D, E, hB, hoff, hput⟩ := S5.out.st HJN.out
  obtain ⟨ov, hov⟩ : ∃ z, (ns[j]'(HJN.out)).st = z := ⟨_, rfl⟩
  rw [hov] at hB hoff
  have HOF := Lib.hid hoff
  have HBX : Hid (∀ u, Below w5.heap.size w5 u → Blk u g (flatP [D, [.int .i64 ov], E])) := fun u hu => hB.call hu
  have HGB : Hid (bu ≠ g) := S5.out.lt.2.2
  clear hov hB hoff
  have SD : Hid (Blk w5.drew bu #[.slice (some ⟨g, 0, none⟩) m gc] ∧ Blk w5.drew g (flatP [D, [.int .i64 ov], E])) := ⟨Blk.call (Below.drewN (n := 1) (Below.refl _ _) : Below w5.heap.size w5 w5.drew) S5.out.t, HBX.out _ (Below.drewN (n := 1) (Below.refl _ _) : Below w5.heap.size w5 w5.drew)⟩
  have hwn : IntKind.i64.wrap ((N3 : Int) - 1) = (N3 : Int) - 1 := by rw [IntKind.wrap_i64]; omega
  have HPUT : Hid (∀ (V : Int) u' (hV : -9223372036854775808 ≤ V ∧ V ≤ 9223372036854775807), Upd g w5.drew u' → Blk u' g (flatP [D, [Value.int .i64 V], E]) → SpR w bu u') := fun V u' hV U hB => hput V u' hV ⟨U.os, U.tape, U.output, U.size, U.block⟩ hB
  clear hput HBX
  have C0 : Hid (w5.drew.cell? ⟨bu, 0, none⟩ = some (.slice (some ⟨g, 0, none⟩) m gc)) := SD.out.1.cell 0
  refine wp_region_held_drew (S := fun u => u.cell? ⟨bu, 0, none⟩ = some (.slice (some ⟨g, 0, none⟩) m gc)) (by kernel_rfl) (C0.out) (fun _ => ?_)
  (try simp only [Act.put, List.setIfInBounds_toArray, List.set_cons_zero, List.set_cons_succ])
  refine wpAnyH_take (i := 0) (oi := ⟨some 18, _, _, _, _, _⟩) (v := .pointer (some ⟨bu, 0, none⟩)) rfl (by kernel_rfl) (by kernel_rfl) (by kernel_rfl) (fun _ _ _ h => h) (Or.inl ⟨by rfl, fun wz hz => ?_⟩) C0.out ?_
  · clear hz; go_simp; first | done | with_reducible rfl | rfl
  (try simp only [Act.put, List.setIfInBounds_toArray, List.set_cons_zero, List.set_cons_succ])
  refine held_load1 (oi := ⟨some 19, _, _, _, _, _⟩) 1 rfl (by kernel_rfl) (by kernel_rfl) (by kernel_rfl) (fun _ _ _ _ h => h) rfl 23 (.tmp 18) rfl bu (0) rfl (.slice (some ⟨g, 0, none⟩) m gc) _ (fun u' hu => hu) Try.underlying23 rfl C0.out ?_
  (try simp only [Act.put, List.setIfInBounds_toArray, List.set_cons_zero, List.set_cons_succ])
  refine wpAnyH_take (i := 2) (oi := ⟨some 20, _, _, _, _, _⟩) (v := .int .i64 a1) rfl (by kernel_rfl) (by kernel_rfl) (by kernel_rfl) (fun _ _ _ h => h) (Or.inl ⟨by rfl, fun wz hz => ?_⟩) C0.out ?_
  · clear hz; go_simp; first | done | with_reducible rfl | rfl
  (try simp only [Act.put, List.setIfInBounds_toArray, List.set_cons_zero, List.set_cons_succ])
  refine wpAnyH_take (i := 3) (oi := ⟨some 21, _, _, _, _, _⟩) (v := .int .i64 (K2 : Int)) rfl (by kernel_rfl) (by kernel_rfl) (by kernel_rfl) (fun _ _ _ h => h) (Or.inl ⟨by rfl, fun wz hz => ?_⟩) C0.out ?_
  · clear hz; go_simp; first | done | with_reducible rfl | rfl
  (try simp only [Act.put, List.setIfInBounds_toArray, List.set_cons_zero, List.set_cons_succ])
  refine wpAnyH_take (i := 4) (oi := ⟨some 22, _, _, _, _, _⟩) (v := .pointer (some ⟨bu, 0, none⟩)) rfl (by kernel_rfl) (by kernel_rfl) (by kernel_rfl) (fun _ _ _ h => h) (Or.inl ⟨by rfl, fun wz hz => ?_⟩) C0.out ?_
  · clear hz; go_simp; first | done | with_reducible rfl | rfl
  (try simp only [Act.put, List.setIfInBounds_toArray, List.set_cons_zero, List.set_cons_succ])
  refine held_load1 (oi := ⟨some 23, _, _, _, _, _⟩) 5 rfl (by kernel_rfl) (by kernel_rfl) (by kernel_rfl) (fun _ _ _ _ h => h) rfl 23 (.tmp 22) rfl bu (0) rfl (.slice (some ⟨g, 0, none⟩) m gc) _ (fun u' hu => hu) Try.underlying23 rfl C0.out ?_
  (try simp only [Act.put, List.setIfInBounds_toArray, List.set_cons_zero, List.set_cons_succ])
  refine wpAnyH_take (i := 6) (oi := ⟨some 24, _, _, _, _, _⟩) (v := .int .i64 (m : Int)) rfl (by kernel_rfl) (by kernel_rfl) (by kernel_rfl) (fun _ _ _ h => h) (Or.inl ⟨by rfl, fun wz hz => ?_⟩) C0.out ?_
  · clear hz; go_simp; first | done | with_reducible rfl | rfl
  (try simp only [Act.put, List.setIfInBounds_toArray, List.set_cons_zero, List.set_cons_succ])
  refine wpAnyH_take (i := 7) (oi := ⟨some 25, _, _, _, _, _⟩) (v := .int .i64 (j : Int)) rfl (by kernel_rfl) (by kernel_rfl) (by kernel_rfl) (fun _ _ _ h => h) (Or.inl ⟨by rfl, fun wz hz => ?_⟩) C0.out ?_
  · clear hz; go_simp; first | done | with_reducible rfl | rfl
  (try simp only [Act.put, List.setIfInBounds_toArray, List.set_cons_zero, List.set_cons_succ])
  refine wpAnyH_take (i := 8) (oi := ⟨some 26, _, _, _, _, _⟩) (v := .int .i64 a2) rfl (by kernel_rfl) (by kernel_rfl) (by kernel_rfl) (fun _ _ _ h => h) (Or.inl ⟨by rfl, fun wz hz => ?_⟩) C0.out ?_
  · clear hz; go_simp; first | done | with_reducible rfl | rfl
  (try simp only [Act.put, List.setIfInBounds_toArray, List.set_cons_zero, List.set_cons_succ])
  refine wpAnyH_take (i := 9) (oi := ⟨some 27, _, _, _, _, _⟩) (v := .int .i64 (N3 : Int)) rfl (by kernel_rfl) (by kernel_rfl) (by kernel_rfl) (fun _ _ _ h => h) (Or.inl ⟨by rfl, fun wz hz => ?_⟩) C0.out ?_
  · clear hz; go_simp; first | done | with_reducible rfl | rfl
  (try simp only [Act.put, List.setIfInBounds_toArray, List.set_cons_zero, List.set_cons_succ])
  refine wpAnyH_take (i := 10) (oi := ⟨some 28, _, _, _, _, _⟩) (v := .int .i64 ((N3 : Int) - 1)) rfl (by kernel_rfl) (by kernel_rfl) (by kernel_rfl) (fun _ _ _ h => h) (Or.inl ⟨by rfl, fun wz hz => ?_⟩) C0.out ?_
  · clear hz; go_simp; first | done | with_reducible rfl | rfl
  (try simp only [Act.put, List.setIfInBounds_toArray, List.set_cons_zero, List.set_cons_succ])
  refine wpAnyH_take (i := 11) (oi := ⟨some 29, _, _, _, _, _⟩) (v := .pointer (some ⟨g, j * 240, none⟩)) rfl (by kernel_rfl) (by kernel_rfl) (by kernel_rfl) (fun _ _ _ h => h) (Or.inl ⟨by rfl, fun wz hz => ?_⟩) C0.out ?_
  · clear hz; go_simp; first | done | with_reducible rfl | rfl
  (try simp only [Act.put, List.setIfInBounds_toArray, List.set_cons_zero, List.set_cons_succ])
  refine wpAnyH_take (i := 12) (oi := ⟨some 30, _, _, _, _, _⟩) (v := .pointer (some ⟨g, j * 240 + 239, none⟩)) rfl (by kernel_rfl) (by kernel_rfl) (by kernel_rfl) (fun _ _ _ h => h) (Or.inl ⟨by rfl, fun wz hz => ?_⟩) C0.out ?_
  · clear hz; go_simp; first | done | with_reducible rfl | rfl
  (try simp only [Act.put, List.setIfInBounds_toArray, List.set_cons_zero, List.set_cons_succ])
  refine wpAnyH_ready (rs := [13]) (by kernel_rfl) (by simp) ?_
  refine AllReadyH.cons (o := ⟨none, _, _, _, _, _⟩) rfl (fun K hK => ?_) AllReadyH.nil
  rw [if_pos (by rfl)]
  refine wp_store_part1B 3 (.tmp 30) (.tmp 28) rfl g [D, [.int .i64 ov], E] 1 (.int .i64 ov) (.int .i64 ((N3 : Int) - 1)) SD.out.2 rfl (by rw [HOF.out]; rfl) rfl hiI rfl rfl ?_
  intro w7 U7 B7
  have R7 := Lib.hid (HPUT.out ((N3 : Int) - 1) w7 (by omega) U7 B7)
  have C7 : Hid (w7.cell? ⟨bu, 0, none⟩ = some (.slice (some ⟨g, 0, none⟩) m gc)) := (U7.blk SD.out.1 HGB.out).cell 0
  clear U7 B7
  refine hK.out _ _ (C7.out) (fun _ => ?_)
  clear hK K
  (try simp only [Act.put, List.setIfInBounds_toArray, List.set_cons_zero, List.set_cons_succ])
  refine wpAnyH_done (by kernel_rfl) ?_ _
  go_upto_region 6 with fail
  obtain ⟨va, n7, c7, ns7, hb7, hn7, hc7, hl7⟩ := R7.out
  have HT7 := Lib.hid hb7
  have HL7 := Lib.hid hl7
  have HC := Lib.hid (fun u (hu : Below w7.heap.size w7 u) => cclo_any _ ns7 u (hn7.call hu) (fun a n c e => by cases e; exact hc7))
  have HR := Lib.hid (fun u (hu : Below w7.heap.size w7 u) => clo_any _ ns7 u (hn7.call hu) (fun a n c e => by cases e; exact hc7))
  obtain ⟨q, hq⟩ : ∃ q, cloN ns7 = q := ⟨_, rfl⟩
  rw [hq] at HC HR
  have hqq : (q == q) = true := by simp
  clear hb7 hn7 hc7 hl7 hq
  refine wp_region_fam2 (by kernel_rfl) (by kernel_rfl) ?_
  intro T F hT hF hG
  have CT := Lib.hid (show ∀ u, (∃ t, u = F t) → Blk u bu #[.slice va n7 c7] by rintro _ ⟨t, rfl⟩; exact HT7.out.call (hF t))
  repeat (first
    | ((with_reducible refine at_qload (.tmp 8) ?_); refine wpQuiet_load 25 _ rfl bu rfl #[.slice va n7 c7] CT.out Try.underlying25 rfl hi1 (by kernel_rfl) ?_; simp only [Act.put, List.setIfInBounds_toArray, List.set_cons_succ, List.set_cons_zero])
    | (go_big_quiet_step ((first
        | (go_at_call 10; exact fam_call hF hG (Nat.le_refl _) (HC.out _ (hF _)))
        | (go_at_call 11; exact fam_call hF hG (Nat.le_refl _) (HR.out _ (hF _)))
        | (go_at_call 12; exact fam_call hF hG (Nat.le_refl _) (HAW.out _))))))
  refine wpQuiet_nil ?_
  rintro _ ⟨t, rfl⟩
  have HB9 := Lib.hid (HL7.out.trans ((hF t).mono HL7.out.size))
  go_wp2_with fail
  go_ret
  exact ⟨rfl, HB9.out⟩
end

end Go.Proofs.Ytdmjpmigejpkmaa
