/- AncestryLater. (Written by gen/l12l-gen.py.) -/
import Derived.Test.YtdbkphkgjaecoaaAnF
set_option linter.unusedVariables false

set_option linter.unusedSimpArgs false
namespace Go.Proofs.Ytdbkphkgjaecoaa
open Go.RowKit

set_option maxRecDepth 100000

set_option maxHeartbeats 32000000 in
theorem walk_AncestryLater (a0 : Option Addr) (len0 cap0 : Nat) (z0 : List Int) (a1 : Int) (a2 : Int) (a3 : Int) (w : World) (w0 : IsRow .i64 w a0 len0 cap0 z0) (w1 : (Lit.int .i64 a1).wf = true) (w2 : (Lit.int .u64 a2).wf = true) (w3 : (Lit.int .u64 a3).wf = true) :
    Calls Try.prog 8 #[.slice a0 len0 cap0, .int .i64 a1, .int .u64 a2, .int .u64 a3] w fun e w' => e = .returned (.bool true) ∧ Below w.heap.size w w' := by
  have HTR := Lib.hid (fun u (hu : Below w.heap.size w u) => tree_any (.slice a0 len0 cap0) _ u ((rowInts w0).below hu))
  have HAW := Lib.hid awake12_any
  have hi1 : (Try.prog.info? 25).map (·.size) = some 1 := by kernel_rfl
  obtain ⟨hz1, hst1⟩ := zero_array (P := Try.prog) (t := 25) (n := 1) #[.slice none 0 0] (by kernel_rfl) rfl (by kernel_rfl)
  clear w0 hst1
  go_enter Try.func8, Try.ntmps8
  go_upto_region 2 with (first
    | (go_at_call 9; refine (HTR.out _ (Below.refl _ _)).mono ?_; rintro e w1 ⟨v1, ns, rfl, hn1, hc1, hok, hl9, hb1⟩; obtain ⟨va, vc, rfl, _⟩ := hn1.shape; have HN1 := Lib.hid hn1; have HOK := Lib.hid hok; have HL9 := Lib.hid hl9; have HB1 := Lib.hid hb1; clear hn1 hc1 hok hl9 hb1)
    | ((with_reducible refine at_store (.tmp 9) ?_); refine wpList_store_blk rfl 25 (.tmp 9) _ rfl w1.heap.size #[.slice va ns.length vc] rfl rfl #[.slice none 0 0] (Blk.new rfl) rfl hi1 (by simp [Value.oneCell']) ?_; intro w2 U2 B2; have hb2 := U2.below ((Below.refl w1.heap.size w1).alloc (Nat.le_refl _) (.cells #[.slice none 0 0] 25)) (Nat.le_refl _); have S2 : Hid (AnS w w1.heap.size (.slice va ns.length vc) ns w2) := ⟨B2, HN1.out.call hb2, HB1.out.trans (hb2.mono HB1.out.size)⟩; clear U2 B2 hb2))
  obtain ⟨bt, hbt⟩ : ∃ x, w1.heap.size = x := ⟨_, rfl⟩
  rw [hbt] at S2 ⊢
  have hnl : ns.length ≤ 100000 := by have := HL9.out; omega
  have HNL := Lib.hid hnl
  have HMP : Hid (0 < ns.length) := HOK.out.pos
  have HIA := Lib.hid (fun (x y : Int) u (hu : AnS w bt (.slice va ns.length vc) ns u) => anis_any ns HOK.out x y (.slice va ns.length vc) u hu.n)
  have HHE := Lib.hid (fun (x y : Int) u (hu : AnS w bt (.slice va ns.length vc) ns u) => anhe_any ns HOK.out x y (.slice va ns.length vc) u hu.n)
  have HAT := Lib.hid (fun (x s : Int) u (hu : AnS w bt (.slice va ns.length vc) ns u) => anat_any ns HOK.out x s (.slice va ns.length vc) u hu.n)
  have HMP2 : Hid (0 < ns.length) := HOK.out.pos
  obtain ⟨m, hm⟩ : ∃ m, Hid (ns.length = m) := ⟨_, Lib.hid rfl⟩
  rw [hm.out] at S2 HL9 HMP HIA HHE HAT ⊢
  have hm9 : m ≤ 9 := HL9.out
  have hm1 : 0 < m := HMP.out
  clear hbt HN1 HB1 hnl
  (try simp only [Act.put])
  obtain ⟨P, hlP, hP⟩ := i64_and16_nat a1
  obtain ⟨p, hp⟩ : ∃ x, P % m = x := ⟨_, rfl⟩
  have hrp : Int.tmod (P : Int) (m : Int) = (p : Int) := by rw [tmod_nat, hp]
  have hmp : p < m := by rw [← hp]; exact Nat.mod_lt _ hm1
  clear hp
  have hpn : p < ns.length := by rw [hm.out]; exact hmp
  have hpm : (p : Int) < m := by omega
  have hm0 : ((m : Int) == 0) = false := by simp; omega
  have hm0' : ¬ (m : Int) = 0 := by omega
  obtain ⟨s, hs31, hs⟩ := u64_and31_nat a2
  obtain ⟨e, he31, he⟩ := u64_and31_nat a3
  have HSP := Lib.hid (at_spec HOK.out (s : Int) p hpn)
  have HSB := Lib.hid (at_spec HOK.out ((s : Int) + (e : Int)) p hpn)
  obtain ⟨af, haf⟩ : ∃ f : Int → Int, (fun s => atP ns (p : Int) s) = f := ⟨_, rfl⟩
  have HAF : Hid (∀ s, atP ns (p : Int) s = af s) := fun s => by rw [← haf]
  have H1 : Hid (∀ (s : Int) u, AnS w bt (.slice va m vc) ns u → Calls Try.prog 20 #[.agg #[.slice va m vc], .int .i64 (p : Int), .int .u64 s] u fun e w' => e = .returned (.int .i64 (af s)) ∧ Below u.heap.size u w') := fun s u hu => by
    have h := HAT.out (p : Int) s u hu
    rw [HAF.out s] at h
    exact h
  rw [HAF.out] at HSP HSB
  clear haf HAT
  go_upto_region 4 with (first
    | ((with_reducible refine at_load (.tmp 17) ?_); refine wpList_load_1 23 (.tmp 17) rfl bt 0 (.slice va m vc) (S2.out.t.cell 0) rfl _ Try.underlying23 rfl rfl ?_))
  refine wp_region_fam2 (by kernel_rfl) (by kernel_rfl) ?_
  intro T F hT hF hG
  have c0 : ∀ t, (F t).cell? ⟨bt, 0, none⟩ = some (.slice va m vc) := fun t => (S2.out.call (hF t)).t.cell 0
  have CT := Lib.hid (show ∀ u, (∃ t, u = F t) → Blk u bt #[.slice va m vc] by rintro _ ⟨t, rfl⟩; exact (S2.out.call (hF t)).t)
  repeat (first
    | ((with_reducible refine at_qload (.tmp 9) ?_); refine wpQuiet_load 25 _ rfl bt rfl #[.slice va m vc] CT.out Try.underlying25 rfl hi1 (by kernel_rfl) ?_; simp only [Act.put, List.setIfInBounds_toArray, List.set_cons_succ, List.set_cons_zero])
    | (go_big_quiet_step ((go_at_call 20; exact fam_call hF hG (Nat.le_refl _) (H1.out _ (F _) (S2.out.call (hF _)))))))
  refine wpQuiet_nil ?_
  rintro _ ⟨t, rfl⟩
  have S3 := Lib.hid (S2.out.call (hF t))
  obtain ⟨uS3, hu⟩ : ∃ z, F t = z := ⟨_, rfl⟩
  rw [hu] at S3 ⊢
  clear c0 CT hG hu hF hT
  clear t F T
  obtain ⟨x, hx⟩ : ∃ x, af (s : Int) = x := ⟨_, rfl⟩
  have hse : af ((s : Int) + (e : Int)) = af ((s : Int) + (e : Int)) := rfl
  obtain ⟨y, hy⟩ : ∃ y, af ((s : Int) + (e : Int)) = y := ⟨_, rfl⟩
  clear hse
  rw [hx] at HSP ⊢
  rw [hy] at HSB ⊢
  clear hx hy
  have S := S3
  clear S2 S3
  rcases HSP.out with ⟨hx1, hx2⟩ | ⟨j, hj, hx1, hx2, hx3, hx4⟩
  · subst hx1
    obtain ⟨b, off, rfl, hlm, hbb, hna, _⟩ := S.out.n.elem (i := 0) HMP2.out
    have h0n : 0 < ns.length := HMP2.out
    have hsl : (s : Int) < (ns[0]'h0n).b.slot := hx2 0 h0n (path_root HOK.out p hpn)
    have HSL : Hid (uS3.cell? ⟨b, off + 0 * 240 + 66, none⟩ = some (.int .u64 (ns[0]'h0n).b.slot)) := hna.bk.slot
    obtain ⟨z, hz⟩ : ∃ z, (ns[0]'h0n).b.slot = z := ⟨_, rfl⟩
    rw [hz] at hsl HSL
    have h0m : (0 : Int) < (m : Int) := by omega
    clear hlm hbb hna hx2 hz
    go_wp2_with (first
      | ((with_reducible refine at_load (.tmp 37) ?_); refine wpList_load_1 23 (.tmp 37) rfl bt 0 (.slice (some ⟨b, off, none⟩) m vc) (S.out.t.cell 0) rfl _ Try.underlying23 rfl rfl ?_)
      | ((with_reducible refine at_load (.tmp 41) ?_); refine wpList_load_1 34 (.tmp 41) rfl b (off + 0 * 240 + 66) (.int .u64 z) HSL.out rfl _ Try.underlying34 rfl rfl ?_)
      | (go_at_call 19; refine (HAW.out _).mono ?_; rintro e w9 ⟨rfl, hb⟩; have S9 := Lib.hid (S.out.call hb); clear hb))
    go_ret
    exact ⟨rfl, S9.out.b⟩
  subst hx1
  obtain ⟨i, hi, hy1, hji, hjy⟩ : ∃ i : Nat, ∃ hi : i < ns.length, y = i ∧ j ≤ i ∧ (j : Int) ∈ pathN ns (i : Int) := by
    rcases HSB.out with ⟨h1, h2⟩ | ⟨i, hi, h1, h2, h3, h4⟩
    · have := h2 j hj hx2; omega
    · have hle : j ≤ i := by
        rcases Nat.lt_or_ge i j with h | h
        · have := h4 j hj hx2 h; omega
        · exact h
      exact ⟨i, hi, h1, hle, path_cmp HOK.out p hpn hx2 h2 (by omega)⟩
  subst hy1
  obtain ⟨b, off, rfl, hlm, hbb, hna, _⟩ := S.out.n.elem hj
  have HSL := Lib.hid hna.bk.slot
  obtain ⟨z, hz⟩ : ∃ z, ns[j].b.slot = z := ⟨_, rfl⟩
  rw [hz] at hx3 HSL
  have HA1 := Lib.hid (fun u hu => HIA.out (j : Int) (p : Int) u hu)
  have HA2 := Lib.hid (fun u hu => HIA.out (j : Int) (i : Int) u hu)
  rw [decide_eq_true hx2] at HA1
  rw [decide_eq_true hjy] at HA2
  have hjm : (j : Int) < m := by rw [← hm.out]; omega
  have hj0 : ((j : Int) < 0) = False := eq_false (by omega)
  have hi0 : ((i : Int) < 0) = False := eq_false (by omega)
  have hjm2 : ((m : Int) ≤ (j : Int)) = False := eq_false (by omega)
  have hzs : ((s : Int) < z) = False := eq_false (by omega)
  have hd1 : decide ((m : Int) ≤ (j : Int)) = false := decide_eq_false (by omega)
  have hd2 : decide ((i : Int) < 0) = false := decide_eq_false (by omega)
  have hd3 : decide ((s : Int) < z) = false := decide_eq_false (by omega)
  obtain ⟨h, hh⟩ : ∃ h, Hid (heirN ns (j : Int) (p : Int) = h) := ⟨_, Lib.hid rfl⟩
  have HH := Lib.hid (fun u hu => HHE.out (j : Int) (p : Int) u hu)
  rw [hh.out] at HH
  have HX2 := Lib.hid hx2
  have HX4 := Lib.hid hx4
  have HB := Lib.hid hbb
  clear hlm hna hx2 hx4 hz hjy hbb
  go_upto_region 10 with (first
    | ((with_reducible refine at_load (.tmp 49) ?_); refine wpList_load_1 23 (.tmp 49) rfl bt 0 (.slice (some ⟨b, off, none⟩) m vc) (S.out.t.cell 0) rfl _ Try.underlying23 rfl rfl ?_)
    | ((with_reducible refine at_load (.tmp 58) ?_); refine wpList_load_1 23 (.tmp 58) rfl bt 0 (.slice (some ⟨b, off, none⟩) m vc) (S.out.t.cell 0) rfl _ Try.underlying23 rfl rfl ?_)
    | ((with_reducible refine at_load (.tmp 63) ?_); refine wpList_load_1 34 (.tmp 63) rfl b (off + j * 240 + 66) (.int .u64 z) HSL.out rfl _ Try.underlying34 rfl rfl ?_)
    | ((with_reducible refine at_load (.tmp 9) ?_); refine wpList_load_g 25 (.tmp 9) rfl bt rfl #[.slice (some ⟨b, off, none⟩) m vc] _ S.out.t Try.underlying25 rfl hi1 rfl ?_)
    | (go_at_call 17; refine (HH.out _ S.out).mono ?_; rintro e w8 ⟨rfl, hb⟩; have S := Lib.hid (S.out.call hb); clear hb)
    | (go_at_call 13; have _d := K1; refine (HA2.out _ S.out).mono ?_; rintro e w7 ⟨rfl, hb⟩; have S := Lib.hid (S.out.call hb); clear hb)
    | (go_at_call 13; refine (HA1.out _ S.out).mono ?_; rintro e w6 ⟨rfl, hb⟩; have S := Lib.hid (S.out.call hb); have K1 := True.intro; clear hb))
  (try simp only [Act.put])
  by_cases hjp : j = p
  · have hh1 : h = -1 := by rw [← hh.out, hjp]; exact heirN_self HOK.out (p : Int)
    subst hh1
    have hjb : ((j : Int) == (p : Int)) = true := by simp; omega
    clear hjp
    go_wp2_with (first
      | (go_at_call 19; refine (HAW.out _).mono ?_; rintro e w9 ⟨rfl, hb⟩; have S9 := Lib.hid (S.out.call hb); clear hb))
    go_ret
    exact ⟨rfl, S9.out.b⟩
  · obtain ⟨t, ht, htx, htu, htm⟩ := heir_spec HOK.out p hpn HX2.out (by omega)
    rw [hh.out] at htx
    subst htx
    have hjt : j < t := by have := (up_path HOK.out ht).2.1; rw [htu] at this; omega
    have hts := HX4.out t ht htm hjt
    obtain ⟨b', off', he', hlm, hbb, hna, _⟩ := S.out.n.elem ht
    cases he'
    have HST := Lib.hid hna.bk.slot
    obtain ⟨q, hq⟩ : ∃ q, ns[t].b.slot = q := ⟨_, rfl⟩
    rw [hq] at hts HST
    have ht0 : ((t : Int) < 0) = False := eq_false (by omega)
    have htm1 : (t : Int) < m := by rw [← hm.out]; omega
    have hd4 : decide ((t : Int) < (m : Int)) = true := decide_eq_true htm1
    have hd5 : decide ((s : Int) < q) = true := decide_eq_true hts
    clear hlm hna hq htm htu hjp
    go_wp2_with (first
      | ((with_reducible refine at_load (.tmp 95) ?_); refine wpList_load_1 23 (.tmp 95) rfl bt 0 (.slice (some ⟨b, off, none⟩) m vc) (S.out.t.cell 0) rfl _ Try.underlying23 rfl rfl ?_)
      | ((with_reducible refine at_load (.tmp 100) ?_); refine wpList_load_1 23 (.tmp 100) rfl bt 0 (.slice (some ⟨b, off, none⟩) m vc) (S.out.t.cell 0) rfl _ Try.underlying23 rfl rfl ?_)
      | ((with_reducible refine at_load (.tmp 105) ?_); refine wpList_load_1 34 (.tmp 105) rfl b (off + t * 240 + 66) (.int .u64 q) HST.out rfl _ Try.underlying34 rfl rfl ?_)
      | (go_at_call 19; refine (HAW.out _).mono ?_; rintro e w9 ⟨rfl, hb⟩; have S9 := Lib.hid (S.out.call hb); clear hb))
    go_ret
    exact ⟨rfl, S9.out.b⟩
end Go.Proofs.Ytdbkphkgjaecoaa
