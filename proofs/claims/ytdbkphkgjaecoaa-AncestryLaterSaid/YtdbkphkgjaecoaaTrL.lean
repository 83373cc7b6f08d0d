/- The reference's Common. -/
import Derived.Test.YtdbkphkgjaecoaaTrG
import Derived.Test.YtdbkphkgjaecoaaEvA
import Derived.Deep.CutRange
import Derived.Deep.MidRow
import Derived.Deep.RegionHeld3
set_option linter.unusedVariables false

set_option linter.unusedSimpArgs false
namespace Go.Proofs.Ytdbkphkgjaecoaa
open Go.RowKit

set_option maxRecDepth 100000

/-- Whether a is an ancestor of the first j of l. -/
def allK (ns : List NdD) (l : List Int) (a : Int) : Nat → Bool
  | 0 => true
  | j + 1 => allK ns l a j && decide (a ∈ pathN ns (l.getD j 0))

theorem allK_succ (ns : List NdD) (l : List Int) (a : Int) (j : Nat) : allK ns l a (j + 1) = (allK ns l a j && decide (a ∈ pathN ns (l.getD j 0))) := rfl

def comK (ns : List NdD) (l p : List Int) : Nat → Int
  | 0 => -1
  | k + 1 => if allK ns l (p.getD k 0) l.length then p.getD k 0 else comK ns l p k

theorem comK_yes {ns : List NdD} {l p : List Int} {k : Nat} (h : allK ns l (p.getD k 0) l.length = true) : comK ns l p (k + 1) = p.getD k 0 := by
  show (if allK ns l (p.getD k 0) l.length = true then p.getD k 0 else comK ns l p k) = _
  rw [if_pos h]

theorem comK_no {ns : List NdD} {l p : List Int} {k : Nat} (h : allK ns l (p.getD k 0) l.length = false) : comK ns l p (k + 1) = comK ns l p k := by
  show (if allK ns l (p.getD k 0) l.length = true then p.getD k 0 else comK ns l p k) = _
  rw [if_neg (by rw [h]; simp)]

def comN (ns : List NdD) (l : List Int) : Int :=
  if l.length = 0 then -1 else if 0 ≤ l.getD 0 0 ∧ l.getD 0 0 < ns.length then comK ns l (pathN ns (l.getD 0 0)) (pathN ns (l.getD 0 0)).length else -1

set_option maxHeartbeats 8000000 in
theorem common_any (ns : List NdD) (hok : TrOK ns) (hlen : ns.length ≤ 100000) (l : List Int) (v lv : Value) (w : World) (hN : NodesV w v ns) (hI : IntsV w lv l) :
    Calls Try.prog 23 #[.agg #[v], lv] w fun e w' => e = .returned (.int .i64 (comN ns l)) ∧ Below w.heap.size w w' := by
  obtain ⟨la, m, lc, rfl⟩ := ints_shape' hI.1
  have HIS := Lib.hid (fun i u (hu : Below w.heap.size w u) => isn_any v ns i u (hN.call hu))
  have HPA := Lib.hid (fun i u (hu : Below w.heap.size w u) => path_any ns hok hlen i v u (hN.call hu))
  have HPI := Lib.hid (fun i (u : World) B x (h : OwnK .i64 3 u B x (pathN ns i)) => path_ints hok hlen h)
  have HAN := Lib.hid (fun a b u (hu : Below w.heap.size w u) => isan_any ns hok hlen a b v u (hN.call hu))
  have HI := Lib.hid hI
  have hlm := hI.len
  have hmx := hlm.2
  unfold maxLen at hmx
  have HLN : Hid (l.length = m) := hlm.1
  have S0 := Lib.hid (pas_new w #[v] 25)
  have hi1 : (Try.prog.info? 25).map (·.size) = some 1 := by kernel_rfl
  have hi1' : (Try.prog.info? 25).map (·.size) = some ([v] : List Value).length := by kernel_rfl
  obtain ⟨R, hR⟩ : ∃ R, Hid (comN ns l = R) := ⟨_, Lib.hid rfl⟩
  rw [hR.out]
  clear hN hI hlm hok hlen
  go_enter Try.func23, Try.ntmps23
  by_cases hm0 : m = 0
  · subst hm0
    have HRE : Hid (R = -1) := by show R = -1; rw [← hR.out]; unfold comN; rw [if_pos HLN.out]
    go_wp2_with fail
    refine wp_region_fam2 (by kernel_rfl) (by kernel_rfl) ?_
    intro T F hT hF hG
    repeat (go_big_quiet_step (fail))
    refine wpQuiet_nil ?_
    rintro _ ⟨t, rfl⟩
    have S1 := Lib.hid (S0.out.call (hF t))
    obtain ⟨w4, hw4⟩ : ∃ u, F t = u := ⟨_, rfl⟩
    rw [hw4] at S1 ⊢
    clear hw4 hG hF hT
    clear t F T
    go_wp2_with fail
    go_ret
    exact ⟨by rw [HRE.out]; rfl, S1.out.b⟩
  have hmp : 0 < m := by omega
  have hmz : ((m : Int) == 0) = false := by simp; omega
  have hmp' : (0 : Int) < m := by omega
  obtain ⟨lb, lo, rfl, hlb, hl0⟩ := HI.out.at (k := 0) (by rw [HLN.out]; exact hmp)
  have HRE : Hid (R = if 0 ≤ l.getD 0 0 ∧ l.getD 0 0 < ns.length then comK ns l (pathN ns (l.getD 0 0)) (pathN ns (l.getD 0 0)).length else -1) := by
    show R = _; rw [← hR.out]; unfold comN; rw [if_neg (by rw [HLN.out]; omega)]
  obtain ⟨x0, hx0⟩ : ∃ x, l.getD 0 0 = x := ⟨_, rfl⟩
  rw [hx0] at HRE hl0
  rw [Nat.add_zero] at hl0
  have HL0 := Lib.hid hl0
  have HIX := Lib.hid (fun u hu => HIS.out x0 u hu)
  have HPX := Lib.hid (fun u hu => HPA.out x0 u hu)
  have HPIX := Lib.hid (fun u B x h => HPI.out x0 u B x h)
  obtain ⟨qd, hqd⟩ : ∃ q : Bool, decide (0 ≤ x0 ∧ x0 < (ns.length : Int)) = q := ⟨_, rfl⟩
  rw [hqd] at HIX
  have HQD := Lib.hid hqd
  clear hl0 hx0 hqd hm0
  go_wp2_with fail
  refine wp_region_fam2 (by kernel_rfl) (by kernel_rfl) ?_
  intro T F hT hF hG
  have c1 : ∀ t, (F t).cell? ⟨lb, lo, none⟩ = some (.int .i64 x0) := fun t => ((S0.out.call (hF t)).b.cell (p := ⟨lb, lo, none⟩) hlb).trans HL0.out
  have CX := Lib.hid (show ∀ u, (∃ t, u = F t) → u.rangeAt w.heap.size 0 [v] by rintro _ ⟨t, rfl⟩; exact (S0.out.call (hF t)).t.range)
  have CI := Lib.hid (fun t => HIX.out (F t) (S0.out.call (hF t)).b)
  repeat (first
    | ((with_reducible refine at_qload (.tmp 2) ?_); refine wpQuiet_load_midE 25 _ rfl w.heap.size 0 (by simp [Act.eval]) [v] CX.out Try.underlying25 rfl hi1' (by kernel_rfl) ?_; simp only [Act.put, List.setIfInBounds_toArray, List.set_cons_succ, List.set_cons_zero])
    | (go_big_quiet_step ((go_at_call 29; exact fam_call hF hG (Nat.le_refl _) (CI.out _)))))
  refine wpQuiet_nil ?_
  rintro _ ⟨t, rfl⟩
  have S1 := Lib.hid (S0.out.call (hF t))
  obtain ⟨w1, hw1⟩ : ∃ u, F t = u := ⟨_, rfl⟩
  rw [hw1] at S1 ⊢
  clear c1 CX CI hw1 hG hF hT
  clear t F T
  cases qd
  case false =>
    have HRF : Hid (R = -1) := by show R = -1; rw [HRE.out, if_neg (of_decide_eq_false HQD.out)]
    go_wp2_with fail
    go_ret
    exact ⟨by rw [HRF.out]; rfl, S1.out.b⟩
  have HRT : Hid (R = comK ns l (pathN ns x0) (pathN ns x0).length) := by show R = _; rw [HRE.out, if_pos (of_decide_eq_true HQD.out)]
  obtain ⟨P, hP⟩ : ∃ P, pathN ns x0 = P := ⟨_, rfl⟩
  have HPY : Hid (∀ u, Below w.heap.size w u → Calls Try.prog 12 #[.agg #[v], .int .i64 x0] u fun e w' => ∃ a n c, e = .returned (.slice a n c) ∧ IntsV w' (.slice a n c) P ∧ Below u.heap.size u w') := fun u hu =>
    (HPX.out u hu).mono (by
      rintro e w' ⟨v', rfl, ho, hb⟩
      have hi := HPIX.out _ _ _ ho
      rw [hP] at hi
      obtain ⟨a, n, c, rfl⟩ := ints_shape' hi.1
      exact ⟨a, n, c, rfl, hi, hb⟩)
  rw [hP] at HRT
  have HL1 := Lib.hid ((S1.out.b.cell (p := ⟨lb, lo, none⟩) hlb).trans HL0.out)
  clear hP
  go_wp2_with fail
  go_cut [5] from 10 to 56 (fun v5 wx => ∃ a n c, v5 = .slice a n c ∧ IntsV wx (.slice a n c) P ∧ PaS w #[v] wx)
  case first =>
    have s0 := HL1.out
    have s1 : w1.cell? ⟨w.heap.size, 0, none⟩ = some v := S1.out.t.cell 0
    go_region_held3 (fun u => u.cell? ⟨lb, lo, none⟩ = some (.int .i64 x0) ∧ u.cell? ⟨w.heap.size, 0, none⟩ = some v)
      (first | assumption | (constructor <;> assumption))
      ((first
        | (go_at_call 12; refine (HPY.out _ S1.out.b.drew).mono ?_; rintro e w2 ⟨pa, pn, pc, rfl, hi2, hb2⟩
           have HI2 := Lib.hid hi2
           have S2 : Hid (PaS w #[v] w2) := ⟨S1.out.t.call hb2, S1.out.b.drew.trans (hb2.mono S1.out.b.drew.size)⟩
           have t0 : w2.cell? ⟨lb, lo, none⟩ = some (.int .i64 x0) := (S2.out.b.cell (p := ⟨lb, lo, none⟩) hlb).trans HL0.out
           have t1 : w2.cell? ⟨w.heap.size, 0, none⟩ = some v := S2.out.t.cell 0
           clear hi2 hb2)))
    all_goals
      go_wp2_with fail
      go_meet
      case rel => exact ⟨_, _, _, rfl, HI2.out, S2.out⟩
  case rest =>
    obtain ⟨pa, pn, pc, rfl, hi2, hs2⟩ := hcut
    have HI2 := Lib.hid hi2
    have S2 := Lib.hid hs2
    have HPN := hi2.len
    have hpx := HPN.2
    unfold maxLen at hpx
    have HPL : Hid (P.length = pn) := HPN.1
    clear hi2 hs2 HPN
    go_wp2_with fail
    go_loopw [6, 7] (fun q i wr => ∃ k : Nat, k ≤ pn ∧ i = .int .i64 k ∧ q = .int .i64 (comK ns l P k) ∧ IntsV wr (.slice pa pn pc) P ∧ PaS w #[v] wr) (fun _ i _ => pn - (intOf i).toNat)
    case atStart => exact ⟨0, Nat.zero_le _, rfl, rfl, HI2.out, S2.out⟩
    case round =>
      obtain ⟨k, hk, rfl, rfl, hi3, hs3⟩ := hrel
      have HI3 := Lib.hid hi3
      have S3 := Lib.hid hs3
      clear hi3 hs3
      by_cases hlt : k < pn
      case neg =>
        obtain rfl : k = pn := by omega
        have HRR : Hid (R = comK ns l P k) := by show R = _; rw [HRT.out, HPL.out]
        go_wp2_with fail
        go_ret
        exact ⟨by rw [HRR.out]; rfl, S3.out.b⟩
      have hlt' : (k : Int) < pn := by omega
      have hkP : k < P.length := by rw [HPL.out]; exact hlt
      have HNY := Lib.hid (comK_yes (ns := ns) (l := l) (p := P) (k := k))
      have HNN := Lib.hid (comK_no (ns := ns) (l := l) (p := P) (k := k))
      obtain ⟨pb, po, rfl, hpb, hce⟩ := HI3.out.at hkP
      obtain ⟨x, hx⟩ : ∃ x, P.getD k 0 = x := ⟨_, rfl⟩
      rw [hx] at hce HNY HNN
      rw [HLN.out] at HNY HNN
      have HCE := Lib.hid hce
      obtain ⟨n0, hn0⟩ : ∃ z, comK ns l P k = z := ⟨_, rfl⟩
      rw [hn0] at HNN ⊢
      have HPB := Lib.hid hpb
      clear hx hce hn0
      go_wp2_with fail
      go_loopw [8, 9] (fun q i wy => ∃ j : Nat, j ≤ m ∧ i = .int .i64 j ∧ q = .bool (allK ns l x j) ∧ Below wr.heap.size wr wy) (fun _ i _ => m - (intOf i).toNat)
      case atStart => exact ⟨0, Nat.zero_le _, rfl, rfl, Below.refl _ _⟩
      case round =>
        obtain ⟨j, hj, rfl, rfl, hb4⟩ := hrel
        have HB4 := Lib.hid hb4
        have S4 := Lib.hid (S3.out.call hb4)
        have HC4 := Lib.hid ((hb4.cell (p := ⟨pb, po + k, none⟩) HPB.out).trans HCE.out)
        have HI4 := Lib.hid (HI3.out.below hb4)
        clear hb4
        obtain ⟨q, hq⟩ : ∃ q, Hid (allK ns l x j = q) := ⟨_, Lib.hid rfl⟩
        by_cases hjt : j < m
        case neg =>
          obtain rfl : j = m := by omega
          rw [hq.out] at HNY HNN ⊢
          cases q
          case false =>
            have HX := Lib.hid (HNN.out rfl)
            go_wp2_with fail
            go_roundw
            case rel => exact ⟨k + 1, by omega, by go_num, by rw [HX.out], HI4.out, S4.out⟩
            case measure => simp [intOf]; omega
          case true =>
            have HX := Lib.hid (HNY.out rfl)
            go_wp2_with (first
              | ((with_reducible refine at_load (.tmp 54) ?_); refine wpList_load_1 3 (.tmp 54) rfl pb (po + k) (.int .i64 x) HC4.out rfl _ Try.underlying3 rfl rfl ?_))
            go_roundw
            case rel => exact ⟨k + 1, by omega, by go_num, by rw [HX.out], HI4.out, S4.out⟩
            case measure => simp [intOf]; omega
        have hjt' : (j : Int) < m := by omega
        have HAS := Lib.hid (allK_succ ns l x j)
        rw [hq.out] at HAS ⊢
        cases q
        case false =>
          have HAF : Hid (allK ns l x (j + 1) = false) := by show _ = _; rw [HAS.out]; rfl
          go_wp2_with fail
          refine wp_region_fam2 (by kernel_rfl) (by kernel_rfl) ?_
          intro T F hT hF hG
          repeat (go_big_quiet_step (fail))
          refine wpQuiet_nil ?_
          rintro _ ⟨t, rfl⟩
          have HB5 := Lib.hid (HB4.out.trans ((hF t).mono HB4.out.size))
          obtain ⟨w5, hw5⟩ : ∃ u, F t = u := ⟨_, rfl⟩
          rw [hw5] at HB5 ⊢
          clear hw5 hG hF hT
          clear t F T
          go_wp2_with fail
          go_roundw
          case rel => exact ⟨j + 1, by omega, by go_num, by rw [HAF.out], HB5.out⟩
          case measure => simp [intOf]; omega
        case true =>
          obtain ⟨lb2, lo2, he2, hlb2, hl2⟩ := HI.out.at (k := j) (by rw [HLN.out]; exact hjt)
          cases he2
          obtain ⟨y, hy⟩ : ∃ y, l.getD j 0 = y := ⟨_, rfl⟩
          rw [hy] at hl2 HAS
          have HL2 := Lib.hid hl2
          obtain ⟨q2, hq2⟩ : ∃ q : Bool, decide (x ∈ pathN ns y) = q := ⟨_, rfl⟩
          have HANY := Lib.hid (fun u hu => HAN.out x y u hu)
          rw [hq2] at HAS HANY
          have HAT : Hid (allK ns l x (j + 1) = q2) := by show _ = _; rw [HAS.out]; rfl
          clear hy hl2 hq2
          go_wp2_with fail
          refine wp_region_fam2 (by kernel_rfl) (by kernel_rfl) ?_
          intro T F hT hF hG
          have c1 : ∀ t, (F t).cell? ⟨lb, lo + j, none⟩ = some (.int .i64 y) := fun t => ((S4.out.call (hF t)).b.cell (p := ⟨lb, lo + j, none⟩) hlb).trans HL2.out
          have c2 : ∀ t, (F t).cell? ⟨pb, po + k, none⟩ = some (.int .i64 x) := fun t => ((HB4.out.trans ((hF t).mono HB4.out.size)).cell (p := ⟨pb, po + k, none⟩) HPB.out).trans HCE.out
          have CX := Lib.hid (show ∀ u, (∃ t, u = F t) → u.rangeAt w.heap.size 0 [v] by rintro _ ⟨t, rfl⟩; exact (S4.out.call (hF t)).t.range)
          have CI := Lib.hid (fun t => HANY.out (F t) (S4.out.call (hF t)).b)
          repeat (first
            | ((with_reducible refine at_qload (.tmp 2) ?_); refine wpQuiet_load_midE 25 _ rfl w.heap.size 0 (by simp [Act.eval]) [v] CX.out Try.underlying25 rfl hi1' (by kernel_rfl) ?_; simp only [Act.put, List.setIfInBounds_toArray, List.set_cons_succ, List.set_cons_zero])
            | (go_big_quiet_step ((go_at_call 14; exact fam_call hF hG (Nat.le_refl _) (CI.out _)))))
          refine wpQuiet_nil ?_
          rintro _ ⟨t, rfl⟩
          have HB5 := Lib.hid (HB4.out.trans ((hF t).mono HB4.out.size))
          obtain ⟨w5, hw5⟩ : ∃ u, F t = u := ⟨_, rfl⟩
          rw [hw5] at HB5 ⊢
          clear c1 c2 CX CI hw5 hG hF hT
          clear t F T
          go_wp2_with fail
          go_roundw
          case rel => exact ⟨j + 1, by omega, by go_num, by rw [HAT.out], HB5.out⟩
          case measure => simp [intOf]; omega
end Go.Proofs.Ytdbkphkgjaecoaa
