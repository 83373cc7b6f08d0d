/- The reference's At, Heir. -/
import Derived.Test.YtdbkphkgjaecoaaTrH
set_option linter.unusedVariables false

set_option linter.unusedSimpArgs false
namespace Go.Proofs.Ytdbkphkgjaecoaa
open Go.RowKit

set_option maxRecDepth 100000

/-- The last of the first k nodes of a path whose slot is at most s. -/
def atK (ns : List NdD) (l : List Int) (s : Int) : Nat → Int
  | 0 => -1
  | k + 1 => if slotAt ns (l.getD k 0) ≤ s then l.getD k 0 else atK ns l s k

def atP (ns : List NdD) (i s : Int) : Int := atK ns (pathN ns i) s (pathN ns i).length

theorem atK_yes {ns : List NdD} {l : List Int} {s : Int} {k : Nat} (h : slotAt ns (l.getD k 0) ≤ s) : atK ns l s (k + 1) = l.getD k 0 := by
  show (if slotAt ns (l.getD k 0) ≤ s then l.getD k 0 else atK ns l s k) = _
  rw [if_pos h]

theorem atK_no {ns : List NdD} {l : List Int} {s : Int} {k : Nat} (h : ¬ slotAt ns (l.getD k 0) ≤ s) : atK ns l s (k + 1) = atK ns l s k := by
  show (if slotAt ns (l.getD k 0) ≤ s then l.getD k 0 else atK ns l s k) = _
  rw [if_neg h]

def AtI (w : World) (T : Array Value) (ns : List NdD) (l : List Int) (s : Int) (pv v i : Value) (wr : World) : Prop :=
  ∃ k : Nat, k ≤ l.length ∧ i = .int .i64 k ∧ v = .int .i64 (atK ns l s k) ∧ IntsV wr pv l ∧ PaS w T wr

set_option maxHeartbeats 8000000 in
theorem rat_any (ns : List NdD) (hok : TrOK ns) (hlen : ns.length ≤ 100000) (i s : Int) (v : Value) (w : World) (hN : NodesV w v ns) :
    Calls Try.prog 21 #[.agg #[v], .int .i64 i, .int .u64 s] w fun e w' => e = .returned (.int .i64 (atP ns i s)) ∧ Below w.heap.size w w' := by
  obtain ⟨a, cap, rfl, hmx⟩ := hN.shape
  unfold maxLen at hmx
  have HN := Lib.hid hN
  have HPA := Lib.hid (fun u (hu : Below w.heap.size w u) => path_any ns hok hlen i _ u (hN.call hu))
  have HPI := Lib.hid (fun (u : World) B x (h : OwnK .i64 3 u B x (pathN ns i)) => path_ints hok hlen h)
  have HRG := Lib.hid (pathN_rng hok i)
  have hpl := pathN_len ns i
  have hi1 : (Try.prog.info? 25).map (·.size) = some 1 := by kernel_rfl
  unfold atP
  obtain ⟨l, hl⟩ : ∃ l, pathN ns i = l := ⟨_, rfl⟩
  unfold PathE at HPA
  rw [hl] at HPA HPI HRG hpl ⊢
  obtain ⟨m, hm⟩ : ∃ m, Hid (ns.length = m) := ⟨_, Lib.hid rfl⟩
  rw [hm.out] at hmx HPA HN hpl hlen ⊢
  have S0 := Lib.hid (pas_new w #[.slice a m cap] 25)
  clear hN hl hok
  go_enter Try.func21, Try.ntmps21
  go_wp2_with (first
    | ((with_reducible refine at_load (.tmp 3) ?_); refine wpList_load_g 25 (.tmp 3) rfl w.heap.size rfl #[.slice a m cap] _ S0.out.t Try.underlying25 rfl hi1 rfl ?_)
    | (go_at_call 12; refine (HPA.out _ S0.out.b).mono ?_; rintro e w1 ⟨v1, rfl, ho1, hb1⟩; have HI1 := Lib.hid (HPI.out _ _ _ ho1); have S1 := Lib.hid (S0.out.call hb1); clear ho1 hb1))
  obtain ⟨pa, pn, pc, rfl⟩ := ints_shape' HI1.out.1
  have hpn := HI1.out.len.1
  have HPN := Lib.hid hpn
  rw [hpn] at hpl
  clear hpn
  go_loopw [7, 9] (fun v i wr => AtI w #[.slice a m cap] ns l s (.slice pa pn pc) v i wr) (fun _ i _ => pn - (intOf i).toNat)
  case atStart => exact ⟨0, Nat.zero_le _, rfl, rfl, HI1.out, S1.out⟩
  case round =>
    obtain ⟨k, hk, rfl, rfl, hi, hs⟩ := hrel
    have HI := Lib.hid hi
    have S2 := Lib.hid hs
    rw [HPN.out] at hk
    clear hi hs
    by_cases hlt : k < pn
    case neg =>
      obtain rfl : k = pn := by omega
      go_wp2_with fail
      go_ret
      exact ⟨by rw [HPN.out]; rfl, S2.out.b⟩
    have hlt' : (k : Int) < pn := by omega
    have hkl : k < l.length := by rw [HPN.out]; exact hlt
    obtain ⟨pb, po, rfl, hpb, hce⟩ := HI.out.at hkl
    have hxr := HRG.out _ (getD_mem hkl)
    have hyes := fun h => atK_yes (ns := ns) (l := l) (s := s) (k := k) h
    have hno := fun h => atK_no (ns := ns) (l := l) (s := s) (k := k) h
    obtain ⟨x, hx⟩ : ∃ x, l.getD k 0 = x := ⟨_, rfl⟩
    rw [hx] at hce hxr hyes hno
    obtain ⟨xn, rfl⟩ : ∃ n : Nat, x = n := ⟨x.toNat, by omega⟩
    have hxn : xn < ns.length := by omega
    obtain ⟨b, off, rfl, hlm, hbb, hna, _⟩ := HN.out.elem hxn
    have hsl : slotAt ns (xn : Int) = ns[xn].b.slot := by simp [slotAt, List.getElem?_eq_getElem hxn]
    rw [hsl] at hyes hno
    have HSL := Lib.hid hna.bk.slot
    obtain ⟨sx, hsx⟩ : ∃ z, ns[xn].b.slot = z := ⟨_, rfl⟩
    rw [hsx] at hyes hno HSL
    have HY := Lib.hid hyes
    have HNO := Lib.hid hno
    have HCE := Lib.hid hce
    have hxm : (xn : Int) < m := by rw [← hm.out]; omega
    have hblt := S2.out.t.lt
    obtain ⟨qs, hqs⟩ : ∃ q : Bool, decide (sx ≤ s) = q := ⟨_, rfl⟩
    have HQS : Hid (qs = true ↔ sx ≤ s) := by show _ ↔ _; rw [← hqs]; exact decide_eq_true_iff
    clear hyes hno hce hxr hx hsl hsx hna hlm
    go_wp2_with fail
    refine wp_region_fam2 (by kernel_rfl) (by kernel_rfl) ?_
    intro T F hT hF hG
    have c0 : ∀ t, (F t).cell? ⟨w.heap.size, 0, none⟩ = some (.slice (some ⟨b, off, none⟩) m cap) := fun t => (S2.out.call (hF t)).t.cell 0
    have c1 : ∀ t, (F t).cell? ⟨pb, po + k, none⟩ = some (.int .i64 (xn : Int)) := fun t => ((hF t).cell (p := ⟨pb, po + k, none⟩) hpb).trans HCE.out
    have c2 : ∀ t, (F t).cell? ⟨b, off + xn * 240 + 66, none⟩ = some (.int .u64 sx) := fun t => ((S2.out.call (hF t)).b.cell (p := ⟨b, off + xn * 240 + 66, none⟩) hbb).trans HSL.out
    repeat (go_big_quiet_step (fail))
    refine wpQuiet_nil ?_
    rintro _ ⟨t, rfl⟩
    have hft := hF t
    obtain ⟨u, hu⟩ : ∃ u, F t = u := ⟨_, rfl⟩
    rw [hu] at hft ⊢
    have S3 := Lib.hid (S2.out.call hft)
    have HI3 := Lib.hid (HI.out.below hft)
    have HC3 := Lib.hid ((hft.cell (p := ⟨pb, po + k, none⟩) hpb).trans HCE.out)
    clear c0 c1 c2 hG hu hft hF hT
    clear t F T
    clear hqs
    cases qs
    case true =>
      have HNX := Lib.hid (HY.out (HQS.out.1 rfl))
      go_wp2_with (first
        | ((with_reducible refine at_load (.tmp 33) ?_); refine wpList_load_1 3 (.tmp 33) rfl pb (po + k) (.int .i64 (xn : Int)) HC3.out rfl _ Try.underlying3 rfl rfl ?_))
      go_roundw
      case rel => exact ⟨k + 1, by rw [HPN.out]; omega, by go_num, by rw [HNX.out], HI3.out, S3.out⟩
      case measure => simp [intOf]; omega
    case false =>
      have HNX := Lib.hid (HNO.out (by rcases Int.lt_or_le s sx with h | h; (first | exact h | exact Int.not_le.2 h); exact absurd (HQS.out.2 h) (by simp)))
      go_wp2_with fail
      go_roundw
      case rel => exact ⟨k + 1, by rw [HPN.out]; omega, by go_num, by rw [HNX.out], HI3.out, S3.out⟩
      case measure => simp [intOf]; omega

/-- The number behind the first a from place k on. -/
def heirF (l : List Int) (a : Int) : Nat → Nat → Int
  | 0, _ => -1
  | f + 1, k => if k < l.length then (if l.getD (k - 1) 0 = a then l.getD k 0 else heirF l a f (k + 1)) else -1

def heirN (ns : List NdD) (a b : Int) : Int := heirF (pathN ns b) a (pathN ns b).length 1

theorem heirF_step {l : List Int} {a : Int} {k : Nat} (hk : k < l.length) : heirF l a (l.length + 1 - k) k = if l.getD (k - 1) 0 = a then l.getD k 0 else heirF l a (l.length + 1 - (k + 1)) (k + 1) := by
  rw [show l.length + 1 - k = (l.length + 1 - (k + 1)) + 1 by omega]
  show (if k < l.length then (if l.getD (k - 1) 0 = a then l.getD k 0 else heirF l a (l.length + 1 - (k + 1)) (k + 1)) else -1) = _
  rw [if_pos hk]

theorem heirF_end {l : List Int} {a : Int} {k : Nat} (hk : l.length ≤ k) (f : Nat) : heirF l a f k = -1 := by
  cases f with
  | zero => rfl
  | succ f => show (if k < l.length then _ else -1) = _; rw [if_neg (by omega)]

def HeirI (w : World) (T : Array Value) (l : List Int) (a r : Int) (pv i : Value) (wr : World) : Prop :=
  ∃ k : Nat, 1 ≤ k ∧ k ≤ l.length + 1 ∧ i = .int .i64 k ∧ heirF l a (l.length + 1 - k) k = r ∧ IntsV wr pv l ∧ PaS w T wr

set_option maxHeartbeats 8000000 in
theorem heir_any (ns : List NdD) (hok : TrOK ns) (hlen : ns.length ≤ 100000) (a b : Int) (v : Value) (w : World) (hN : NodesV w v ns) :
    Calls Try.prog 18 #[.agg #[v], .int .i64 a, .int .i64 b] w fun e w' => e = .returned (.int .i64 (heirN ns a b)) ∧ Below w.heap.size w w' := by
  obtain ⟨aa, cap, rfl, hmx⟩ := hN.shape
  unfold maxLen at hmx
  have HPA := Lib.hid (fun u (hu : Below w.heap.size w u) => path_any ns hok hlen b _ u (hN.call hu))
  have HPI := Lib.hid (fun (u : World) B x (h : OwnK .i64 3 u B x (pathN ns b)) => path_ints hok hlen h)
  have hpl := pathN_len ns b
  have hi1 : (Try.prog.info? 25).map (·.size) = some 1 := by kernel_rfl
  obtain ⟨q, hq⟩ : ∃ q, Hid (heirN ns a b = q) := ⟨_, Lib.hid rfl⟩
  have hq' := hq.out
  unfold heirN at hq'
  rw [hq.out]
  obtain ⟨l, hl⟩ : ∃ l, pathN ns b = l := ⟨_, rfl⟩
  unfold PathE at HPA
  rw [hl] at HPA HPI hpl hq'
  have HQ0 := Lib.hid hq'
  obtain ⟨m, hm⟩ : ∃ m, Hid (ns.length = m) := ⟨_, Lib.hid rfl⟩
  rw [hm.out] at hmx HPA hpl hlen ⊢
  have S0 := Lib.hid (pas_new w #[.slice aa m cap] 25)
  clear hN hl hok hq'
  go_enter Try.func18, Try.ntmps18
  go_wp2_with (first
    | ((with_reducible refine at_load (.tmp 3) ?_); refine wpList_load_g 25 (.tmp 3) rfl w.heap.size rfl #[.slice aa m cap] _ S0.out.t Try.underlying25 rfl hi1 rfl ?_)
    | (go_at_call 12; refine (HPA.out _ S0.out.b).mono ?_; rintro e w1 ⟨v1, rfl, ho1, hb1⟩; have HI1 := Lib.hid (HPI.out _ _ _ ho1); have S1 := Lib.hid (S0.out.call hb1); clear ho1 hb1))
  obtain ⟨pa, pn, pc, rfl⟩ := ints_shape' HI1.out.1
  have hpn := HI1.out.len.1
  have HPN := Lib.hid hpn
  rw [hpn] at hpl
  clear hpn
  go_loopw [8] (fun i wr => HeirI w #[.slice aa m cap] l a q (.slice pa pn pc) i wr) (fun i _ => pn + 1 - (intOf i).toNat)
  case atStart => exact ⟨1, by omega, by omega, rfl, by rw [← HQ0.out]; rfl, HI1.out, S1.out⟩
  case round =>
    obtain ⟨k, hk1, hk, rfl, hr, hi, hs⟩ := hrel
    have HI := Lib.hid hi
    have S2 := Lib.hid hs
    have HR := Lib.hid hr
    rw [HPN.out] at hk
    clear hi hs hr
    by_cases hlt : k < pn
    case neg =>
      have hlt' : ¬ (k : Int) < pn := by omega
      have HQV : Hid (q = -1) := by show q = -1; rw [← HR.out]; exact heirF_end (by rw [HPN.out]; omega) _
      go_wp2_with fail
      go_ret
      exact ⟨by rw [HQV.out]; rfl, S2.out.b⟩
    have hlt' : (k : Int) < pn := by omega
    have hkl : k < l.length := by rw [HPN.out]; exact hlt
    have hkl1 : k - 1 < l.length := by omega
    have HST := Lib.hid (heirF_step (a := a) hkl)
    have H1 := Lib.hid (HI.out.at hkl1)
    obtain ⟨pb, po, rfl, hpb, hce⟩ := HI.out.at hkl
    obtain ⟨pb', po', he', hpb', hce1⟩ := H1.out
    cases he'
    have hpm : (k : Int) - 1 = ((k - 1 : Nat) : Int) := by omega
    obtain ⟨j, hj⟩ : ∃ j, k - 1 = j := ⟨_, rfl⟩
    rw [hj] at hpm hce1 HST
    have hjl : (j : Int) < pn := by omega
    obtain ⟨x, hx⟩ : ∃ x, l.getD k 0 = x := ⟨_, rfl⟩
    obtain ⟨y, hy⟩ : ∃ y, l.getD j 0 = y := ⟨_, rfl⟩
    rw [hx] at hce HST
    rw [hy] at hce1 HST
    have HCE := Lib.hid hce
    have HCE1 := Lib.hid hce1
    clear hce hce1 hx hy hj hpb'
    by_cases hya : y = a
    · have hbe : (y == a) = true := by simpa using hya
      have HQV : Hid (q = x) := by show q = x; rw [← HR.out, HST.out, if_pos hya]
      clear hya
      go_wp2_with (first
        | ((with_reducible refine at_load (.tmp 21) ?_); refine wpList_load_1 3 (.tmp 21) rfl pb (po + j) (.int .i64 y) HCE1.out rfl _ Try.underlying3 rfl rfl ?_)
        | ((with_reducible refine at_load (.tmp 27) ?_); refine wpList_load_1 3 (.tmp 27) rfl pb (po + k) (.int .i64 x) HCE.out rfl _ Try.underlying3 rfl rfl ?_))
      go_ret
      exact ⟨by rw [HQV.out]; rfl, S2.out.b⟩
    · have hbe : (y == a) = false := by simpa using hya
      have HNX : Hid (heirF l a (l.length + 1 - (k + 1)) (k + 1) = q) := by show _ = q; rw [← HR.out, HST.out, if_neg hya]
      clear hya
      go_wp2_with (first
        | ((with_reducible refine at_load (.tmp 21) ?_); refine wpList_load_1 3 (.tmp 21) rfl pb (po + j) (.int .i64 y) HCE1.out rfl _ Try.underlying3 rfl rfl ?_))
      go_roundw
      case rel => exact ⟨k + 1, by omega, by rw [HPN.out]; omega, by go_num, HNX.out, HI.out, S2.out⟩
      case measure => simp [intOf]; omega
end Go.Proofs.Ytdbkphkgjaecoaa
