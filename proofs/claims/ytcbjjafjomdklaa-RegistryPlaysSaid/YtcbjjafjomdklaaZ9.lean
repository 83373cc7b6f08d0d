/- Several texts as one: L10p. -/
import Derived.Test.YtcbjjafjomdklaaZ8
import Derived.Test.YtcbjjafjomdklaaZ3
import Derived.Test.YtcbjjafjomdklaaZ6
namespace Go.Proofs.Ytcbjjafjomdklaa

/-! L10p -/
section
set_option linter.unusedVariables false
set_option linter.unusedSimpArgs false
open Go.RowKit Go.Maps

set_option maxRecDepth 100000

/-- The balances of the law's configuration. -/
def balL : Nat → List Int
  | 0 => []
  | k + 1 => balL k ++ [3 + (k : Int)]

theorem balL_len : ∀ k, (balL k).length = k
  | 0 => rfl
  | k + 1 => by rw [balL, List.length_append, balL_len k]; rfl

theorem balL_rng : ∀ k, ∀ x ∈ balL k, 0 ≤ x ∧ x ≤ 3 + (k : Int)
  | 0, x, h => by cases h
  | k + 1, x, h => by
    rw [balL] at h
    rcases List.mem_append.1 h with h | h
    · have := balL_rng k x h; omega
    · rw [List.mem_singleton.1 h]; omega

theorem balL_sum : ∀ k, (balL k).sum ≤ (k : Int) * (3 + k)
  | 0 => by simp [balL]
  | k + 1 => by
    rw [balL, List.sum_append]
    have := balL_sum k
    simp only [List.sum_cons, List.sum_nil]
    rw [show ((k + 1 : Nat) : Int) * (3 + ((k + 1 : Nat) : Int)) = (k : Int) * (3 + k) + (2 * k + 4) by push_cast; simp only [Int.add_mul, Int.mul_add, Int.one_mul, Int.mul_one]; omega]
    omega

/-- The first loop: the configuration in block cb, its balances. -/
def LpI (w0 : World) (cb : Nat) (lim : Int) (gen : List Int) (k : Nat) (u : World) : Prop :=
  ∃ bv, Blk u cb (flatP (cfP lim gen bv)) ∧ OwnK .u64 22 u (cb + 1) bv (balL k) ∧ Below w0.heap.size w0 u

theorem cfP_off {lim : Int} {gen : List Int} (bv : Value) (hg : IsBytes 32 gen) : offP (cfP lim gen bv) 5 = 44 := by
  simp [offP, cfP, limL, bytesL_len hg]

theorem first_cell {w : World} {b o l c : Nat} {ws : List Int} {x : Int} (h : IntsV w (.slice (some ⟨b, o, none⟩) l c) ws) (hx : 0 < ws.length ∧ ws.getD 0 0 = x) : b < w.heap.size ∧ w.cell? ⟨b, o + 0, none⟩ = some (.int .i64 x) := by
  obtain ⟨⟨a, n, k, e, hl, hm, hr⟩, _⟩ := h
  cases e
  rcases hr with h0 | ⟨b', off, e, hlt, hc⟩
  · omega
  · cases e
    refine ⟨hlt, ?_⟩
    rw [← hx.2]; exact hc 0 (by omega)

theorem slice_some {w : World} {a : Option Addr} {l c : Nat} {ws : List Int} (h : IntsV w (.slice a l c) ws) (h0 : 0 < ws.length) : ∃ b o, a = some ⟨b, o, none⟩ := by
  obtain ⟨⟨a', n, k, e, hl, hm, hr⟩, _⟩ := h
  cases e
  rcases hr with h0' | ⟨b', off, e, _⟩
  · omega
  · exact ⟨b', off, e⟩

theorem build_tb0 {c : CpD} (hc : c.ok) (u : World) : (Instr.build 36 #[(0, .agg c.cells.toArray)]).run Try.prog u = .ok (.agg (flatP [c.cells, [nilS]])) u := by
  have hl := CpD.len hc
  refine build_struct (zero := flatP [zeC.cells, [nilS]]) (fun w => by kernel_rfl) Try.underlying36 (places := #[(0, 33), (33, 1)]) (fun w => by kernel_rfl) ?_ u
  show Instr.fill _ (flatP [zeC.cells, [nilS]]) [(0, .agg c.cells.toArray)] = _
  rw [fill_part 0 zeC.cells c.cells rfl rfl (by rw [hl]; rfl) rfl (by rw [hl]; rfl)]
  unfold Instr.fill
  rfl

theorem ints_first {w : World} {b o l c : Nat} {ws : List Int} {x : Int} (h : IntsV w (.slice (some ⟨b, o, none⟩) l c) ws) (hx : 0 < ws.length ∧ ws.getD 0 0 = x) : IntsV w (.slice (some ⟨b, o, none⟩) 1 c) [x] := by
  obtain ⟨h1, h2⟩ := first_cell h hx
  refine ⟨⟨_, 1, _, rfl, rfl, by unfold maxLen; omega, .inr ⟨b, o, rfl, h1, fun i hi => ?_⟩⟩, fun z hz => ?_⟩
  · obtain rfl : i = 0 := by omega
    exact h2
  · rw [List.mem_singleton.1 hz]
    refine h.2 x ?_
    rw [← hx.2]
    have : ws.getD 0 0 = ws[0] := by simp [List.getD, List.getElem?_eq_getElem hx.1]
    rw [this]; exact List.getElem_mem _

theorem one_tableS {Q : Value → Prop} {w : World} {c : CpD} {a : Option Addr} {n k : Nat} {l : List Int} {Y : List Value} {t : TypeId} (hc : c.ok) (hY : flatP [c.cells, [.slice a n k]] = Y.toArray) (hI : NumsV w (.slice a n k) l) (hQ : Q (.slice a n k)) : TabsCN Q (w.alloc (.cells Y.toArray t)) (.slice (some ⟨w.heap.size, 0, none⟩) 1 1) [(c, l)] := by
  have hB : Blk (w.alloc (.cells Y.toArray t)) w.heap.size Y.toArray := Blk.new rfl
  refine ⟨⟨_, _, rfl, by unfold maxLen; simp, .inr ⟨w.heap.size, 0, rfl, hB.lt, [Y.toArray], ?_, by simp, ?_⟩⟩, _, _, rfl, by simp, by unfold maxLen; omega⟩
  · have e : rowsL [Y.toArray] = Y.toArray.toList := by simp [rowsL]
    rw [e]; exact hB.range
  · intro p hp
    simp only [List.zip_cons_cons, List.zip_nil_right, List.mem_singleton] at hp
    subst hp
    exact ⟨hc, a, n, k, hY.symm, NumsV.below hI ((Below.refl _ w).alloc (Nat.le_refl _) _), hQ, (fun h => h.elim), trivial⟩

theorem size_intP (w : World) : (sizeOf 3).run Try.prog w = .ok 1 w := Try.sizeOf3 w

/-- The law's main loop. -/
def PlI (w0 : World) (cb vb lo hi : Nat) (C : Array Value) (ra : RgA) (n lim : Int) (tv : Value) (u : World) : Prop :=
  ∃ (la : Option Addr) (lc : Nat) (ea : Option Addr) (en ec : Nat) (vs : List VoD) (gs : List Bool) (E : List TeD) (ds : List (CpD × List Int)), RpS w0 cb lo hi C ra n lim (.slice la vs.length lc) (.slice ea en ec) tv vs gs E ds u ∧ Blk u vb #[.slice la vs.length lc, .slice ea en ec]

/-- The loop that makes a table's balances. -/
def TbI (w0 : World) (P : Nat) (c : CpD) (i : Value) (u : World) : Prop :=
  ∃ (j : Nat) (v : Value) (l : List Int), j ≤ P ∧ i = .int .i64 j ∧ l.length = j ∧ (∀ x ∈ l, 0 ≤ x ∧ x ≤ 18446744073709551615) ∧ OwnN u (w0.heap.size + 1) v l ∧ Blk u w0.heap.size (flatP [c.cells, [v]]) ∧ Below w0.heap.size w0 u

set_option maxHeartbeats 16000000 in
theorem walk_RegistryPlays (a0 : Option Addr) (len0 cap0 : Nat) (z0 : List Int) (a1 a2 : Int) (w : World) (w0 : IsRow .i64 w a0 len0 cap0 z0) (w1 : (Lit.int .i64 a1).wf = true) (w2 : (Lit.int .i64 a2).wf = true) :
    Calls Try.prog 4 #[.slice a0 len0 cap0, .int .i64 a1, .int .i64 a2] w fun e w' => e = .returned (.bool true) ∧ Below w.heap.size w w' := by
  have HROW := Lib.hid w0.ints.1
  have hmx : len0 ≤ maxLen := by obtain ⟨a, n, c, e, _, hm, _⟩ := HROW.out; cases e; exact hm
  unfold maxLen at hmx
  clear w0 w1 w2
  obtain ⟨N, hN3, hN⟩ := i64_and3_nat a1
  obtain ⟨M, hM3, hM⟩ := i64_and3_nat a2
  obtain ⟨P, hP⟩ : ∃ P : Nat, (1 + (N : Int)) = P := ⟨1 + N, by push_cast; rfl⟩
  obtain ⟨Q, hQe⟩ : ∃ Q : Int, (1 + (M : Int)) = Q := ⟨_, rfl⟩
  have hPN : 1 ≤ P ∧ P ≤ 4 := by omega
  have HPN := Lib.hid hPN
  have HQ : Hid (1 ≤ Q ∧ Q ≤ 4) := by show _ ∧ _; omega
  have HA := Lib.hid awake10_any
  have HRS := Lib.hid root_some
  have HIV := Lib.hid info_vote
  obtain ⟨r1, h1⟩ : ∃ r, rootK 1 = r := ⟨_, rfl⟩
  have HK1 : Hid (∀ u, Calls Try.prog 10 #[.int .i64 1] u fun e w' => e = .returned (.agg (bytesL r1).toArray) ∧ Below u.heap.size u w') := fun u => by rw [← h1]; exact root_k 1 u
  have HIS1 : Hid (IsBytes 32 r1) := by show IsBytes 32 r1; rw [← h1]; exact rootK_is 1
  clear h1
  have HBL := Lib.hid (fun u => build_lim Q u)
  obtain ⟨LM, hLM⟩ : ∃ L, Hid ((limL Q).toArray = L) := ⟨_, Lib.hid rfl⟩
  have HBC := Lib.hid (fun (u : World) => build_cf0 HIS1.out Q u)
  rw [hLM.out] at HBL HBC
  obtain ⟨X1, hX1⟩ : ∃ X, Hid (bytesL r1 = X) := ⟨_, Lib.hid rfl⟩
  rw [hX1.out] at HK1 HBC
  have hsz45 : ∀ bv : Value, (flatP (cfP Q r1 bv)).size = 45 := fun bv => by simp [flatP, cfP, limL, bytesL_len HIS1.out]
  have hi45 : ∀ bv : Value, (Try.prog.info? 31).map (·.size) = some (flatP (cfP Q r1 bv)).size := fun bv => by rw [hsz45]; kernel_rfl
  have HCFI := Lib.hid (fun (a : Option Addr) (n k : Nat) => cfP_cf (lim := Q) (bv := .slice a n k) HIS1.out rfl)
  have HI45 := Lib.hid hi45
  have HS45 := Lib.hid hsz45
  obtain ⟨Z45, hZ45⟩ : ∃ Z, flatP (cfP 0 zeroR (.slice none 0 0)) = Z := ⟨_, rfl⟩
  have hszZ : Z45.size = 45 := by rw [← hZ45]; rfl
  obtain ⟨hzz45, hst⟩ := zero_array (P := Try.prog) (t := 31) (n := 45) Z45 (by rw [← hZ45]; kernel_rfl) hszZ (by rw [← hZ45]; kernel_rfl)
  clear hst hZ45 hi45 hsz45
  go_enter Try.func4, Try.ntmps4
  go_wp2_with (first
    | ((with_reducible refine at_build (some 36) ?_); refine wpList_build rfl 24 _ rfl #[(3, .int .i64 Q)] (by simp [Act.eval, Act.put]) (.agg LM) (HBL.out _) ?_)
    | (go_at_call 10; refine (HK1.out _).mono ?_; rintro e w1 ⟨rfl, hb1⟩; have HB1 := Lib.hid hb1; clear hb1)
    | ((with_reducible refine at_build (some 38) ?_); refine wpList_build rfl 31 _ rfl #[(0, .agg LM), (4, .agg X1.toArray)] (by simp [Act.eval, Act.put]) _ (HBC.out _) ?_)
    | ((with_reducible refine at_store (.tmp 7) ?_); refine wpList_store_blk rfl 31 (.tmp 7) _ rfl w1.heap.size (flatP (cfP Q r1 (.slice none 0 0))) rfl rfl Z45 (Blk.new rfl) (by rw [hszZ, HS45.out]) (HI45.out _) (HCFI.out _ _ _).one ?_; intro w2 U2 B2; have hb2 := U2.below (HB1.out.alloc HB1.out.size (.cells Z45 31)) HB1.out.size; have HL0 : Hid (LpI w w1.heap.size Q r1 0 w2) := ⟨_, B2, OwnK.nil _ _ _ _, hb2⟩; have HCB : Hid (w.heap.size ≤ w1.heap.size) := HB1.out.size; clear hb2 U2 B2))
  go_loopw [8] (fun i wr => ∃ k : Nat, k ≤ P ∧ i = .int .i64 k ∧ LpI w w1.heap.size Q r1 k wr) (fun i _ => P - (intOf i).toNat)
  case atStart => exact ⟨0, Nat.zero_le _, rfl, HL0.out⟩
  case round =>
    obtain ⟨k, hk, rfl, bv, hblk, hown, hbel⟩ := hrel
    clear HL0
    obtain ⟨ba, bc, rfl, hcap⟩ := hown.cap
    have HBK := Lib.hid hblk
    have HOW := Lib.hid hown
    have HBL2 := Lib.hid hbel
    have HAT := Lib.hid ((HCFI.out ba (balL k).length bc).at hblk)
    clear hblk hown hbel hcap
    by_cases hlt : k < P
    case pos =>
      have hlt' : (k : Int) < P := by omega
      have hw3 : IntKind.u64.wrap (3 + (k : Int)) = 3 + k := u64_wrap (by omega) (by omega)
      have HLN : Hid ((balL k).length ≤ 10) := by show _ ≤ _; rw [balL_len]; omega
      have HOFF := Lib.hid (cfP_off (lim := Q) (gen := r1) (.slice ba (balL k).length bc) HIS1.out)
      go_wp2_with (first
        | ((with_reducible refine at_load (.tmp 44) ?_); refine wpList_load_1 29 (.tmp 44) rfl w1.heap.size 44 (.slice ba (balL k).length bc) HAT.out.2.1 rfl _ Try.underlying29 rfl rfl ?_)
        | ((with_reducible refine at_app (.tmp 45) (.tmp 49) ?_); refine wpList_app1 info_u64c (by omega) Try.underlying29 (.tmp 45) (.tmp 49) rfl rfl (w1.heap.size + 1) _ (balL k) rfl (HOW.out.grown (World.grownBy_alloc _ (.cells #[.int .u64 (3 + (k : Int))] 22) none) (fun n _ => by simp)) wr.heap.size 1 (3 + (k : Int)) rfl ((Blk.new rfl).cell 0) (by have := HLN.out; omega) (by have := HBK.out.lt; simp; omega) ?_; intro v3 w3 h3 g3 o3; obtain ⟨b3, c3, hv3, _⟩ := h3.cap; have HV3 := Lib.hid hv3; have HOW3 := Lib.hid h3; have HB3 := Lib.hid ((HBL2.out.alloc HBL2.out.size (.cells #[.int .u64 (3 + (k : Int))] 22)).grown g3 (by have := HBL2.out.size; simp; omega) (fun n e => by have := (HOW.out.lt n e).1; have := HCB.out; omega)); have HBK3 := Lib.hid ((HBK.out.alloc (.cells #[.int .u64 (3 + (k : Int))] 22)).grown g3 (fun e => by have := (HOW.out.lt _ e.symm).1; omega)); clear h3 g3 o3 hv3)
        | ((with_reducible refine at_store (.tmp 51) ?_); refine wpList_store_part1 rfl 29 (.tmp 51) _ rfl w1.heap.size (cfP Q r1 (.slice ba (balL k).length bc)) 5 (.slice ba (balL k).length bc) v3 HBK3.out rfl (by rw [HOFF.out]; rfl) rfl (by kernel_rfl) (by rw [HV3.out]; rfl) (by rw [HV3.out]; rfl) ?_; intro w4 U4 B4; have HBK4 := Lib.hid B4; have HOW4 := Lib.hid (HOW3.out.grown (upd_grown U4) (fun n e => by have := (HOW3.out.lt n e).1; simp; omega)); have HB4 := Lib.hid (U4.below HB3.out HCB.out); clear U4 B4))
      go_roundw
      case rel => exact ⟨k + 1, by omega, by go_num, v3, HBK4.out, HOW4.out, HB4.out⟩
      case measure => simp [intOf]; omega
    obtain rfl : P = k := by omega
    have hi2 : (Try.prog.info? 47).map (·.size) = some 2 := by kernel_rfl
    have HBN : Hid ((balL P).length = P) := balL_len P
    have HVE : Hid (vtE (balL P).length (balL P) = 0) := vtE_ok rfl (by have := balL_sum P; have h4 : (P : Int) * (3 + P) ≤ 4 * 7 := Int.mul_le_mul (by omega) (by omega) (by omega) (by omega); omega)
    have HNU0 : Hid (NumsV wr (.slice ba (balL P).length bc) (balL P)) := ⟨HOW.out.ints (by rw [HBN.out]; unfold maxLen; omega), fun x hx => by have := balL_rng P x hx; omega⟩
    have HSA : Hid (∀ lo hi : Nat, wr.heap.size ≤ lo → Safe lo hi (.slice ba (balL P).length bc)) := fun lo hi hlo g hg _ z l c e h0 => by
      cases e
      have := (HOW.out.lt _ rfl).2
      show z.block ≠ g
      have : z.block < wr.heap.size := this
      omega
    obtain ⟨bl, hbl⟩ : ∃ bl, Hid (balL P = bl) := ⟨_, Lib.hid rfl⟩
    rw [hbl.out] at HBN HVE HNU0 HSA HBK HAT
    have HNG := Lib.hid (new_good (flatP (cfP Q r1 (.slice ba bl.length bc))) Q r1 ba bc bl wr (HCFI.out _ _ _) HNU0.out (by have := HBN.out; omega) HQ.out.1 (by have := HQ.out; omega) HVE.out)
    have HBP := Lib.hid (fun u => build_cp1 HIS1.out u)
    rw [hX1.out] at HBP
    have HCK : Hid (CpD.ok ⟨0, r1⟩) := ⟨by show (0 : Int) ≤ 0; omega, by show (0 : Int) ≤ _; omega, HIS1.out⟩
    have hBT : ∀ u, (Instr.build 36 #[(0, cpX ⟨0, r1⟩), (1, .slice ba bl.length bc)]).run Try.prog u = .ok (.agg (flatP [(CpD.mk 0 r1).cells, [.slice ba bl.length bc]])) u := fun u => build_tbv HCK.out ba bl.length bc u
    have HSY0 := Lib.hid (tabOff HCK.out (.slice ba bl.length bc)).2.2
    obtain ⟨Y0, HY0⟩ : ∃ Y : List Value, Hid (flatP [(CpD.mk 0 r1).cells, [.slice ba bl.length bc]] = Y.toArray) := ⟨(flatP [(CpD.mk 0 r1).cells, [.slice ba bl.length bc]]).toList, Lib.hid (by simp)⟩
    rw [HY0.out] at hBT HSY0
    have HBT0 := Lib.hid hBT
    have hsY0 : Y0.length = 34 := by have := HSY0.out; simpa using this
    obtain ⟨CX, hCX⟩ : ∃ CX, Hid (cpX ⟨0, r1⟩ = CX) := ⟨_, Lib.hid rfl⟩
    have HBP2 : Hid (∀ u, (Instr.build 34 #[(1, .agg X1.toArray)]).run Try.prog u = .ok CX u) := fun u => by rw [← hCX.out]; exact HBP.out u
    rw [hCX.out] at HBT0
    have HBE0 := Lib.hid (fun u => buildEl (P := Try.prog) (t := 48) (e := 36) (Z := flatP [zeC.cells, [nilS]]) (X := Y0.toArray) (sz := 34) Try.underlying48 (fun w => by kernel_rfl) (by kernel_rfl) (by rfl) (by rw [List.size_toArray, hsY0]) (by omega) (by omega) u)
    have hiX1 : (Try.prog.info? 28).map (·.size) = some X1.length := by rw [← hX1.out, bytesL_len HIS1.out]; kernel_rfl
    clear hBT HBP
    go_wp2_with (first
      | ((with_reducible refine at_load (.tmp 7) ?_); refine wpList_load_blk rfl 31 (.tmp 7) rfl w1.heap.size rfl (flatP (cfP Q r1 (.slice ba bl.length bc))) _ HBK.out Try.underlying31 rfl (HI45.out _) ?_)
      | (go_at_call 7; refine HNG.out.mono ?_; rintro e w5 ⟨ra, hi, v', rfl, hr5, hb5⟩; rw [HBN.out] at hr5; have HR5 := Lib.hid hr5; have HBK5 := Lib.hid (HBK.out.call hb5); have HAT5 := Lib.hid ((HCFI.out ba bl.length bc).at (HBK.out.call hb5)); have HNU5 := Lib.hid (NumsV.below HNU0.out hb5); have HB5 := Lib.hid (HBL2.out.trans (hb5.mono HBL2.out.size)); have HLT := Lib.hid (And.intro HBK.out.lt hb5.size); clear hr5 hb5)
      | (go_at_call 8; refine (ready_any _ _ ra _ _ _ _ _ _ HR5.out).mono ?_; rintro e wq ⟨rfl, hq⟩; rw [hq]; clear hq)
      | ((with_reducible refine at_makeEl (.tmp 64) ?_); refine wpList_make_els rfl (.tmp 64) 44 78 rfl zeV.cells 48 Try.underlying44 HIV.out .i64 P rfl (by omega) (by omega) ?_; intro w6 hg6 hs6 hr6; have hb6 := grown_belowM hg6; have HW6 := Lib.hid (rep_votes (by omega) hr6); have HR6 := Lib.hid (HR5.out.call hb6); have HSZ6 := Lib.hid hb6.size; have HBK6 := Lib.hid (HBK5.out.call hb6); have HNU6 := Lib.hid (NumsV.below HNU5.out hb6); have HB6 := Lib.hid (HB5.out.trans (hb6.mono HB5.out.size)); clear hg6 hs6 hr6 hb6)
      | ((with_reducible refine at_build (some 66) ?_); refine wpList_build rfl 47 _ rfl #[(0, .slice (some ⟨w5.heap.size, 0, none⟩) P P)] (by simp [Act.eval, Act.put]) _ (build_vts0 _ _ _ _) ?_)
      | ((with_reducible refine at_store (.tmp 11) ?_); refine wpList_store_blk rfl 47 (.tmp 11) _ rfl w6.heap.size #[.slice (some ⟨w5.heap.size, 0, none⟩) P P, .slice none 0 0] rfl rfl #[.slice none 0 0, .slice none 0 0] (Blk.new rfl) rfl hi2 (by intro v hv; simp at hv; rcases hv with rfl | rfl <;> rfl) ?_; intro w7 U7 B7; have hb7 := U7.below ((Below.refl w6.heap.size w6).alloc (Nat.le_refl _) (.cells #[.slice none 0 0, .slice none 0 0] 47)) (Nat.le_refl _); have HV7 := Lib.hid B7; have HW7 := Lib.hid (VotesV.call HW6.out hb7); have HR7 := Lib.hid (HR6.out.call hb7); have HBK7 := Lib.hid (HBK6.out.call hb7); have HAT7 := Lib.hid ((HCFI.out ba bl.length bc).at HBK7.out); have HNU7 := Lib.hid (NumsV.below HNU6.out hb7); have HB7 := Lib.hid (HB6.out.trans (hb7.mono HB6.out.size)); have HRA := HAT7.out.2.2; rw [hX1.out] at HRA; have HRA7 := Lib.hid HRA; clear hb7 U7 B7 HRA)
      | ((with_reducible refine at_load (.tmp 67) ?_); refine wpList_load_at 28 (.tmp 67) rfl w1.heap.size 12 (by simp [Act.eval, Act.put]) X1 HRA7.out _ Try.underlying28 rfl hiX1 rfl ?_)
      | ((with_reducible refine at_build (some 69) ?_); refine wpList_build rfl 34 _ rfl #[(1, .agg X1.toArray)] (by simp [Act.eval, Act.put]) CX (HBP2.out _) ?_)
      | ((with_reducible refine at_load (.tmp 70) ?_); refine wpList_load_1 29 (.tmp 70) rfl w1.heap.size 44 (.slice ba bl.length bc) HAT7.out.2.1 rfl _ Try.underlying29 rfl rfl ?_)
      | ((with_reducible refine at_build (some 72) ?_); refine wpList_build rfl 36 _ rfl #[(0, CX), (1, .slice ba bl.length bc)] (by simp [Act.eval, Act.put]) (.agg Y0.toArray) (HBT0.out _) ?_)
      | ((with_reducible refine at_buildSliceE (some 73) ?_); refine wpList_buildSliceE rfl 48 1 _ rfl #[(0, .agg Y0.toArray)] (by simp [Act.eval, Act.put]) _ (HBE0.out _) ?_))
    obtain ⟨w8, hw8⟩ : ∃ w8, Hid (w7.alloc (.cells Y0.toArray 36) = w8) := ⟨_, Lib.hid rfl⟩
    have hb8 : Below w7.heap.size w7 w8 := by rw [← hw8.out]; exact (Below.refl _ w7).alloc (Nat.le_refl _) _
    have hvlt := HV7.out.lt
    have HST : Hid (PlI w w1.heap.size w6.heap.size wr.heap.size hi (flatP (cfP Q r1 (.slice ba bl.length bc))) ra P Q (.slice (some ⟨w7.heap.size, 0, none⟩) 1 1) w8) := by
      have hh := HR5.out.hi
      have hs5 := HB5.out.size
      have hT := one_tableS (Q := Safe wr.heap.size hi) (t := 36) HCK.out HY0.out HNU7.out (HSA.out _ _ (Nat.le_refl _))
      rw [hw8.out] at hT
      have h65 := HSZ6.out
      have h67 := hvlt
      have hl3 := HLT.out
      have hl0 := HBL2.out.size
      refine ⟨some ⟨w5.heap.size, 0, none⟩, P, none, 0, 0, List.replicate P zeV, List.replicate P false, _, [(⟨0, r1⟩, bl)], ⟨HB7.out.trans (hb8.mono HB7.out.size), HBK7.out.call hb8, HR7.out.call hb8, ?_, ?_, ?_, New.nil _, hT, ?_, match_one _ _ _, ?_, ?_, ?_⟩, ?_⟩
      · rw [List.length_replicate]; exact VotesV.call HW7.out hb8
      · intro z l c e h0; cases e; show hi ≤ w5.heap.size; omega
      · rw [memS_rep]; exact ints_nil10 _
      · intro z l c e h0; cases e; show hi ≤ w7.heap.size; omega
      · have := HQ.out; simp; omega
      · intro d hd; rw [List.mem_singleton.1 hd]; show (0 : Int) ≤ 3; omega
      · exact ⟨hl0, hl3.1⟩
      · rw [List.length_replicate]; exact HV7.out.call hb8
    have HVH : Hid (hi ≤ w6.heap.size) := by have := HR5.out.hi; have := HSZ6.out; show _ ≤ _; omega
    have HVR : Hid (w.heap.size ≤ w6.heap.size) := HB6.out.size
    obtain ⟨cb, hcb⟩ : ∃ cb, Hid (w1.heap.size = cb) := ⟨_, Lib.hid rfl⟩
    obtain ⟨vb, hvb⟩ : ∃ vb, Hid (w6.heap.size = vb) := ⟨_, Lib.hid rfl⟩
    obtain ⟨lo, hlo⟩ : ∃ lo, Hid (wr.heap.size = lo) := ⟨_, Lib.hid rfl⟩
    obtain ⟨C, hC⟩ : ∃ C, Hid (flatP (cfP Q r1 (.slice ba bl.length bc)) = C) := ⟨_, Lib.hid rfl⟩
    have HLIM : Hid (C[3]? = some (.int .i64 Q)) := by show _ = _; rw [← hC.out]; exact (HCFI.out ba bl.length bc).lim
    rw [hcb.out, hvb.out, hlo.out, hC.out] at HST
    rw [hvb.out] at HVH HVR
    rw [hw8.out, hcb.out, hvb.out]
    obtain ⟨ZT, hZT⟩ : ∃ Z, flatP [zeC.cells, [nilS]] = Z := ⟨_, rfl⟩
    have hszT : ZT.size = 34 := by rw [← hZT]; rfl
    obtain ⟨hz34, hst⟩ := zero_array (P := Try.prog) (t := 36) (n := 34) ZT (by rw [← hZT]; kernel_rfl) hszT (by rw [← hZT]; kernel_rfl)
    obtain ⟨ZR, hZR⟩ : ∃ Z, (bytesL zeroR).toArray = Z := ⟨_, rfl⟩
    have hszR : ZR.size = 32 := by rw [← hZR]; rfl
    obtain ⟨hz32, hst2⟩ := zero_array (P := Try.prog) (t := 28) (n := 32) ZR (by rw [← hZR]; kernel_rfl) hszR (by rw [← hZR]; kernel_rfl)
    clear hst hZT hst2 hZR hb8 hvlt HNG HBK HOW HBL2 HAT HBN HVE HNU0 HSA HBT0 HSY0 HBE0 HBP2 hsY0 hiX1 HCFI HI45 HS45 HBL HBC HK1 HIV hzz45 HR5 HBK5 HAT5 HNU5 HB5 HW6 HR6 HBK6 HNU6 HB6 HV7 HW7 HR7 HBK7 HAT7 HNU7 HB7 HRA7 HLT HSZ6 HCB
    go_loopw [12, 13] (fun tv i wr => ∃ k : Nat, k ≤ 10 ∧ i = .int .i64 k ∧ PlI w cb vb lo hi C ra P Q tv wr) (fun _ i _ => 10 - (intOf i).toNat)
    case atStart => exact ⟨0, Nat.zero_le _, rfl, HST.out⟩
    case round =>
      obtain ⟨k, hk, rfl, la, lc, ea, en, ec, vs, gs, E, ds, hS, hV⟩ := hrel
      have HS := Lib.hid hS
      have HV := Lib.hid hV
      obtain ⟨ta, tc, rfl, htc, _⟩ := hS.tab.2
      clear HST hS hV htc
      have HAW := Lib.hid (fun (u : World) (hu : Below wr.heap.size wr u) => HS.out.b.trans (hu.mono HS.out.b.size))
      by_cases h10 : k < 10
      case neg =>
        obtain rfl : k = 10 := by omega
        by_cases hlen : (10 : Int) < (len0 : Int)
        · go_wp2_with (go_at_call 5; refine (HA.out _).mono ?_; rintro e w9 ⟨rfl, hb9⟩; have HB9 := Lib.hid (HAW.out _ hb9); clear hb9)
          go_ret
          exact ⟨rfl, HB9.out⟩
        · go_wp2_with (go_at_call 5; refine (HA.out _).mono ?_; rintro e w9 ⟨rfl, hb9⟩; have HB9 := Lib.hid (HAW.out _ hb9); clear hb9)
          go_ret
          exact ⟨rfl, HB9.out⟩
      by_cases hlen : k < len0
      case neg =>
        have hlen' : ¬ (k : Int) < (len0 : Int) := by omega
        go_wp2_with (go_at_call 5; refine (HA.out _).mono ?_; rintro e w9 ⟨rfl, hb9⟩; have HB9 := Lib.hid (HAW.out _ hb9); clear hb9)
        go_ret
        exact ⟨rfl, HB9.out⟩
      have hlen' : (k : Int) < (len0 : Int) := by omega
      have h10' : (k : Int) < 10 := by omega
      obtain ⟨xb, xo, xx, rfl, hcx⟩ : ∃ xb xo xx, a0 = some ⟨xb, xo, none⟩ ∧ wr.cell? ⟨xb, xo + k, none⟩ = some (.int .i64 xx) := by
        obtain ⟨a, n, c, e, _, _, hr⟩ := HROW.out.below HS.out.b
        cases e
        rcases hr with h0 | ⟨b, off, rfl, _, hc⟩
        · omega
        · exact ⟨b, off, _, rfl, hc k hlen⟩
      have HCX := Lib.hid hcx
      clear hcx
      obtain ⟨KK, hKK⟩ : ∃ KK, bits .and .i64 xx 16777215 = KK := ⟨_, rfl⟩
      obtain ⟨q, hq3, hq⟩ := i64_and3_nat KK
      have HSO := Lib.hid (fun kk u => some_sorted P kk u (by omega))
      obtain ⟨hvn, hgn⟩ := HS.out.vn
      have HVP : Hid (vs.length = P) := by show _ = _; omega
      have HGP : Hid (gs.length = P) := by show _ = _; omega
      clear hvn hgn
      obtain rfl | rfl | rfl | rfl : q = 0 ∨ q = 1 ∨ q = 2 ∨ q = 3 := by omega
      · have HXS := trivial
        obtain ⟨ep, hep⟩ : ∃ ep, IntKind.u64.wrap (bits .and .i64 (KK / 256) 3) = ep := ⟨_, rfl⟩
        have HEP : Hid (0 ≤ ep ∧ ep ≤ 18446744073709551615) := by show _ ∧ _; rw [← hep]; exact wrap_u64r _
        go_wp2_with (first
          | ((with_reducible refine at_load (.tmp 86) ?_); refine wpList_load_1 3 (.tmp 86) rfl xb (xo + k) (.int .i64 xx) HCX.out rfl _ Try.underlying3 rfl rfl ?_)
          | (go_at_call 11; refine (HSO.out _ _).mono ?_; rintro e w2 ⟨sv, ws, rfl, ho2, hl2, ⟨hr2, hg2⟩, hb2⟩; obtain ⟨wa, wc, rfl, hcap2⟩ := ho2.cap; have HI2 : Hid (IntsV w2 (.slice wa ws.length wc) ws) := Lib.hid ⟨ho2.ints (by unfold maxLen; omega), fun x hx => by have := hr2 x hx; omega⟩; have HWN : Hid (New hi (.slice wa ws.length wc)) := Lib.hid (ho2.new.mono HS.out.rg.hi.2.2.2); have HWS : Hid (vlE ws P = 0) := Lib.hid (hg2 (by omega)); have HWC : Hid (ws.length ≤ wc ∧ ws.length ≤ 4) := Lib.hid ⟨hcap2, by omega⟩; have HS2 := Lib.hid (HS.out.call hb2); have HV2 := Lib.hid (HV.out.call hb2); clear ho2 hl2 hr2 hg2 hb2 hcap2)
          | (go_at_call 10; refine (HRS.out _ _).mono ?_; rintro e w3 ⟨⟨r, hr, rfl⟩, hb3⟩; obtain ⟨R, hR⟩ : ∃ R, Hid (bytesL r = R) := ⟨_, Lib.hid rfl⟩; rw [hR.out]; have HRO := Lib.hid hr; have HRL : Hid (R.length = 32) := Lib.hid (by rw [← hR.out, bytesL_len hr]); have hiRR : (Try.prog.info? 28).map (·.size) = some R.length := (by rw [HRL.out]; kernel_rfl); have hiRR' : (Try.prog.info? 28).map (·.size) = some R.toArray.size := (by rw [List.size_toArray, HRL.out]; kernel_rfl); have HOR : Hid (∀ v ∈ R.toArray, v.oneCell' = true) := Lib.hid (by rw [← hR.out]; exact fun v hv => bytesL_one _ v (by simpa using hv)); have HS3 := Lib.hid (HS2.out.call hb3); have HV3 := Lib.hid (HV2.out.call hb3); have HI3 := Lib.hid (IntsV.call HI2.out hb3); clear hr hb3)
          | ((with_reducible refine at_store (.tmp 17) ?_); refine wpList_store_blk rfl 28 (.tmp 17) _ rfl w3.heap.size R.toArray rfl rfl ZR (Blk.new rfl) (by rw [hszR, List.size_toArray, HRL.out]) hiRR' HOR.out ?_; intro w3b U3 B3; have hb3b := U3.below ((Below.refl w3.heap.size w3).alloc (Nat.le_refl _) (.cells ZR 28)) (Nat.le_refl _); have HS3b := Lib.hid (HS3.out.call hb3b); have HV3b := Lib.hid (HV3.out.call hb3b); have HI3b := Lib.hid (IntsV.call HI3.out hb3b); have HR3b := Lib.hid B3; have HRB : Hid (hi ≤ w3.heap.size) := Lib.hid HS3.out.rg.hi.2.2.2; clear hb3b U3 B3)
          | ((with_reducible refine at_load (.tmp 155) ?_); refine wpList_load_1 44 (.tmp 155) rfl vb 0 (.slice la vs.length lc) (HV3b.out.cell 0) rfl _ Try.underlying44 rfl rfl ?_)
          | ((with_reducible refine at_load (.tmp 17) ?_); refine wpList_load_blk rfl 28 (.tmp 17) rfl w3.heap.size rfl R.toArray _ HR3b.out Try.underlying28 rfl hiRR' ?_)
          | (go_at_call 12; have hvE : vlE ws vs.length = 0 := (by rw [HVP.out]; exact HWS.out); have HWV := Lib.hid hvE; obtain ⟨⟨T, cn⟩, hTC0⟩ : ∃ Z, castR vs ep r ws = Z := ⟨_, rfl⟩; have hTC := Lib.hid hTC0; have HTL : Hid (T.length = vs.length) := Lib.hid (by have h := castK_len vs ep r ws ws.length (Nat.le_refl _); rw [← castR_yes hvE, hTC0] at h; exact h); have hrc := rcast_any _ vs ep r (.slice wa ws.length wc) ws w3b HS3b.out.lat (by rw [HVP.out]; omega) HEP.out HRO.out HI3b.out hvE; rw [hTC0, hR.out] at hrc; refine hrc.mono ?_; rintro e w4 ⟨v8, he8, ⟨hv8, hn8⟩, hb8⟩; obtain rfl : e = .returned (.tuple #[v8, .int .i64 cn]) := he8; have hv8 : VotesV w4 v8 T := hv8; obtain ⟨a8, c8, rfl, _⟩ := hv8.shape; have HW4 := Lib.hid hv8; have HN4 : Hid (New hi (.slice a8 T.length c8)) := Lib.hid (hn8.mono HS3b.out.rg.hi.2.2.2); have HS4 := Lib.hid (HS3b.out.call hb8); have HV4 := Lib.hid (HV3b.out.call hb8); have HI4 := Lib.hid (IntsV.call HI3b.out hb8); have HR4 := Lib.hid (HR3b.out.call hb8); clear hrc hv8 hn8 hb8 hTC0 hvE))
        obtain ⟨x, hx⟩ : ∃ x, w4.drew = x := ⟨_, rfl⟩
        have hbd : Below w4.heap.size w4 x := by rw [← hx]; exact ⟨rfl, rfl, rfl, Nat.le_refl _, fun _ _ => rfl⟩
        have HSP := Lib.hid (HS4.out.call hbd)
        have HVB := Lib.hid (HV4.out.call hbd)
        have HXW := Lib.hid (VotesV.call HW4.out hbd)
        have HXI := Lib.hid (IntsV.call HI4.out hbd)
        have HXR := Lib.hid (HR4.out.call hbd)
        have HS : Hid (Blk x ra.b #[.pointer (some ⟨ra.b1, 0, none⟩), .pointer (some ⟨ra.b2, 0, none⟩), .pointer (some ⟨ra.b3, 0, none⟩)] ∧ Blk x w3.heap.size R.toArray) := ⟨HSP.out.rg.blk, HXR.out⟩
        have HXL : Hid (hi ≤ w3.heap.size) := HRB.out
        clear hbd HS4 HV4 HW4 HI4 HR4
        refine wp_region_held_drew (S := fun u' => Blk u' ra.b #[.pointer (some ⟨ra.b1, 0, none⟩), .pointer (some ⟨ra.b2, 0, none⟩), .pointer (some ⟨ra.b3, 0, none⟩)] ∧ Blk u' w3.heap.size R.toArray) (by kernel_rfl) (by rw [hx]; exact HS.out) (fun _ => ?_)
        rw [hx]
        clear hx
        (try simp only [Act.put, List.setIfInBounds_toArray, List.set_cons_zero, List.set_cons_succ])
        refine wpAnyH_take (i := 0) (oi := ⟨some 164, _, _, _, _, _⟩) (v := .pointer (some ⟨ra.b, 0, none⟩)) rfl (by kernel_rfl) (by kernel_rfl) (by kernel_rfl) (fun _ _ _ h => h) (Or.inl ⟨by rfl, fun wz hz => ?_⟩) HS.out ?_
        · clear hz; go_simp; first | done | with_reducible rfl | rfl
        (try simp only [Act.put, List.setIfInBounds_toArray, List.set_cons_zero, List.set_cons_succ])
        refine wpAnyH_take (i := 1) (oi := ⟨some 165, _, _, _, _, _⟩) (v := .pointer (some ⟨ra.b, 0, none⟩)) rfl (by kernel_rfl) (by kernel_rfl) (by kernel_rfl) (fun _ _ _ h => h) (Or.inl ⟨by rfl, fun wz hz => ?_⟩) HS.out ?_
        · clear hz; go_simp; first | done | with_reducible rfl | rfl
        (try simp only [Act.put, List.setIfInBounds_toArray, List.set_cons_zero, List.set_cons_succ])
        refine wpAnyH_take (i := 2) (oi := ⟨some 166, _, _, _, _, _⟩) (v := .pointer (some ⟨ra.b, 0, none⟩)) rfl (by kernel_rfl) (by kernel_rfl) (by kernel_rfl) (fun _ _ _ h => h) (Or.inl ⟨by rfl, fun wz hz => ?_⟩) HS.out ?_
        · clear hz; go_simp; first | done | with_reducible rfl | rfl
        (try simp only [Act.put, List.setIfInBounds_toArray, List.set_cons_zero, List.set_cons_succ])
        refine held_load1 (oi := ⟨some 167, _, _, _, _, _⟩) 3 rfl (by kernel_rfl) (by kernel_rfl) (by kernel_rfl) (fun _ _ _ _ h => h) rfl 57 (.tmp 166) rfl ra.b (0) rfl (.pointer (some ⟨ra.b1, 0, none⟩)) _ (fun u' hu => hu.1.cell 0) Try.underlying57 rfl HS.out ?_
        (try simp only [Act.put, List.setIfInBounds_toArray, List.set_cons_zero, List.set_cons_succ])
        refine wpAnyH_take (i := 4) (oi := ⟨some 168, _, _, _, _, _⟩) (v := .int .u64 ep) rfl (by kernel_rfl) (by kernel_rfl) (by kernel_rfl) (fun _ _ _ h => h) (Or.inl ⟨by rfl, fun wz hz => ?_⟩) HS.out ?_
        · clear hz; go_simp; first | done | with_reducible rfl | rfl
        (try simp only [Act.put, List.setIfInBounds_toArray, List.set_cons_zero, List.set_cons_succ])
        refine held_load (oi := ⟨some 169, _, _, _, _, _⟩) 5 rfl (by kernel_rfl) (by kernel_rfl) (by kernel_rfl) (fun _ _ _ _ h => h) rfl 28 (.tmp 17) rfl w3.heap.size 0 rfl R _ (fun u' hu => hu.2.range) Try.underlying28 rfl (hiRR) HS.out ?_
        (try simp only [Act.put, List.setIfInBounds_toArray, List.set_cons_zero, List.set_cons_succ])
        refine wpAnyH_take (i := 6) (oi := ⟨some 170, _, _, _, _, _⟩) (v := .slice wa ws.length wc) rfl (by kernel_rfl) (by kernel_rfl) (by kernel_rfl) (fun _ _ _ h => h) (Or.inl ⟨by rfl, fun wz hz => ?_⟩) HS.out ?_
        · clear hz; go_simp; first | done | with_reducible rfl | rfl
        (try simp only [Act.put, List.setIfInBounds_toArray, List.set_cons_zero, List.set_cons_succ])
        refine wpAnyH_ready (rs := [7]) (by kernel_rfl) (by simp) ?_
        refine AllReadyH.cons (o := ⟨some 171, _, _, _, _, _⟩) rfl (fun K hK => ?_) AllReadyH.nil
        rw [if_pos (by rfl)]
        go_simp
        have hca := cast_any ra.b1 ra.g1 vs ep r (.slice wa ws.length wc) ws x HSP.out.rg.vot HEP.out HRO.out HXI.out (HWN.out.off (by have := HSP.out.rg.hi; omega))
        rw [hR.out] at hca
        refine hca.mono ?_
        rintro e w6 ⟨he6, hv6, hg6⟩
        obtain rfl : e = .returned (.tuple #[.int .i64 cn, .int .i64 0]) := by rw [he6, hTC.out, HWV.out]
        clear he6
        have hv6 : VtI w6 ra.b1 ra.g1 T := by rw [hTC.out] at hv6; exact hv6
        have hhi := HSP.out.rg.hi
        have HS6 : Hid (Blk w6 ra.b #[.pointer (some ⟨ra.b1, 0, none⟩), .pointer (some ⟨ra.b2, 0, none⟩), .pointer (some ⟨ra.b3, 0, none⟩)] ∧ Blk w6 w3.heap.size R.toArray) := ⟨HS.out.1.grown hg6 (by simpa using HSP.out.rg.ap.1), HS.out.2.grown hg6 (by have := HXL.out; simp; omega)⟩
        have HSP6 := Lib.hid (HSP.out.cast HXW.out HN4.out hv6 HTL.out hg6)
        have HVB6 := Lib.hid (HVB.out.grown hg6 (by have := HVH.out; simp; omega))
        refine hK.out _ _ HS6.out (fun _ => ?_)
        clear hK K hca hv6 hg6 hhi HS HSP HVB HXW HXI HXR
        have HS := HS6
        clear HS6
        (try simp only [Act.put, List.setIfInBounds_toArray, List.set_cons_zero, List.set_cons_succ])
        refine wpAnyH_take (i := 8) (oi := ⟨some 163, _, _, _, _, _⟩) (v := .tuple #[.int .i64 cn, .int .i64 0]) rfl (by kernel_rfl) (by kernel_rfl) (by kernel_rfl) (fun _ _ _ h => h) (Or.inl ⟨by rfl, fun wz hz => ?_⟩) HS.out ?_
        · clear hz; go_simp; first | done | with_reducible rfl | rfl
        (try simp only [Act.put, List.setIfInBounds_toArray, List.set_cons_zero, List.set_cons_succ])
        refine wpAnyH_take (i := 9) (oi := ⟨some 172, _, _, _, _, _⟩) (v := .int .i64 cn) rfl (by kernel_rfl) (by kernel_rfl) (by kernel_rfl) (fun _ _ _ h => h) (Or.inl ⟨by rfl, fun wz hz => ?_⟩) HS.out ?_
        · clear hz; go_simp; first | done | with_reducible rfl | rfl
        (try simp only [Act.put, List.setIfInBounds_toArray, List.set_cons_zero, List.set_cons_succ])
        refine wpAnyH_take (i := 10) (oi := ⟨some 173, _, _, _, _, _⟩) (v := .int .i64 0) rfl (by kernel_rfl) (by kernel_rfl) (by kernel_rfl) (fun _ _ _ h => h) (Or.inl ⟨by rfl, fun wz hz => ?_⟩) HS.out ?_
        · clear hz; go_simp; first | done | with_reducible rfl | rfl
        (try simp only [Act.put, List.setIfInBounds_toArray, List.set_cons_zero, List.set_cons_succ])
        refine wpAnyH_ready (rs := [11]) (by kernel_rfl) (by simp) ?_
        refine AllReadyH.cons (o := ⟨some 20, _, _, _, _, _⟩) rfl (fun K hK => ?_) AllReadyH.nil
        go_simp
        refine hK.out _ _ HS.out (fun _ => ?_)
        clear hK K
        (try simp only [Act.put, List.setIfInBounds_toArray, List.set_cons_zero, List.set_cons_succ])
        refine wpAnyH_ready (rs := [12]) (by kernel_rfl) (by simp) ?_
        refine AllReadyH.cons (o := ⟨some 21, _, _, _, _, _⟩) rfl (fun K hK => ?_) AllReadyH.nil
        go_simp
        refine hK.out _ _ HS.out (fun _ => ?_)
        clear hK K
        (try simp only [Act.put, List.setIfInBounds_toArray, List.set_cons_zero, List.set_cons_succ])
        refine wpAnyH_done (by kernel_rfl) ?_ _
        clear HS
        have hcc : (cn != cn) = false := by simp
        go_wp2_with (first
          | ((with_reducible refine at_store (.tmp 182) ?_); refine wpList_store_part1 rfl 44 (.tmp 182) _ rfl vb [[.slice la vs.length lc], [.slice ea en ec]] 0 (.slice la vs.length lc) (.slice a8 T.length c8) HVB6.out rfl rfl rfl (by kernel_rfl) rfl rfl ?_; intro w7 U7 B7; have HS7 := Lib.hid (HSP6.out.upd HVB6.out HVH.out U7); have HV7 := Lib.hid B7; clear U7 B7)
          | ((with_reducible refine at_load (.tmp 11) ?_); refine wpList_load_g 47 (.tmp 11) rfl vb rfl #[.slice a8 T.length c8, .slice ea en ec] _ HV8.out Try.underlying47 rfl hi2 rfl ?_)
          | ((with_reducible refine at_load (.tmp 11) ?_); refine wpList_load_g 47 (.tmp 11) rfl vb rfl #[.slice a8 T.length c8, .slice ea en ec] _ HV7.out Try.underlying47 rfl hi2 rfl ?_)
          | (go_at_call 9; refine (same10_any lo hi ra P Q T gs E ds _ _ _ w7 HS7.out.rg HS7.out.mat (by have h1 := HS7.out.len; have h2 := HQ.out; omega) HS7.out.lat HS7.out.eq (elv_zero HS7.out.tab.1)).mono ?_; rintro e w8 ⟨rfl, hb8⟩; have HS8 := Lib.hid (HS7.out.call hb8); have HV8 := Lib.hid (HV7.out.call hb8); clear hb8)
          | (go_at_call 18; refine (weighs_any lo hi ra P Q T gs E ds _ _ _ w8 HS8.out.rg HS8.out.mat (by have h1 := HS8.out.len; have h2 := HQ.out; omega) HS8.out.lat HS8.out.eq (elv_zero HS8.out.tab.1) HS8.out.far).mono ?_; rintro e w9 ⟨rfl, hb9⟩; have HS9 := Lib.hid (HS8.out.call hb9); have HV9 := Lib.hid (HV8.out.call hb9); clear hb9))
        go_roundw
        case rel => exact ⟨k + 1, by omega, by go_num, _, _, _, _, _, T, gs, E, ds, HS9.out, HV9.out⟩
        case measure => simp [intOf]; omega
      · have HXS := trivial
        obtain ⟨ep, hep⟩ : ∃ ep, IntKind.u64.wrap (bits .and .i64 (KK / 256) 3) = ep := ⟨_, rfl⟩
        have HEP : Hid (0 ≤ ep ∧ ep ≤ 18446744073709551615) := by show _ ∧ _; rw [← hep]; exact wrap_u64r _
        go_wp2_with (first
          | ((with_reducible refine at_load (.tmp 86) ?_); refine wpList_load_1 3 (.tmp 86) rfl xb (xo + k) (.int .i64 xx) HCX.out rfl _ Try.underlying3 rfl rfl ?_)
          | (go_at_call 11; refine (HSO.out _ _).mono ?_; rintro e w2 ⟨sv, ws, rfl, ho2, hl2, ⟨hr2, hg2⟩, hb2⟩; obtain ⟨wa, wc, rfl, hcap2⟩ := ho2.cap; have HI2 : Hid (IntsV w2 (.slice wa ws.length wc) ws) := Lib.hid ⟨ho2.ints (by unfold maxLen; omega), fun x hx => by have := hr2 x hx; omega⟩; have HWN : Hid (New hi (.slice wa ws.length wc)) := Lib.hid (ho2.new.mono HS.out.rg.hi.2.2.2); have HWS : Hid (vlE ws P = 0) := Lib.hid (hg2 (by omega)); have HWC : Hid (ws.length ≤ wc ∧ ws.length ≤ 4) := Lib.hid ⟨hcap2, by omega⟩; have HS2 := Lib.hid (HS.out.call hb2); have HV2 := Lib.hid (HV.out.call hb2); clear ho2 hl2 hr2 hg2 hb2 hcap2)
          | (go_at_call 10; refine (HRS.out _ _).mono ?_; rintro e w3 ⟨⟨r, hr, rfl⟩, hb3⟩; obtain ⟨R, hR⟩ : ∃ R, Hid (bytesL r = R) := ⟨_, Lib.hid rfl⟩; rw [hR.out]; have HRO := Lib.hid hr; have HRL : Hid (R.length = 32) := Lib.hid (by rw [← hR.out, bytesL_len hr]); have hiRR : (Try.prog.info? 28).map (·.size) = some R.length := (by rw [HRL.out]; kernel_rfl); have hiRR' : (Try.prog.info? 28).map (·.size) = some R.toArray.size := (by rw [List.size_toArray, HRL.out]; kernel_rfl); have HOR : Hid (∀ v ∈ R.toArray, v.oneCell' = true) := Lib.hid (by rw [← hR.out]; exact fun v hv => bytesL_one _ v (by simpa using hv)); have HS3 := Lib.hid (HS2.out.call hb3); have HV3 := Lib.hid (HV2.out.call hb3); have HI3 := Lib.hid (IntsV.call HI2.out hb3); clear hr hb3)
          | ((with_reducible refine at_store (.tmp 17) ?_); refine wpList_store_blk rfl 28 (.tmp 17) _ rfl w3.heap.size R.toArray rfl rfl ZR (Blk.new rfl) (by rw [hszR, List.size_toArray, HRL.out]) hiRR' HOR.out ?_; intro w3b U3 B3; have hb3b := U3.below ((Below.refl w3.heap.size w3).alloc (Nat.le_refl _) (.cells ZR 28)) (Nat.le_refl _); have HS3b := Lib.hid (HS3.out.call hb3b); have HV3b := Lib.hid (HV3.out.call hb3b); have HI3b := Lib.hid (IntsV.call HI3.out hb3b); have HR3b := Lib.hid B3; have HRB : Hid (hi ≤ w3.heap.size) := Lib.hid HS3.out.rg.hi.2.2.2; clear hb3b U3 B3)
          | ((with_reducible refine at_load (.tmp 155) ?_); refine wpList_load_1 44 (.tmp 155) rfl vb 0 (.slice la vs.length lc) (HV3b.out.cell 0) rfl _ Try.underlying44 rfl rfl ?_)
          | ((with_reducible refine at_load (.tmp 17) ?_); refine wpList_load_blk rfl 28 (.tmp 17) rfl w3.heap.size rfl R.toArray _ HR3b.out Try.underlying28 rfl hiRR' ?_)
          | (go_at_call 12; have hvE : vlE ws vs.length = 0 := (by rw [HVP.out]; exact HWS.out); have HWV := Lib.hid hvE; obtain ⟨⟨T, cn⟩, hTC0⟩ : ∃ Z, castR vs ep r ws = Z := ⟨_, rfl⟩; have hTC := Lib.hid hTC0; have HTL : Hid (T.length = vs.length) := Lib.hid (by have h := castK_len vs ep r ws ws.length (Nat.le_refl _); rw [← castR_yes hvE, hTC0] at h; exact h); have hrc := rcast_any _ vs ep r (.slice wa ws.length wc) ws w3b HS3b.out.lat (by rw [HVP.out]; omega) HEP.out HRO.out HI3b.out hvE; rw [hTC0, hR.out] at hrc; refine hrc.mono ?_; rintro e w4 ⟨v8, he8, ⟨hv8, hn8⟩, hb8⟩; obtain rfl : e = .returned (.tuple #[v8, .int .i64 cn]) := he8; have hv8 : VotesV w4 v8 T := hv8; obtain ⟨a8, c8, rfl, _⟩ := hv8.shape; have HW4 := Lib.hid hv8; have HN4 : Hid (New hi (.slice a8 T.length c8)) := Lib.hid (hn8.mono HS3b.out.rg.hi.2.2.2); have HS4 := Lib.hid (HS3b.out.call hb8); have HV4 := Lib.hid (HV3b.out.call hb8); have HI4 := Lib.hid (IntsV.call HI3b.out hb8); have HR4 := Lib.hid (HR3b.out.call hb8); clear hrc hv8 hn8 hb8 hTC0 hvE))
        obtain ⟨x, hx⟩ : ∃ x, w4.drew = x := ⟨_, rfl⟩
        have hbd : Below w4.heap.size w4 x := by rw [← hx]; exact ⟨rfl, rfl, rfl, Nat.le_refl _, fun _ _ => rfl⟩
        have HSP := Lib.hid (HS4.out.call hbd)
        have HVB := Lib.hid (HV4.out.call hbd)
        have HXW := Lib.hid (VotesV.call HW4.out hbd)
        have HXI := Lib.hid (IntsV.call HI4.out hbd)
        have HXR := Lib.hid (HR4.out.call hbd)
        have HS : Hid (Blk x ra.b #[.pointer (some ⟨ra.b1, 0, none⟩), .pointer (some ⟨ra.b2, 0, none⟩), .pointer (some ⟨ra.b3, 0, none⟩)] ∧ Blk x w3.heap.size R.toArray) := ⟨HSP.out.rg.blk, HXR.out⟩
        have HXL : Hid (hi ≤ w3.heap.size) := HRB.out
        clear hbd HS4 HV4 HW4 HI4 HR4
        refine wp_region_held_drew (S := fun u' => Blk u' ra.b #[.pointer (some ⟨ra.b1, 0, none⟩), .pointer (some ⟨ra.b2, 0, none⟩), .pointer (some ⟨ra.b3, 0, none⟩)] ∧ Blk u' w3.heap.size R.toArray) (by kernel_rfl) (by rw [hx]; exact HS.out) (fun _ => ?_)
        rw [hx]
        clear hx
        (try simp only [Act.put, List.setIfInBounds_toArray, List.set_cons_zero, List.set_cons_succ])
        refine wpAnyH_take (i := 0) (oi := ⟨some 164, _, _, _, _, _⟩) (v := .pointer (some ⟨ra.b, 0, none⟩)) rfl (by kernel_rfl) (by kernel_rfl) (by kernel_rfl) (fun _ _ _ h => h) (Or.inl ⟨by rfl, fun wz hz => ?_⟩) HS.out ?_
        · clear hz; go_simp; first | done | with_reducible rfl | rfl
        (try simp only [Act.put, List.setIfInBounds_toArray, List.set_cons_zero, List.set_cons_succ])
        refine wpAnyH_take (i := 1) (oi := ⟨some 165, _, _, _, _, _⟩) (v := .pointer (some ⟨ra.b, 0, none⟩)) rfl (by kernel_rfl) (by kernel_rfl) (by kernel_rfl) (fun _ _ _ h => h) (Or.inl ⟨by rfl, fun wz hz => ?_⟩) HS.out ?_
        · clear hz; go_simp; first | done | with_reducible rfl | rfl
        (try simp only [Act.put, List.setIfInBounds_toArray, List.set_cons_zero, List.set_cons_succ])
        refine wpAnyH_take (i := 2) (oi := ⟨some 166, _, _, _, _, _⟩) (v := .pointer (some ⟨ra.b, 0, none⟩)) rfl (by kernel_rfl) (by kernel_rfl) (by kernel_rfl) (fun _ _ _ h => h) (Or.inl ⟨by rfl, fun wz hz => ?_⟩) HS.out ?_
        · clear hz; go_simp; first | done | with_reducible rfl | rfl
        (try simp only [Act.put, List.setIfInBounds_toArray, List.set_cons_zero, List.set_cons_succ])
        refine held_load1 (oi := ⟨some 167, _, _, _, _, _⟩) 3 rfl (by kernel_rfl) (by kernel_rfl) (by kernel_rfl) (fun _ _ _ _ h => h) rfl 57 (.tmp 166) rfl ra.b (0) rfl (.pointer (some ⟨ra.b1, 0, none⟩)) _ (fun u' hu => hu.1.cell 0) Try.underlying57 rfl HS.out ?_
        (try simp only [Act.put, List.setIfInBounds_toArray, List.set_cons_zero, List.set_cons_succ])
        refine wpAnyH_take (i := 4) (oi := ⟨some 168, _, _, _, _, _⟩) (v := .int .u64 ep) rfl (by kernel_rfl) (by kernel_rfl) (by kernel_rfl) (fun _ _ _ h => h) (Or.inl ⟨by rfl, fun wz hz => ?_⟩) HS.out ?_
        · clear hz; go_simp; first | done | with_reducible rfl | rfl
        (try simp only [Act.put, List.setIfInBounds_toArray, List.set_cons_zero, List.set_cons_succ])
        refine held_load (oi := ⟨some 169, _, _, _, _, _⟩) 5 rfl (by kernel_rfl) (by kernel_rfl) (by kernel_rfl) (fun _ _ _ _ h => h) rfl 28 (.tmp 17) rfl w3.heap.size 0 rfl R _ (fun u' hu => hu.2.range) Try.underlying28 rfl (hiRR) HS.out ?_
        (try simp only [Act.put, List.setIfInBounds_toArray, List.set_cons_zero, List.set_cons_succ])
        refine wpAnyH_take (i := 6) (oi := ⟨some 170, _, _, _, _, _⟩) (v := .slice wa ws.length wc) rfl (by kernel_rfl) (by kernel_rfl) (by kernel_rfl) (fun _ _ _ h => h) (Or.inl ⟨by rfl, fun wz hz => ?_⟩) HS.out ?_
        · clear hz; go_simp; first | done | with_reducible rfl | rfl
        (try simp only [Act.put, List.setIfInBounds_toArray, List.set_cons_zero, List.set_cons_succ])
        refine wpAnyH_ready (rs := [7]) (by kernel_rfl) (by simp) ?_
        refine AllReadyH.cons (o := ⟨some 171, _, _, _, _, _⟩) rfl (fun K hK => ?_) AllReadyH.nil
        rw [if_pos (by rfl)]
        go_simp
        have hca := cast_any ra.b1 ra.g1 vs ep r (.slice wa ws.length wc) ws x HSP.out.rg.vot HEP.out HRO.out HXI.out (HWN.out.off (by have := HSP.out.rg.hi; omega))
        rw [hR.out] at hca
        refine hca.mono ?_
        rintro e w6 ⟨he6, hv6, hg6⟩
        obtain rfl : e = .returned (.tuple #[.int .i64 cn, .int .i64 0]) := by rw [he6, hTC.out, HWV.out]
        clear he6
        have hv6 : VtI w6 ra.b1 ra.g1 T := by rw [hTC.out] at hv6; exact hv6
        have hhi := HSP.out.rg.hi
        have HS6 : Hid (Blk w6 ra.b #[.pointer (some ⟨ra.b1, 0, none⟩), .pointer (some ⟨ra.b2, 0, none⟩), .pointer (some ⟨ra.b3, 0, none⟩)] ∧ Blk w6 w3.heap.size R.toArray) := ⟨HS.out.1.grown hg6 (by simpa using HSP.out.rg.ap.1), HS.out.2.grown hg6 (by have := HXL.out; simp; omega)⟩
        have HSP6 := Lib.hid (HSP.out.cast HXW.out HN4.out hv6 HTL.out hg6)
        have HVB6 := Lib.hid (HVB.out.grown hg6 (by have := HVH.out; simp; omega))
        refine hK.out _ _ HS6.out (fun _ => ?_)
        clear hK K hca hv6 hg6 hhi HS HSP HVB HXW HXI HXR
        have HS := HS6
        clear HS6
        (try simp only [Act.put, List.setIfInBounds_toArray, List.set_cons_zero, List.set_cons_succ])
        refine wpAnyH_take (i := 8) (oi := ⟨some 163, _, _, _, _, _⟩) (v := .tuple #[.int .i64 cn, .int .i64 0]) rfl (by kernel_rfl) (by kernel_rfl) (by kernel_rfl) (fun _ _ _ h => h) (Or.inl ⟨by rfl, fun wz hz => ?_⟩) HS.out ?_
        · clear hz; go_simp; first | done | with_reducible rfl | rfl
        (try simp only [Act.put, List.setIfInBounds_toArray, List.set_cons_zero, List.set_cons_succ])
        refine wpAnyH_take (i := 9) (oi := ⟨some 172, _, _, _, _, _⟩) (v := .int .i64 cn) rfl (by kernel_rfl) (by kernel_rfl) (by kernel_rfl) (fun _ _ _ h => h) (Or.inl ⟨by rfl, fun wz hz => ?_⟩) HS.out ?_
        · clear hz; go_simp; first | done | with_reducible rfl | rfl
        (try simp only [Act.put, List.setIfInBounds_toArray, List.set_cons_zero, List.set_cons_succ])
        refine wpAnyH_take (i := 10) (oi := ⟨some 173, _, _, _, _, _⟩) (v := .int .i64 0) rfl (by kernel_rfl) (by kernel_rfl) (by kernel_rfl) (fun _ _ _ h => h) (Or.inl ⟨by rfl, fun wz hz => ?_⟩) HS.out ?_
        · clear hz; go_simp; first | done | with_reducible rfl | rfl
        (try simp only [Act.put, List.setIfInBounds_toArray, List.set_cons_zero, List.set_cons_succ])
        refine wpAnyH_ready (rs := [11]) (by kernel_rfl) (by simp) ?_
        refine AllReadyH.cons (o := ⟨some 20, _, _, _, _, _⟩) rfl (fun K hK => ?_) AllReadyH.nil
        go_simp
        refine hK.out _ _ HS.out (fun _ => ?_)
        clear hK K
        (try simp only [Act.put, List.setIfInBounds_toArray, List.set_cons_zero, List.set_cons_succ])
        refine wpAnyH_ready (rs := [12]) (by kernel_rfl) (by simp) ?_
        refine AllReadyH.cons (o := ⟨some 21, _, _, _, _, _⟩) rfl (fun K hK => ?_) AllReadyH.nil
        go_simp
        refine hK.out _ _ HS.out (fun _ => ?_)
        clear hK K
        (try simp only [Act.put, List.setIfInBounds_toArray, List.set_cons_zero, List.set_cons_succ])
        refine wpAnyH_done (by kernel_rfl) ?_ _
        clear HS
        have hcc : (cn != cn) = false := by simp
        go_wp2_with (first
          | ((with_reducible refine at_store (.tmp 182) ?_); refine wpList_store_part1 rfl 44 (.tmp 182) _ rfl vb [[.slice la vs.length lc], [.slice ea en ec]] 0 (.slice la vs.length lc) (.slice a8 T.length c8) HVB6.out rfl rfl rfl (by kernel_rfl) rfl rfl ?_; intro w7 U7 B7; have HS7 := Lib.hid (HSP6.out.upd HVB6.out HVH.out U7); have HV7 := Lib.hid B7; clear U7 B7)
          | ((with_reducible refine at_load (.tmp 11) ?_); refine wpList_load_g 47 (.tmp 11) rfl vb rfl #[.slice a8 T.length c8, .slice ea en ec] _ HV8.out Try.underlying47 rfl hi2 rfl ?_)
          | ((with_reducible refine at_load (.tmp 11) ?_); refine wpList_load_g 47 (.tmp 11) rfl vb rfl #[.slice a8 T.length c8, .slice ea en ec] _ HV7.out Try.underlying47 rfl hi2 rfl ?_)
          | (go_at_call 9; refine (same10_any lo hi ra P Q T gs E ds _ _ _ w7 HS7.out.rg HS7.out.mat (by have h1 := HS7.out.len; have h2 := HQ.out; omega) HS7.out.lat HS7.out.eq (elv_zero HS7.out.tab.1)).mono ?_; rintro e w8 ⟨rfl, hb8⟩; have HS8 := Lib.hid (HS7.out.call hb8); have HV8 := Lib.hid (HV7.out.call hb8); clear hb8)
          | (go_at_call 18; refine (weighs_any lo hi ra P Q T gs E ds _ _ _ w8 HS8.out.rg HS8.out.mat (by have h1 := HS8.out.len; have h2 := HQ.out; omega) HS8.out.lat HS8.out.eq (elv_zero HS8.out.tab.1) HS8.out.far).mono ?_; rintro e w9 ⟨rfl, hb9⟩; have HS9 := Lib.hid (HS8.out.call hb9); have HV9 := Lib.hid (HV8.out.call hb9); clear hb9))
        go_roundw
        case rel => exact ⟨k + 1, by omega, by go_num, _, _, _, _, _, T, gs, E, ds, HS9.out, HV9.out⟩
        case measure => simp [intOf]; omega
      · have HXS := trivial
        go_wp2_with (first
          | ((with_reducible refine at_load (.tmp 86) ?_); refine wpList_load_1 3 (.tmp 86) rfl xb (xo + k) (.int .i64 xx) HCX.out rfl _ Try.underlying3 rfl rfl ?_)
          | (go_at_call 11; refine (HSO.out _ _).mono ?_; rintro e w2 ⟨sv, ws, rfl, ho2, hl2, ⟨hr2, hg2⟩, hb2⟩; obtain ⟨wa, wc, rfl, hcap2⟩ := ho2.cap; have HI2 : Hid (IntsV w2 (.slice wa ws.length wc) ws) := Lib.hid ⟨ho2.ints (by unfold maxLen; omega), fun x hx => by have := hr2 x hx; omega⟩; have HWN : Hid (New hi (.slice wa ws.length wc)) := Lib.hid (ho2.new.mono HS.out.rg.hi.2.2.2); have HWS : Hid (vlE ws P = 0) := Lib.hid (hg2 (by omega)); have HWC : Hid (ws.length ≤ wc ∧ ws.length ≤ 4) := Lib.hid ⟨hcap2, by omega⟩; have HS2 := Lib.hid (HS.out.call hb2); have HV2 := Lib.hid (HV.out.call hb2); clear ho2 hl2 hr2 hg2 hb2 hcap2))
        have hwl := (vl_good HWS.out).1
        obtain ⟨wb, wo, rfl⟩ := slice_some HI2.out hwl
        obtain ⟨x0, hx0⟩ : ∃ x0, ws.getD 0 0 = x0 := ⟨_, rfl⟩
        have HW0 := Lib.hid (And.intro hwl hx0)
        have hxr := (vl_good HWS.out).2 0 hwl
        rw [hx0] at hxr
        have HX0 : Hid (0 ≤ x0 ∧ x0 < P) := ⟨hxr.1, hxr.2.1⟩
        have HX0V : Hid (vlE [x0] gs.length = 0) := by
          show _ = _
          rw [HGP.out]
          refine vl_of (by simp) fun i hi => ?_
          obtain rfl : i = 0 := by simp at hi; exact hi
          exact ⟨HX0.out.1, HX0.out.2, fun h => absurd h (by omega)⟩
        obtain ⟨G, cn, htc, hgl, hgm, hcn, _⟩ := punR_yes HX0V.out
        have hTC := Lib.hid htc
        have HGL := Lib.hid hgl
        have HGM := Lib.hid hgm
        have HCN := Lib.hid hcn
        have HML := Lib.hid (memS_len HGP.out)
        have HWB : Hid (hi ≤ wb) := HWN.out _ _ _ rfl hwl
        have HSL : Hid (∀ u, (Instr.sliceAt 45 (.slice (some ⟨wb, wo, none⟩) ws.length wc) none (some (.int .i64 1)) none).run Try.prog u = .ok (.slice (some ⟨wb, wo, none⟩) 1 wc) u) := fun u => runSlHi Try.underlying45 (by kernel_rfl) size_intP (some ⟨wb, wo, none⟩) ws.length wc 1 (by have := HWC.out; omega) u
        have hwp : (0 : Int) < (ws.length : Int) := by omega
        clear htc hgl hgm hcn hxr hx0
        obtain ⟨x, hx⟩ : ∃ x, w2.drew = x := ⟨_, rfl⟩
        have hbd : Below w2.heap.size w2 x := by rw [← hx]; exact ⟨rfl, rfl, rfl, Nat.le_refl _, fun _ _ => rfl⟩
        have HSP := Lib.hid (HS2.out.call hbd)
        have HVB := Lib.hid (HV2.out.call hbd)
        have HXI := Lib.hid (IntsV.call HI2.out hbd)
        have HS : Hid (Blk x vb #[.slice la vs.length lc, .slice ea en ec]) := HVB.out
        clear hbd HS2 HV2 HI2
        refine wp_region_held_drew (S := fun u' => Blk u' vb #[.slice la vs.length lc, .slice ea en ec]) (by kernel_rfl) (by rw [hx]; exact HS.out) (fun _ => ?_)
        rw [hx]
        clear hx
        (try simp only [Act.put, List.setIfInBounds_toArray, List.set_cons_zero, List.set_cons_succ])
        refine wpAnyH_take (i := 0) (oi := ⟨some 186, _, _, _, _, _⟩) (v := .pointer (some ⟨vb, 1, none⟩)) rfl (by kernel_rfl) (by kernel_rfl) (by kernel_rfl) (fun _ _ _ h => h) (Or.inl ⟨by rfl, fun wz hz => ?_⟩) HS.out ?_
        · clear hz; go_simp; first | done | with_reducible rfl | rfl
        (try simp only [Act.put, List.setIfInBounds_toArray, List.set_cons_zero, List.set_cons_succ])
        refine held_load1 (oi := ⟨some 187, _, _, _, _, _⟩) 1 rfl (by kernel_rfl) (by kernel_rfl) (by kernel_rfl) (fun _ _ _ _ h => h) rfl 45 (.tmp 186) rfl vb (1) rfl (.slice ea en ec) _ (fun u' hu => hu.cell 1) Try.underlying45 rfl HS.out ?_
        (try simp only [Act.put, List.setIfInBounds_toArray, List.set_cons_zero, List.set_cons_succ])
        refine wpAnyH_take (i := 2) (oi := ⟨some 188, _, _, _, _, _⟩) (v := .slice (some ⟨wb, wo, none⟩) ws.length wc) rfl (by kernel_rfl) (by kernel_rfl) (by kernel_rfl) (fun _ _ _ h => h) (Or.inl ⟨by rfl, fun wz hz => ?_⟩) HS.out ?_
        · clear hz; go_simp; first | done | with_reducible rfl | rfl
        (try simp only [Act.put, List.setIfInBounds_toArray, List.set_cons_zero, List.set_cons_succ])
        refine held_slice (oi := ⟨some 189, _, _, _, _, _⟩) 3 rfl (by kernel_rfl) (by kernel_rfl) (by kernel_rfl) (fun _ _ _ _ h => h) rfl 45 (.tmp 188) none (some (.const (.int .i64 1))) none rfl (.slice (some ⟨wb, wo, none⟩) ws.length wc) none (some (.int .i64 1)) none rfl rfl rfl rfl (.slice (some ⟨wb, wo, none⟩) 1 wc) HSL.out HS.out ?_
        (try simp only [Act.put, List.setIfInBounds_toArray, List.set_cons_zero, List.set_cons_succ])
        refine wpAnyH_ready (rs := [4]) (by kernel_rfl) (by simp) ?_
        refine AllReadyH.cons (o := ⟨some 190, _, _, _, _, _⟩) rfl (fun K hK => ?_) AllReadyH.nil
        rw [if_pos (by rfl)]
        go_simp
        refine (punish_any (.slice ea en ec) (memS gs) (.slice (some ⟨wb, wo, none⟩) 1 wc) [x0] x HSP.out.eq (ints_first HXI.out HW0.out) (by have := HML.out; omega) (by simp)).mono ?_
        rintro e w4 ⟨v8, he, hi8, _, hn8, hb⟩
        obtain rfl : e = .returned (.tuple #[v8, .int .i64 cn]) := by rw [he, HCN.out]
        obtain ⟨a8, n8, c8, rfl⟩ := ints_shape' hi8.1
        have HE4 : Hid (IntsV w4 (.slice a8 n8 c8) (memS G)) := by show IntsV _ _ _; rw [HGM.out]; exact hi8
        have HN4 : Hid (New hi (.slice a8 n8 c8)) := hn8.mono (HSP.out.rg.hi.2.2.2)
        have HS4 := Lib.hid (HSP.out.call hb)
        have HV4 := Lib.hid (HVB.out.call hb)
        have HI4 := Lib.hid (IntsV.call HXI.out hb)
        have HSn := Lib.hid (HS.out.call hb)
        refine hK.out _ _ HSn.out (fun _ => ?_)
        clear hK K he hi8 hn8 hb HS HSP HVB HXI
        have HS := HSn
        clear HSn
        (try simp only [Act.put, List.setIfInBounds_toArray, List.set_cons_zero, List.set_cons_succ])
        refine wpAnyH_take (i := 5) (oi := ⟨some 185, _, _, _, _, _⟩) (v := .tuple #[.slice a8 n8 c8, .int .i64 cn]) rfl (by kernel_rfl) (by kernel_rfl) (by kernel_rfl) (fun _ _ _ h => h) (Or.inl ⟨by rfl, fun wz hz => ?_⟩) HS.out ?_
        · clear hz; go_simp; first | done | with_reducible rfl | rfl
        (try simp only [Act.put, List.setIfInBounds_toArray, List.set_cons_zero, List.set_cons_succ])
        refine wpAnyH_take (i := 6) (oi := ⟨some 191, _, _, _, _, _⟩) (v := .slice a8 n8 c8) rfl (by kernel_rfl) (by kernel_rfl) (by kernel_rfl) (fun _ _ _ h => h) (Or.inl ⟨by rfl, fun wz hz => ?_⟩) HS.out ?_
        · clear hz; go_simp; first | done | with_reducible rfl | rfl
        (try simp only [Act.put, List.setIfInBounds_toArray, List.set_cons_zero, List.set_cons_succ])
        refine wpAnyH_take (i := 7) (oi := ⟨some 192, _, _, _, _, _⟩) (v := .int .i64 cn) rfl (by kernel_rfl) (by kernel_rfl) (by kernel_rfl) (fun _ _ _ h => h) (Or.inl ⟨by rfl, fun wz hz => ?_⟩) HS.out ?_
        · clear hz; go_simp; first | done | with_reducible rfl | rfl
        (try simp only [Act.put, List.setIfInBounds_toArray, List.set_cons_zero, List.set_cons_succ])
        refine wpAnyH_ready (rs := [8]) (by kernel_rfl) (by simp) ?_
        refine AllReadyH.cons (o := ⟨some 22, _, _, _, _, _⟩) rfl (fun K hK => ?_) AllReadyH.nil
        go_simp
        refine hK.out _ _ HS.out (fun _ => ?_)
        clear hK K
        (try simp only [Act.put, List.setIfInBounds_toArray, List.set_cons_zero, List.set_cons_succ])
        refine wpAnyH_ready (rs := [9]) (by kernel_rfl) (by simp) ?_
        refine AllReadyH.cons (o := ⟨some 23, _, _, _, _, _⟩) rfl (fun K hK => ?_) AllReadyH.nil
        go_simp
        refine hK.out _ _ HS.out (fun _ => ?_)
        clear hK K
        (try simp only [Act.put, List.setIfInBounds_toArray, List.set_cons_zero, List.set_cons_succ])
        refine wpAnyH_done (by kernel_rfl) ?_ _
        clear HS
        go_wp2_with fail
        obtain ⟨x, hx⟩ : ∃ x, w4.drew = x := ⟨_, rfl⟩
        have hbd : Below w4.heap.size w4 x := by rw [← hx]; exact ⟨rfl, rfl, rfl, Nat.le_refl _, fun _ _ => rfl⟩
        have HSP := Lib.hid (HS4.out.call hbd)
        have HVB := Lib.hid (HV4.out.call hbd)
        have HXI := Lib.hid (IntsV.call HI4.out hbd)
        have HXE := Lib.hid (IntsV.call HE4.out hbd)
        have HS : Hid (Blk x ra.b #[.pointer (some ⟨ra.b1, 0, none⟩), .pointer (some ⟨ra.b2, 0, none⟩), .pointer (some ⟨ra.b3, 0, none⟩)] ∧ x.cell? ⟨wb, wo + 0, none⟩ = some (.int .i64 x0)) := ⟨HSP.out.rg.blk, (first_cell HXI.out HW0.out).2⟩
        clear hbd HS4 HV4 HI4 HE4
        refine wp_region_held_drew (S := fun u' => Blk u' ra.b #[.pointer (some ⟨ra.b1, 0, none⟩), .pointer (some ⟨ra.b2, 0, none⟩), .pointer (some ⟨ra.b3, 0, none⟩)] ∧ u'.cell? ⟨wb, wo + 0, none⟩ = some (.int .i64 x0)) (by kernel_rfl) (by rw [hx]; exact HS.out) (fun _ => ?_)
        rw [hx]
        clear hx
        (try simp only [Act.put, List.setIfInBounds_toArray, List.set_cons_zero, List.set_cons_succ])
        refine wpAnyH_take (i := 0) (oi := ⟨some 194, _, _, _, _, _⟩) (v := .pointer (some ⟨ra.b, 0, none⟩)) rfl (by kernel_rfl) (by kernel_rfl) (by kernel_rfl) (fun _ _ _ h => h) (Or.inl ⟨by rfl, fun wz hz => ?_⟩) HS.out ?_
        · clear hz; go_simp; first | done | with_reducible rfl | rfl
        (try simp only [Act.put, List.setIfInBounds_toArray, List.set_cons_zero, List.set_cons_succ])
        refine wpAnyH_take (i := 1) (oi := ⟨some 195, _, _, _, _, _⟩) (v := .pointer (some ⟨ra.b, 0, none⟩)) rfl (by kernel_rfl) (by kernel_rfl) (by kernel_rfl) (fun _ _ _ h => h) (Or.inl ⟨by rfl, fun wz hz => ?_⟩) HS.out ?_
        · clear hz; go_simp; first | done | with_reducible rfl | rfl
        (try simp only [Act.put, List.setIfInBounds_toArray, List.set_cons_zero, List.set_cons_succ])
        refine wpAnyH_take (i := 2) (oi := ⟨some 196, _, _, _, _, _⟩) (v := .pointer (some ⟨ra.b, 1, none⟩)) rfl (by kernel_rfl) (by kernel_rfl) (by kernel_rfl) (fun _ _ _ h => h) (Or.inl ⟨by rfl, fun wz hz => ?_⟩) HS.out ?_
        · clear hz; go_simp; first | done | with_reducible rfl | rfl
        (try simp only [Act.put, List.setIfInBounds_toArray, List.set_cons_zero, List.set_cons_succ])
        refine held_load1 (oi := ⟨some 197, _, _, _, _, _⟩) 3 rfl (by kernel_rfl) (by kernel_rfl) (by kernel_rfl) (fun _ _ _ _ h => h) rfl 58 (.tmp 196) rfl ra.b (1) rfl (.pointer (some ⟨ra.b2, 0, none⟩)) _ (fun u' hu => hu.1.cell 1) Try.underlying58 rfl HS.out ?_
        (try simp only [Act.put, List.setIfInBounds_toArray, List.set_cons_zero, List.set_cons_succ])
        refine wpAnyH_take (i := 4) (oi := ⟨some 198, _, _, _, _, _⟩) (v := .slice (some ⟨wb, wo, none⟩) ws.length wc) rfl (by kernel_rfl) (by kernel_rfl) (by kernel_rfl) (fun _ _ _ h => h) (Or.inl ⟨by rfl, fun wz hz => ?_⟩) HS.out ?_
        · clear hz; go_simp; first | done | with_reducible rfl | rfl
        (try simp only [Act.put, List.setIfInBounds_toArray, List.set_cons_zero, List.set_cons_succ])
        refine wpAnyH_take (i := 5) (oi := ⟨some 199, _, _, _, _, _⟩) (v := .pointer (some ⟨wb, wo + 0, none⟩)) rfl (by kernel_rfl) (by kernel_rfl) (by kernel_rfl) (fun _ _ _ h => h) (Or.inl ⟨by rfl, fun wz hz => ?_⟩) HS.out ?_
        · clear hz; go_simp; first | done | with_reducible rfl | rfl
        (try simp only [Act.put, List.setIfInBounds_toArray, List.set_cons_zero, List.set_cons_succ])
        refine held_load1 (oi := ⟨some 200, _, _, _, _, _⟩) 6 rfl (by kernel_rfl) (by kernel_rfl) (by kernel_rfl) (fun _ _ _ _ h => h) rfl 3 (.tmp 199) rfl wb (wo + 0) rfl (.int .i64 x0) _ (fun u' hu => hu.2) Try.underlying3 rfl HS.out ?_
        (try simp only [Act.put, List.setIfInBounds_toArray, List.set_cons_zero, List.set_cons_succ])
        refine wpAnyH_ready (rs := [7]) (by kernel_rfl) (by simp) ?_
        refine AllReadyH.cons (o := ⟨some 201, _, _, _, _, _⟩) rfl (fun K hK => ?_) AllReadyH.nil
        rw [if_pos (by rfl)]
        refine wp_buildSlice 45 1 _ rfl #[(0, .int .i64 x0)] (by simp [Act.eval, Act.put]) _ (bs_int x0 x) ?_
        have hba := (Below.refl x.heap.size x).alloc (Nat.le_refl _) (.cells #[.int .i64 x0] 3)
        have HSa : Hid (Blk (x.alloc (.cells #[.int .i64 x0] 3)) ra.b #[.pointer (some ⟨ra.b1, 0, none⟩), .pointer (some ⟨ra.b2, 0, none⟩), .pointer (some ⟨ra.b3, 0, none⟩)] ∧ (x.alloc (.cells #[.int .i64 x0] 3)).cell? ⟨wb, wo + 0, none⟩ = some (.int .i64 x0)) := ⟨HS.out.1.call hba, by rw [World.cell?_alloc_some _ _ _ (by rw [HS.out.2]; rfl)]; exact HS.out.2⟩
        have HIa : Hid (IntsV (x.alloc (.cells #[.int .i64 x0] 3)) (.slice (some ⟨x.heap.size, 0, none⟩) 1 1) [x0]) := ints_1 (Blk.new rfl) (by have := HX0.out; omega)
        have HSPa := Lib.hid (HSP.out.call hba)
        have HVBa := Lib.hid (HVB.out.call hba)
        have HXEa := Lib.hid (IntsV.call HXE.out hba)
        have HOF : Hid (Off ra.g2 (.slice (some ⟨x.heap.size, 0, none⟩) 1 1)) := off_new (by have := HSP.out.rg.hi; omega)
        refine hK.out _ _ HSa.out (fun _ => ?_)
        clear hK K HS HSP HVB HXE hba
        have HS := HSa
        clear HSa
        (try simp only [Act.put, List.setIfInBounds_toArray, List.set_cons_zero, List.set_cons_succ])
        refine wpAnyH_ready (rs := [8]) (by kernel_rfl) (by simp) ?_
        refine AllReadyH.cons (o := ⟨some 202, _, _, _, _, _⟩) rfl (fun K hK => ?_) AllReadyH.nil
        rw [if_pos (by rfl)]
        go_simp
        have hpu := punish_code ra.b2 ra.g2 gs (.slice (some ⟨x.heap.size, 0, none⟩) 1 1) [x0] _ HSPa.out.rg.set HIa.out HOF.out
        refine hpu.mono ?_
        rintro e w6 ⟨he6, hv6, hg6⟩
        obtain rfl : e = .returned (.tuple #[.int .i64 cn, .int .i64 0]) := by rw [he6, hTC.out, HX0V.out]
        clear he6
        have hv6 : SetI w6 ra.b2 ra.g2 G := by rw [hTC.out] at hv6; exact hv6
        have hhi := HSPa.out.rg.hi
        have HS6 : Hid (Blk w6 ra.b #[.pointer (some ⟨ra.b1, 0, none⟩), .pointer (some ⟨ra.b2, 0, none⟩), .pointer (some ⟨ra.b3, 0, none⟩)] ∧ w6.cell? ⟨wb, wo + 0, none⟩ = some (.int .i64 x0)) := ⟨HS.out.1.grown hg6 (by simpa using HSPa.out.rg.ap.2.1), by rw [hg6.cell_far ⟨wb, wo + 0, none⟩ (by have := (first_cell HXI.out HW0.out).1; simp; omega) (by have := HWB.out; simp; omega)]; exact HS.out.2⟩
        have HSP6 := Lib.hid (HSPa.out.punish HXEa.out HN4.out hv6 HGL.out hg6)
        have HVB6 := Lib.hid (HVBa.out.grown hg6 (by have := HVH.out; simp; omega))
        refine hK.out _ _ HS6.out (fun _ => ?_)
        clear hK K hpu hv6 hg6 hhi HS HSPa HVBa HXEa HIa HOF HXI
        have HS := HS6
        clear HS6
        (try simp only [Act.put, List.setIfInBounds_toArray, List.set_cons_zero, List.set_cons_succ])
        refine wpAnyH_take (i := 9) (oi := ⟨some 193, _, _, _, _, _⟩) (v := .tuple #[.int .i64 cn, .int .i64 0]) rfl (by kernel_rfl) (by kernel_rfl) (by kernel_rfl) (fun _ _ _ h => h) (Or.inl ⟨by rfl, fun wz hz => ?_⟩) HS.out ?_
        · clear hz; go_simp; first | done | with_reducible rfl | rfl
        (try simp only [Act.put, List.setIfInBounds_toArray, List.set_cons_zero, List.set_cons_succ])
        refine wpAnyH_take (i := 10) (oi := ⟨some 203, _, _, _, _, _⟩) (v := .int .i64 cn) rfl (by kernel_rfl) (by kernel_rfl) (by kernel_rfl) (fun _ _ _ h => h) (Or.inl ⟨by rfl, fun wz hz => ?_⟩) HS.out ?_
        · clear hz; go_simp; first | done | with_reducible rfl | rfl
        (try simp only [Act.put, List.setIfInBounds_toArray, List.set_cons_zero, List.set_cons_succ])
        refine wpAnyH_take (i := 11) (oi := ⟨some 204, _, _, _, _, _⟩) (v := .int .i64 0) rfl (by kernel_rfl) (by kernel_rfl) (by kernel_rfl) (fun _ _ _ h => h) (Or.inl ⟨by rfl, fun wz hz => ?_⟩) HS.out ?_
        · clear hz; go_simp; first | done | with_reducible rfl | rfl
        (try simp only [Act.put, List.setIfInBounds_toArray, List.set_cons_zero, List.set_cons_succ])
        refine wpAnyH_ready (rs := [12]) (by kernel_rfl) (by simp) ?_
        refine AllReadyH.cons (o := ⟨some 24, _, _, _, _, _⟩) rfl (fun K hK => ?_) AllReadyH.nil
        go_simp
        refine hK.out _ _ HS.out (fun _ => ?_)
        clear hK K
        (try simp only [Act.put, List.setIfInBounds_toArray, List.set_cons_zero, List.set_cons_succ])
        refine wpAnyH_ready (rs := [13]) (by kernel_rfl) (by simp) ?_
        refine AllReadyH.cons (o := ⟨some 25, _, _, _, _, _⟩) rfl (fun K hK => ?_) AllReadyH.nil
        go_simp
        refine hK.out _ _ HS.out (fun _ => ?_)
        clear hK K
        (try simp only [Act.put, List.setIfInBounds_toArray, List.set_cons_zero, List.set_cons_succ])
        refine wpAnyH_done (by kernel_rfl) ?_ _
        clear HS
        have hcc : (cn != cn) = false := by simp
        go_wp2_with (first
          | ((with_reducible refine at_store (.tmp 213) ?_); refine wpList_store_part1 rfl 45 (.tmp 213) _ rfl vb [[.slice la vs.length lc], [.slice ea en ec]] 1 (.slice ea en ec) (.slice a8 n8 c8) HVB6.out rfl rfl rfl (by kernel_rfl) rfl rfl ?_; intro w7 U7 B7; have HS7 := Lib.hid (HSP6.out.upd HVB6.out HVH.out U7); have HV7 := Lib.hid B7; clear U7 B7)
          | ((with_reducible refine at_load (.tmp 11) ?_); refine wpList_load_g 47 (.tmp 11) rfl vb rfl #[.slice la vs.length lc, .slice a8 n8 c8] _ HV8.out Try.underlying47 rfl hi2 rfl ?_)
          | ((with_reducible refine at_load (.tmp 11) ?_); refine wpList_load_g 47 (.tmp 11) rfl vb rfl #[.slice la vs.length lc, .slice a8 n8 c8] _ HV7.out Try.underlying47 rfl hi2 rfl ?_)
          | (go_at_call 9; refine (same10_any lo hi ra P Q vs G E ds _ _ _ w7 HS7.out.rg HS7.out.mat (by have h1 := HS7.out.len; have h2 := HQ.out; omega) HS7.out.lat HS7.out.eq (elv_zero HS7.out.tab.1)).mono ?_; rintro e w8 ⟨rfl, hb8⟩; have HS8 := Lib.hid (HS7.out.call hb8); have HV8 := Lib.hid (HV7.out.call hb8); clear hb8)
          | (go_at_call 18; refine (weighs_any lo hi ra P Q vs G E ds _ _ _ w8 HS8.out.rg HS8.out.mat (by have h1 := HS8.out.len; have h2 := HQ.out; omega) HS8.out.lat HS8.out.eq (elv_zero HS8.out.tab.1) HS8.out.far).mono ?_; rintro e w9 ⟨rfl, hb9⟩; have HS9 := Lib.hid (HS8.out.call hb9); have HV9 := Lib.hid (HV8.out.call hb9); clear hb9))
        go_roundw
        case rel => exact ⟨k + 1, by omega, by go_num, _, _, _, _, _, vs, G, E, ds, HS9.out, HV9.out⟩
        case measure => simp [intOf]; omega
      · have HXS := trivial
        obtain ⟨ep, hep⟩ : ∃ ep, IntKind.u64.wrap (bits .and .i64 (KK / 256) 3) = ep := ⟨_, rfl⟩
        have HEP : Hid (0 ≤ ep ∧ ep ≤ 3) := by
          obtain ⟨m, hm3, hm⟩ := i64_and3_nat (KK / 256)
          show _ ∧ _
          rw [← hep, hm, u64_wrap (by omega) (by omega)]; omega
        go_wp2_with (first
          | ((with_reducible refine at_load (.tmp 86) ?_); refine wpList_load_1 3 (.tmp 86) rfl xb (xo + k) (.int .i64 xx) HCX.out rfl _ Try.underlying3 rfl rfl ?_)
          | (go_at_call 11; refine (HSO.out _ _).mono ?_; rintro e w2 ⟨sv, ws, rfl, ho2, hl2, ⟨hr2, hg2⟩, hb2⟩; obtain ⟨wa, wc, rfl, hcap2⟩ := ho2.cap; have HI2 : Hid (IntsV w2 (.slice wa ws.length wc) ws) := Lib.hid ⟨ho2.ints (by unfold maxLen; omega), fun x hx => by have := hr2 x hx; omega⟩; have HWN : Hid (New hi (.slice wa ws.length wc)) := Lib.hid (ho2.new.mono HS.out.rg.hi.2.2.2); have HWS : Hid (vlE ws P = 0) := Lib.hid (hg2 (by omega)); have HWC : Hid (ws.length ≤ wc ∧ ws.length ≤ 4) := Lib.hid ⟨hcap2, by omega⟩; have HS2 := Lib.hid (HS.out.call hb2); have HV2 := Lib.hid (HV.out.call hb2); clear ho2 hl2 hr2 hg2 hb2 hcap2)
          | (go_at_call 10; refine (HRS.out _ _).mono ?_; rintro e w3 ⟨⟨r, hr, rfl⟩, hb3⟩; have HCK : Hid (CpD.ok ⟨ep, r⟩) := Lib.hid ⟨HEP.out.1, by have := HEP.out.2; show ep ≤ 18446744073709551615; omega, hr⟩; have HS3 := Lib.hid (HS2.out.call hb3); have HV3 := Lib.hid (HV2.out.call hb3); clear hb3)
          | ((with_reducible refine at_build (some 104) ?_); refine wpList_build rfl 34 _ rfl #[(0, .int .u64 ep), (1, .agg (bytesL r).toArray)] (by simp [Act.eval, Act.put, hep]) (.agg (CpD.mk ep r).cells.toArray) (build_cpd hr _) ?_)
          | ((with_reducible refine at_build (some 105) ?_); refine wpList_build rfl 36 _ rfl #[(0, .agg (CpD.mk ep r).cells.toArray)] (by simp [Act.eval, Act.put]) _ (build_tb0 HCK.out _) ?_)
          | ((with_reducible refine at_store (.tmp 26) ?_); have hY := (tabOff HCK.out nilS).2.2; refine wpList_store_blk rfl 36 (.tmp 26) _ rfl w3.heap.size (flatP [(CpD.mk ep r).cells, [nilS]]) rfl rfl ZT (Blk.new rfl) (by rw [hszT, hY]) (by rw [hY]; kernel_rfl) (fun v hv => tab_one v hv) ?_; intro w3b U3 B3; have hb3b := U3.below ((Below.refl w3.heap.size w3).alloc (Nat.le_refl _) (.cells ZT 36)) (Nat.le_refl _); have HTL : Hid (TbI w3 P ⟨ep, r⟩ (.int .i64 0) w3b) := Lib.hid ⟨0, nilS, [], by omega, rfl, rfl, by simp, OwnN.nil _ _, B3, hb3b⟩; clear hb3b U3 B3 hY))
        obtain ⟨c, hcD⟩ : ∃ c, Hid ((CpD.mk ep r) = c) := ⟨_, Lib.hid rfl⟩
        have HC3 : Hid (c.n ≤ 3) := by show c.n ≤ 3; rw [← hcD.out]; exact HEP.out.2
        rw [hcD.out] at HCK HTL
        go_loopw [27] (fun i wy => TbI w3 P c i wy) (fun i _ => P - (intOf i).toNat)
        case atStart => exact HTL.out
        case round =>
          obtain ⟨j, v, l, hj, rfl, hlj, hrg, hown, hT, hbel⟩ := hrel
          have HJ := Lib.hid hlj
          have HRG := Lib.hid hrg
          have HN := Lib.hid hown
          have HT := Lib.hid hT
          have HBL := Lib.hid hbel
          clear hlj hrg hown hT hbel HTL
          obtain ⟨va, vk, hv, hvk⟩ := HN.out.shape
          subst hv
          by_cases hlt : j < P
          case pos =>
            have hlt' : (j : Int) < P := by omega
            go_wp2_with (first
              | ((with_reducible refine at_load (.tmp 111) ?_); refine wpList_load_1 29 (.tmp 111) rfl w3.heap.size 33 (.slice va l.length vk) (HT.out.cellAt (k := 1) rfl (tabOff HCK.out _).2.1) rfl _ Try.underlying29 rfl rfl ?_)
              | ((with_reducible refine at_app _ _ ?_); refine wpList_appN _ _ rfl rfl (w3.heap.size + 1) _ l rfl (HN.out.grown (World.grownBy_alloc _ _ none) (by simp)) _ [_] rfl ints_one (by simp; rw [HJ.out]; omega) (by have := HT.out.lt; simp; omega) ?_; intro v3 w5 ho3 hg3 _; have HN3 := Lib.hid ho3; have HG3 := Lib.hid ((World.grownBy_alloc wr _ (Value.slice va l.length vk).ownBlock).trans hg3); clear ho3 hg3; have HT3 := Lib.hid (HT.out.grown HG3.out (fun e => by have := (World.ownsRow.lt HN.out _ e.symm).1; omega)); have HB3 := Lib.hid (HBL.out.grown HG3.out HBL.out.size (fun i hi => by have := (World.ownsRow.lt HN.out i hi).1; omega)); obtain ⟨va3, vk3, hv3, _⟩ := HN3.out.shape; subst hv3)
              | ((with_reducible refine at_store (.tmp 122) ?_); refine wpList_store_part1 rfl 29 (.tmp 122) _ rfl w3.heap.size [c.cells, [.slice va l.length vk]] 1 (.slice va l.length vk) _ HT3.out rfl (by rw [(tabOff HCK.out _).2.1]; rfl) rfl info_ints1 rfl rfl ?_; intro w6 U4 B4; have HT4 := Lib.hid (show Blk w6 w3.heap.size (flatP [c.cells, [.slice va3 _ vk3]]) from B4); have HB4 := Lib.hid (U4.below HB3.out (Nat.le_refl _)); have HN4 := Lib.hid (HN3.out.grown (upd_grown U4) (fun n e => by have := (World.ownsRow.lt HN3.out n e).1; simp; omega)); clear U4 B4))
            go_roundw
            case rel =>
              refine ⟨j + 1, _, _, by omega, by go_num, by simp; exact HJ.out, ?_, HN4.out, (by simp only [List.length_append, List.length_cons, List.length_nil, Nat.zero_add]; exact HT4.out), HB4.out⟩
              intro x hx
              rcases List.mem_append.1 hx with hx | hx
              · exact HRG.out x hx
              · rw [List.mem_singleton.1 hx]; exact wrap_u64r _
            case measure => simp [intOf]; omega
          obtain rfl : P = j := by omega
          have HNU : Hid (NumsV wr (.slice va l.length vk) l) := ⟨HN.out.ints (by rw [HJ.out]; unfold maxLen; omega), HRG.out⟩
          obtain ⟨er, her⟩ : ∃ er, rrE P Q ds c l = er := ⟨_, rfl⟩
          have HER := Lib.hid her
          have HSY0 := Lib.hid (tabOff HCK.out (.slice va l.length vk)).2.2
          obtain ⟨Y, HY⟩ : ∃ Y : List Value, Hid (flatP [c.cells, [.slice va l.length vk]] = Y.toArray) := ⟨(flatP [c.cells, [.slice va l.length vk]]).toList, Lib.hid (by simp)⟩
          rw [HY.out] at HSY0 HT
          have hsY : Y.length = 34 := by have := HSY0.out; simpa using this
          have hiY : (Try.prog.info? 36).map (·.size) = some Y.length := by rw [hsY]; kernel_rfl
          have hiY' : (Try.prog.info? 36).map (·.size) = some Y.toArray.size := by rw [List.size_toArray]; exact hiY
          have HS3r := Lib.hid (HS3.out.call HBL.out)
          have HV3r := Lib.hid (HV3.out.call HBL.out)
          have dc3 : wr.cell? ⟨cb, 3, none⟩ = some (.int .i64 Q) := by rw [HS3r.out.c.cell]; exact HLIM.out
          have HJ4 : Hid (l.length ≤ 4) := by show _ ≤ _; rw [HJ.out]; exact HPN.out.2
          have HDL : Hid (ds.length ≤ 1000) := by show _ ≤ _; rw [← HS3r.out.mat.len]; have h1 := HS3r.out.len; have h2 := HQ.out; omega
          have HDC := Lib.hid dc3
          clear dc3 her
          go_wp2_with (first
            | ((with_reducible refine at_load (.tmp 26) ?_); refine wpList_load_blk rfl 36 (.tmp 26) rfl w3.heap.size rfl Y.toArray _ HT.out Try.underlying36 rfl hiY' ?_)
            | ((with_reducible refine at_load (.tmp 128) ?_); refine wpList_load_1 3 (.tmp 128) rfl cb 3 (.int .i64 Q) HDC.out rfl _ Try.underlying3 rfl rfl ?_)
            | (go_at_call 16; have hrr := rreg_anyN (Safe lo hi) (.slice ta ds.length tc) ds c (.slice va l.length vk) l P Q wr (fun z hz => hz.safe HS3r.out.rg.hi.2.2.2) HS3r.out.tab HCK.out HNU.out HDL.out (by have := HJ4.out; omega); rw [HY.out] at hrr; refine hrr.mono ?_; rintro e w4 ⟨v8, ds5, he8, ⟨ht8, hn8⟩, hb8, hr8⟩; rw [HER.out] at he8 hr8; have hn8' : New hi v8 := (by rcases hn8 with h | h; rw [h]; exact HS3r.out.nt; exact h.mono HS3r.out.rg.hi.2.2.2); obtain ⟨a8, c8, hv8, _⟩ := id ht8.2; subst hv8; subst he8; have HT4 := Lib.hid ht8; have HN4 := Lib.hid hn8'; have HR5 := Lib.hid hr8; have HS4 := Lib.hid (HS3r.out.call hb8); have HV4 := Lib.hid (HV3r.out.call hb8); have HI4 := Lib.hid (NumsV.below HNU.out hb8); have HR4 := Lib.hid (HT.out.call hb8); clear hrr ht8 hn8 hn8' hb8 hr8))
          have hee : (er != er) = false := by simp
          obtain ⟨x, hx⟩ : ∃ x, w4.drew = x := ⟨_, rfl⟩
          have hbd : Below w4.heap.size w4 x := by rw [← hx]; exact ⟨rfl, rfl, rfl, Nat.le_refl _, fun _ _ => rfl⟩
          have HSP := Lib.hid (HS4.out.call hbd)
          have HVB := Lib.hid (HV4.out.call hbd)
          have HXT := Lib.hid (TabsCN.below HT4.out hbd)
          have HXI := Lib.hid (NumsV.below HI4.out hbd)
          have HXR := Lib.hid (HR4.out.call hbd)
          have HS : Hid (Blk x ra.b #[.pointer (some ⟨ra.b1, 0, none⟩), .pointer (some ⟨ra.b2, 0, none⟩), .pointer (some ⟨ra.b3, 0, none⟩)] ∧ Blk x w3.heap.size Y.toArray) := ⟨HSP.out.rg.blk, HXR.out⟩
          clear hbd HS4 HV4 HT4 HI4 HR4
          refine wp_region_held_drew (S := fun u' => Blk u' ra.b #[.pointer (some ⟨ra.b1, 0, none⟩), .pointer (some ⟨ra.b2, 0, none⟩), .pointer (some ⟨ra.b3, 0, none⟩)] ∧ Blk u' w3.heap.size Y.toArray) (by kernel_rfl) (by rw [hx]; exact HS.out) (fun _ => ?_)
          rw [hx]
          clear hx
          (try simp only [Act.put, List.setIfInBounds_toArray, List.set_cons_zero, List.set_cons_succ])
          refine wpAnyH_take (i := 0) (oi := ⟨some 133, _, _, _, _, _⟩) (v := .pointer (some ⟨ra.b, 0, none⟩)) rfl (by kernel_rfl) (by kernel_rfl) (by kernel_rfl) (fun _ _ _ h => h) (Or.inl ⟨by rfl, fun wz hz => ?_⟩) HS.out ?_
          · clear hz; go_simp; first | done | with_reducible rfl | rfl
          (try simp only [Act.put, List.setIfInBounds_toArray, List.set_cons_zero, List.set_cons_succ])
          refine wpAnyH_take (i := 1) (oi := ⟨some 134, _, _, _, _, _⟩) (v := .pointer (some ⟨ra.b, 0, none⟩)) rfl (by kernel_rfl) (by kernel_rfl) (by kernel_rfl) (fun _ _ _ h => h) (Or.inl ⟨by rfl, fun wz hz => ?_⟩) HS.out ?_
          · clear hz; go_simp; first | done | with_reducible rfl | rfl
          (try simp only [Act.put, List.setIfInBounds_toArray, List.set_cons_zero, List.set_cons_succ])
          refine wpAnyH_take (i := 2) (oi := ⟨some 135, _, _, _, _, _⟩) (v := .pointer (some ⟨ra.b, 2, none⟩)) rfl (by kernel_rfl) (by kernel_rfl) (by kernel_rfl) (fun _ _ _ h => h) (Or.inl ⟨by rfl, fun wz hz => ?_⟩) HS.out ?_
          · clear hz; go_simp; first | done | with_reducible rfl | rfl
          (try simp only [Act.put, List.setIfInBounds_toArray, List.set_cons_zero, List.set_cons_succ])
          refine held_load1 (oi := ⟨some 136, _, _, _, _, _⟩) 3 rfl (by kernel_rfl) (by kernel_rfl) (by kernel_rfl) (fun _ _ _ _ h => h) rfl 59 (.tmp 135) rfl ra.b (2) rfl (.pointer (some ⟨ra.b3, 0, none⟩)) _ (fun u' hu => hu.1.cell 2) Try.underlying59 rfl HS.out ?_
          (try simp only [Act.put, List.setIfInBounds_toArray, List.set_cons_zero, List.set_cons_succ])
          refine held_load (oi := ⟨some 137, _, _, _, _, _⟩) 4 rfl (by kernel_rfl) (by kernel_rfl) (by kernel_rfl) (fun _ _ _ _ h => h) rfl 36 (.tmp 26) rfl w3.heap.size 0 rfl Y _ (fun u' hu => hu.2.range) Try.underlying36 rfl (hiY) HS.out ?_
          (try simp only [Act.put, List.setIfInBounds_toArray, List.set_cons_zero, List.set_cons_succ])
          refine wpAnyH_take (i := 6) (oi := ⟨some 139, _, _, _, _, _⟩) (v := .int .i64 er) rfl (by kernel_rfl) (by kernel_rfl) (by kernel_rfl) (fun _ _ _ h => h) (Or.inl ⟨by rfl, fun wz hz => ?_⟩) HS.out ?_
          · clear hz; go_simp; first | done | with_reducible rfl | rfl
          (try simp only [Act.put, List.setIfInBounds_toArray, List.set_cons_zero, List.set_cons_succ])
          refine wpAnyH_ready (rs := [5]) (by kernel_rfl) (by simp) ?_
          refine AllReadyH.cons (o := ⟨some 138, _, _, _, _, _⟩) rfl (fun K hK => ?_) AllReadyH.nil
          rw [if_pos (by rfl)]
          go_simp
          have hrg := reg_any ra.b3 ra.mb P Q E c (.slice va l.length vk) l x HSP.out.rg.book HCK.out HXI.out (by have := HPN.out; omega) (by have := HQ.out; omega)
          rw [HY.out] at hrg
          refine hrg.mono ?_
          rintro e w6 ⟨he6, hg6, h16, h26⟩
          rw [reg_rr HSP.out.mat, HER.out] at h16 h26 he6
          subst he6
          have HS6 : Hid (Blk w6 ra.b #[.pointer (some ⟨ra.b1, 0, none⟩), .pointer (some ⟨ra.b2, 0, none⟩), .pointer (some ⟨ra.b3, 0, none⟩)] ∧ Blk w6 w3.heap.size Y.toArray) := ⟨HS.out.1.grown hg6 (by simpa using blk_noMap HS.out.1 HSP.out.rg.book.map (by simp)), HS.out.2.grown hg6 (by simpa using blk_noMap HS.out.2 HSP.out.rg.book.map (by simp; omega))⟩
          obtain ⟨E6, hsp6⟩ := HSP.out.register HXT.out HN4.out HCK.out HC3.out HER.out HR5.out hg6 h16 h26
          have HSP6 := Lib.hid hsp6
          have HVB6 := Lib.hid (HVB.out.grown hg6 (by simpa using blk_noMap HVB.out HSP.out.rg.book.map (by simp)))
          refine hK.out _ _ HS6.out (fun _ => ?_)
          clear hK K hrg hsp6 hg6 h16 h26 HS HSP HVB HXT HXI HXR
          have HS := HS6
          clear HS6
          (try simp only [Act.put, List.setIfInBounds_toArray, List.set_cons_zero, List.set_cons_succ])
          refine wpAnyH_take (i := 7) (oi := ⟨some 140, _, _, _, _, _⟩) (v := .bool false) rfl (by kernel_rfl) (by kernel_rfl) (by kernel_rfl) (fun _ _ _ h => h) (Or.inl ⟨by rfl, fun wz hz => ?_⟩) HS.out ?_
          · clear hz; go_simp; first | done | with_reducible rfl | rfl
          (try simp only [Act.put, List.setIfInBounds_toArray, List.set_cons_zero, List.set_cons_succ])
          refine wpAnyH_done (by kernel_rfl) ?_ _
          clear HS
          have HS7 := HSP6
          have HV7 := HVB6
          go_wp2_with (first
            | ((with_reducible refine at_load (.tmp 11) ?_); refine wpList_load_g 47 (.tmp 11) rfl vb rfl #[.slice la vs.length lc, .slice ea en ec] _ HV8.out Try.underlying47 rfl hi2 rfl ?_)
            | ((with_reducible refine at_load (.tmp 11) ?_); refine wpList_load_g 47 (.tmp 11) rfl vb rfl #[.slice la vs.length lc, .slice ea en ec] _ HV7.out Try.underlying47 rfl hi2 rfl ?_)
            | (go_at_call 9; refine (same10_any lo hi ra P Q vs gs E6 ds5 _ _ _ w6 HS7.out.rg HS7.out.mat (by have h1 := HS7.out.len; have h2 := HQ.out; omega) HS7.out.lat HS7.out.eq (elv_zero HS7.out.tab.1)).mono ?_; rintro e w8 ⟨rfl, hb8⟩; have HS8 := Lib.hid (HS7.out.call hb8); have HV8 := Lib.hid (HV7.out.call hb8); clear hb8)
            | (go_at_call 18; refine (weighs_any lo hi ra P Q vs gs E6 ds5 _ _ _ w8 HS8.out.rg HS8.out.mat (by have h1 := HS8.out.len; have h2 := HQ.out; omega) HS8.out.lat HS8.out.eq (elv_zero HS8.out.tab.1) HS8.out.far).mono ?_; rintro e w9 ⟨rfl, hb9⟩; have HS9 := Lib.hid (HS8.out.call hb9); have HV9 := Lib.hid (HV8.out.call hb9); clear hb9))
          go_roundw
          case rel => exact ⟨k + 1, by omega, by go_num, _, _, _, _, _, vs, gs, E6, ds5, HS9.out, HV9.out⟩
          case measure => simp [intOf]; omega
end

end Go.Proofs.Ytcbjjafjomdklaa
