/- Several texts as one: L11u. -/
import Derived.Test.YtgdlkkeiijhecaaZ1
namespace Go.Proofs.Ytgdlkkeiijhecaa

/-! L11u -/
section
set_option linter.unusedVariables false
set_option linter.unusedSimpArgs false
open Go.RowKit

set_option maxRecDepth 100000

theorem i64_and1 (n : Int) : bits .and .i64 n 1 = n % 2 := by
  have h3 : (BitVec.ofInt 64 1).toNat = 2 ^ 1 - 1 := by decide
  have key : (BitVec.ofInt 64 n &&& BitVec.ofInt 64 1).toNat = (n % ((2 ^ 64 : Nat) : Int)).toNat % 2 ^ 1 := by
    rw [BitVec.toNat_and, BitVec.toNat_ofInt, h3, Nat.and_two_pow_sub_one_eq_mod]
  show IntKind.i64.wrap ((BitVec.ofInt 64 n &&& BitVec.ofInt 64 1).toNat : Nat) = n % 2
  rw [key, IntKind.wrap_i64]
  omega

theorem i64_and1_nat (n : Int) : ∃ m : Nat, m ≤ 1 ∧ bits .and .i64 n 1 = m := ⟨(n % 2).toNat, by omega, by rw [i64_and1]; omega⟩

theorem u64_keep {x : Int} (h0 : 0 ≤ x) (h1 : x ≤ 18446744073709551615) : IntKind.u64.wrap x = x := by
  simp only [IntKind.wrap, IntKind.signed, IntKind.bits]
  simp
  omega
/-! ### A chain of blocks -/

theorem rootK_inj {a b : Int} (h : rootK a = rootK b) : a % 256 = b % 256 ∧ a / 256 % 256 = b / 256 % 256 := by
  unfold rootK rootL at h
  simp only [List.cons.injEq] at h
  exact ⟨h.1, h.2.1⟩

def fuB (k : Nat) : BkD := bk4 k (rootK ((k : Int) + 1)) (if k = 0 then zeroR else rootK (k : Int)) zeroR

def fuD (k : Nat) : NdD := ⟨fuB k, (k : Int) - 1, 0⟩

def fuN (k : Nat) : List NdD := (List.range k).map fuD

theorem fuN_len (k : Nat) : (fuN k).length = k := by simp [fuN]

theorem fuN_next (k : Nat) : fuN (k + 1) = fuN k ++ [fuD k] := by simp [fuN, List.range_succ]

theorem fuN_at {k j : Nat} (h : j < (fuN k).length) : (fuN k)[j] = fuD j := by simp [fuN]

theorem fuB_ok {k : Nat} (h : k ≤ 5000) : (fuB k).ok := bk4_ok (by omega) (rootK_is _) (by split; exact zeroR_is; exact rootK_is _) zeroR_is

theorem fuD_ok {k : Nat} (h : k ≤ 5000) : (fuD k).ok := ⟨fuB_ok h, by show -9223372036854775808 ≤ (k : Int) - 1 ∧ (k : Int) - 1 ≤ 9223372036854775807; omega, by show (-9223372036854775808 : Int) ≤ 0 ∧ (0 : Int) ≤ 9223372036854775807; omega⟩

theorem fuN_dis {k : Nat} (h : k ≤ 4096) : DisN (fuN k) := by
  unfold DisN
  rw [List.pairwise_iff_getElem]
  intro i j hi hj hij e
  rw [fuN_at, fuN_at] at e
  rw [fuN_len] at hi hj
  have := rootK_inj (show rootK ((i : Int) + 1) = rootK ((j : Int) + 1) from e)
  omega

theorem fuN_last {M : Nat} (h1 : 1 ≤ M) (h : M ≤ 4096) : findN (fuN M) (rootK (M : Int)) = ((M - 1 : Nat) : Int) := by
  have hl : M - 1 < (fuN M).length := by rw [fuN_len]; omega
  have h2 := (fuN_dis h).find hl
  rw [fuN_at hl] at h2
  rw [← h2]
  show findN _ _ = findN _ (rootK (((M - 1 : Nat) : Int) + 1))
  congr 2
  omega

theorem fuN_5000 {M : Nat} (h : M ≤ 4096) : findN (fuN M) (rootK 5000) = -1 := by
  rcases findN_spec (fuN M) (rootK 5000) with ⟨h1, _⟩ | ⟨k, hk, _, h2, _⟩
  · exact h1
  · rw [fuN_at hk] at h2
    rw [fuN_len] at hk
    have := rootK_inj (show rootK ((k : Int) + 1) = rootK 5000 from h2)
    omega

/-- The last block. -/
def fuX (M : Nat) : BkD := bk4 M (rootK 5000) (rootK (M : Int)) zeroR

theorem fuX_ok {M : Nat} (h : M ≤ 4096) : (fuX M).ok := bk4_ok (by omega) (rootK_is _) (rootK_is _) zeroR_is

theorem fuX_ins {M : Nat} (h1 : 1 ≤ M) (h : M ≤ 4096) : insT (fuN M) (fuX M) 1 = if M = 4096 then ([], 11) else (fuN M ++ [⟨fuX M, ((M - 1 : Nat) : Int), 1⟩], 0) := by
  have e1 : findN (fuN M) (fuX M).root = -1 := fuN_5000 h
  have e2 : findN (fuN M) (fuX M).parent = ((M - 1 : Nat) : Int) := fuN_last h1 h
  have e3 : slotAt (fuN M) ((M - 1 : Nat) : Int) = ((M - 1 : Nat) : Int) := by
    have hl : M - 1 < (fuN M).length := by rw [fuN_len]; omega
    unfold slotAt
    rw [show (((M - 1 : Nat) : Int)).toNat = M - 1 by omega, List.getElem?_eq_getElem hl, fuN_at hl]
    rfl
  have e4 : (fuX M).slot = (M : Int) := rfl
  unfold insT
  rw [e1, e2, e3, e4, fuN_len, if_neg (by omega), if_neg (by omega), if_neg (by omega), if_neg (by omega)]
  by_cases e : M = 4096
  · rw [if_pos (by omega), if_pos e]
  · rw [if_neg (by omega), if_neg e]

theorem build_bRS {s : Int} {r : List Int} (hr : IsBytes 32 r) (u : World) : (Instr.build 42 #[(2, .agg (bytesL r).toArray), (1, .int .u64 s)]).run Try.prog u = .ok (.agg (flatP (bk4 s r zeroR zeroR).parts)) u := by
  have hl := bytesL_len hr
  refine build_struct (zero := flatP zeBk10) zeBk_hz Try.underlying42 (places := #[(0, 66), (66, 1), (67, 32), (99, 32), (131, 32), (163, 4), (167, 4), (171, 33), (204, 33), (237, 1)]) (fun w => by kernel_rfl) ?_ u
  show Instr.fill _ (flatP zeBk10) [(2, .agg (bytesL r).toArray), (1, .int .u64 s)] = _
  rw [fill_part (i := 2) (o := 67) 2 (bytesL zeroR) (bytesL r) rfl rfl (by rw [hl]; rfl) rfl (by rw [hl]; rfl), fill_part (i := 1) (o := 66) 1 [.int .u64 0] [.int .u64 s] rfl rfl rfl rfl rfl]
  unfold Instr.fill
  simp [flatP, zeBk10, bk4, BkD.parts, CpD.cells, wideL, l0, l1, l2, l3, List.replicate]

theorem build_ndU (x : BkD) (up : Int) (hx : x.ok) (u : World) : (Instr.build 44 #[(0, .agg (flatP x.parts)), (1, .int .i64 up)]).run Try.prog u = .ok (.agg (⟨x, up, 0⟩ : NdD).cells.toArray) u := by
  have hl := BkD.flen hx
  refine build_struct (zero := flatP [zeBkP.flatten, [.int .i64 0], [.int .i64 0]]) (fun w => by kernel_rfl) Try.underlying44 (places := #[(0, 238), (238, 1), (239, 1)]) (fun w => by kernel_rfl) ?_ u
  show Instr.fill _ (flatP [zeBkP.flatten, [.int .i64 0], [.int .i64 0]]) [(0, .agg (flatP x.parts)), (1, .int .i64 up)] = _
  rw [fill_part 0 zeBkP.flatten x.parts.flatten rfl rfl (by rw [hl]; rfl) rfl (by rw [hl]; rfl), fill_part (i := 1) (o := 238) 1 [.int .i64 0] [.int .i64 up] rfl rfl rfl (by simp [offP, hl]) rfl]
  unfold Instr.fill
  simp [flatP, NdD.cells]

theorem fu_set (k : Nat) (h : 0 < k) : (bk4 k (rootK ((k : Int) + 1)) zeroR zeroR).parts.set 4 (bytesL (rootK (k : Int))) = (fuB k).parts := by
  unfold fuB
  rw [if_neg (by omega)]
  rfl

theorem fu_off (k : Nat) : offP (bk4 k (rootK ((k : Int) + 1)) zeroR zeroR).parts 4 = 99 := by
  simp [offP, BkD.parts, bk4, CpD.cells, bytesL_len zeroR_is, bytesL_len (rootK_is _)]

/-- The tree's variable while it grows. -/
structure FuS (w : World) (v : Value) (ns : List NdD) (u : World) : Prop where
  t : Blk u w.heap.size #[v]
  n : OwnEl NdEl 44 240 u (w.heap.size + 1) v ns
  b : Below w.heap.size w u

theorem FuS.call {w u u' : World} {v : Value} {ns : List NdD} (h : FuS w v ns u) (hb : Below u.heap.size u u') : FuS w v ns u' := ⟨h.t.call hb, h.n.call ndOK hb, h.b.trans (hb.mono h.b.size)⟩

theorem FuS.app {w u u1 u2 : World} {v v1 : Value} {ns ns1 : List NdD} (h : FuS w v ns u) (hn : OwnEl NdEl 44 240 u1 (w.heap.size + 1) v1 ns1) (hg : u.grownBy u1 v.ownBlock) (U : Upd w.heap.size u1 u2) (hB : Blk u2 w.heap.size #[v1]) : FuS w v1 ns1 u2 := by
  have hlt := h.n.lt
  refine ⟨hB, hn.grown ndOK (upd_grown U) (fun n hn' e => by have := (hn.lt n hn').1; cases e; omega) (fun X d hX => hX), U.below (h.b.grown hg h.b.size (fun k hk => by have := (hlt k hk).1; omega)) (Nat.le_refl _)⟩

def FuI (w : World) (M : Nat) (i : Value) (u : World) : Prop := ∃ (k : Nat) (a : Option Addr) (c : Nat), k ≤ M ∧ i = .int .i64 k ∧ FuS w (.slice a k c) (fuN k) u

set_option maxHeartbeats 32000000 in
theorem walk_BlocktreeFull (a0 : Int) (w : World) (w0 : (Lit.int .i64 a0).wf = true) :
    Calls Try.prog 8 #[.int .i64 a0] w fun e w' => e = .returned (.bool true) ∧ Below w.heap.size w w' := by
  have HAW := Lib.hid awake11_any
  obtain ⟨K, hK1, hK⟩ := i64_and1_nat a0
  have hi1 : (Try.prog.info? 24).map (·.size) = some 1 := by kernel_rfl
  have hiNS : (Try.prog.info? 22).map (·.size) = some 1 := by kernel_rfl
  have h238 : (Try.prog.info? 42).map (·.size) = some 238 := by kernel_rfl
  obtain ⟨hz1, hst1⟩ := zero_array (P := Try.prog) (t := 24) (n := 1) #[.slice none 0 0] (by kernel_rfl) rfl (by kernel_rfl)
  obtain ⟨ZB, hZB⟩ : ∃ Z, flatP zeBk10 = Z := ⟨_, rfl⟩
  have hszB : ZB.size = 238 := by rw [← hZB]; rfl
  obtain ⟨hz238, hst238⟩ := zero_array (P := Try.prog) (t := 42) (n := 238) ZB (by rw [← hZB]; kernel_rfl) hszB (by rw [← hZB]; kernel_rfl)
  have HZB := Lib.hid hszB
  obtain ⟨M, hM⟩ : ∃ M : Nat, 4096 - K = M := ⟨_, rfl⟩
  have hMK : (4096 : Int) - (K : Int) = (M : Int) := by omega
  have hM1 : 4095 ≤ M ∧ M ≤ 4096 := by omega
  have HM1 := Lib.hid hM1
  have SI : Hid (FuS w (.slice none 0 0) (fuN 0) (w.alloc (.cells #[.slice none 0 0] 24))) := ⟨Blk.new rfl, OwnEl.nil _ _, (Below.refl w.heap.size w).alloc (Nat.le_refl _) _⟩
  clear hst1 hst238 hZB hszB w0
  go_enter Try.func8, Try.ntmps8
  go_wp2_with fail
  go_loopw [5] (fun i wr => FuI w M i wr) (fun i _ => M - (intOf i).toNat)
  case atStart => exact ⟨0, none, 0, Nat.zero_le _, rfl, SI.out⟩
  case round =>
    obtain ⟨k, ta, tc, hk, rfl, hs⟩ := hrel
    have S0 := Lib.hid hs
    clear hs SI
    by_cases hlt : k < M
    case pos =>
      have hlt' : (k : Int) < (M : Int) := by omega
      by_cases hk0 : k = 0
      · subst hk0
        have HR1 : Hid (∀ u, Calls Try.prog 13 #[.int .i64 1] u fun e w' => e = .returned (.agg (bytesL (rootK ((0 : Int) + 1))).toArray) ∧ Below u.heap.size u w') := fun u => root_k _ u
        have HX0 : Hid (∀ u, (Instr.build 42 #[(2, .agg (bytesL (rootK ((0 : Int) + 1))).toArray), (1, .int .u64 0)]).run Try.prog u = .ok (.agg (flatP (bk4 0 (rootK ((0 : Int) + 1)) zeroR zeroR).parts)) u) := fun u => build_bRS (rootK_is _) u
        obtain ⟨R1, hR1⟩ : ∃ z, bytesL (rootK ((0 : Int) + 1)) = z := ⟨_, rfl⟩
        rw [hR1] at HR1 HX0
        obtain ⟨X0, hX0⟩ : ∃ z, flatP (bk4 0 (rootK ((0 : Int) + 1)) zeroR zeroR).parts = z := ⟨_, rfl⟩
        have HXE := Lib.hid hX0
        rw [hX0] at HX0
        have hok0 : (bk4 0 (rootK ((0 : Int) + 1)) zeroR zeroR).ok := bk4_ok (by omega) (rootK_is _) zeroR_is zeroR_is
        have HXS : Hid (X0.size = 238) := by show X0.size = 238; rw [← hX0, flatP_size, BkD.flen hok0]
        have HXO : Hid (∀ v ∈ X0, v.oneCell' = true) := by show ∀ v ∈ X0, _; rw [← hX0]; exact fun v hv => BkD.one _ v (by simpa [flatP] using hv)
        obtain ⟨X1, hX1⟩ : ∃ z, flatP (fuB 0).parts = z := ⟨_, rfl⟩
        have HX1E := Lib.hid hX1
        have HX1S : Hid (X1.size = 238) := by show X1.size = 238; rw [← hX1, flatP_size, BkD.flen (fuB_ok (k := 0) (by omega))]
        have HX01 : Hid (X0 = X1) := by show X0 = X1; rw [← hX0, ← hX1]; rfl
        have HY : Hid (∀ u, (Instr.build 44 #[(0, .agg X1), (1, .int .i64 (-1))]).run Try.prog u = .ok (.agg (fuD 0).cells.toArray) u) := fun u => by rw [← hX1]; exact build_ndU (fuB 0) _ (fuB_ok (by omega)) u
        have HYO : Hid ((fuD 0).ok) := fuD_ok (by omega)
        obtain ⟨Y, hYE⟩ : ∃ z, (fuD 0).cells.toArray = z := ⟨_, rfl⟩
        have HYE := Lib.hid hYE
        rw [hYE] at HY
        have HYS : Hid (Y.size = 240) := by show Y.size = 240; rw [← hYE, List.size_toArray, NdD.len HYO.out]
        clear hR1 hX0 hok0 hX1 hYE
        go_wp2_with (first
          | (go_at_call 13; refine (HR1.out _).mono ?_; rintro e w1 ⟨rfl, hb1⟩; have S1 := Lib.hid (S0.out.call hb1); have HG0 := Lib.hid hb1.size; clear hb1)
          | ((with_reducible refine at_build (some 23) ?_); refine wpList_build_g 42 _ rfl #[(2, .agg R1.toArray), (1, .int .u64 0)] (by simp [Act.eval, Act.put]) (.agg X0) (HX0.out _) rfl ?_)
          | ((with_reducible refine at_store (.tmp 6) ?_); refine wpList_store_blk rfl 42 (.tmp 6) _ rfl w1.heap.size X0 rfl rfl ZB (Blk.new rfl) (by rw [HZB.out, HXS.out]) (by rw [HXS.out]; exact h238) HXO.out ?_; intro w2 U2 B2; have hb2 := U2.below ((Below.refl w1.heap.size w1).alloc (Nat.le_refl _) (.cells ZB 42)) (Nat.le_refl _); have S4 := Lib.hid (S1.out.call hb2); have HB4 : Hid (Blk w2 w1.heap.size X1) := (by rw [← HX01.out]; exact B2); clear U2 B2 hb2)
          | ((with_reducible refine at_load (.tmp 29) ?_); refine wpList_load_1 22 (.tmp 29) rfl w.heap.size 0 (.slice ta 0 tc) (S4.out.t.cell 0) rfl _ Try.underlying22 rfl rfl ?_)
          | ((with_reducible refine at_load (.tmp 6) ?_); refine wpList_load_g 42 (.tmp 6) rfl w1.heap.size rfl X1 _ HB4.out Try.underlying42 rfl (by rw [HX1S.out]; exact h238) rfl ?_)
          | ((with_reducible refine at_build (some 34) ?_); refine wpList_build_g 44 _ rfl #[(0, .agg X1), (1, .int .i64 (-1))] (by simp [Act.eval, Act.put]) (.agg Y) (HY.out _) rfl ?_)
          | ((with_reducible refine at_buildSliceE (some 35) ?_); refine wpList_buildSliceE rfl 22 1 _ rfl #[(0, .agg Y)] (by simp [Act.eval, Act.put]) _ (bel_node HYS.out _) ?_)
          | ((with_reducible refine at_app (.tmp 30) (.tmp 35) ?_); have S5 := S4.out.call ((Below.refl _ w2).alloc (Nat.le_refl _) (.cells Y 44)); refine wpList_appEl ndOK Try.underlying22 info_node (by rfl) (by omega) (.tmp 30) (.tmp 35) rfl rfl (w.heap.size + 1) _ _ rfl S5.n w2.heap.size 1 Y (fuD 0) rfl ⟨HYE.out.symm, HYO.out⟩ (by have := (Blk.new (w := w2) (cs := Y) (t := 44) rfl).range; simpa using this) (by rw [fuN_len]; omega) (by rw [fuN_len]; unfold maxLen; omega) (by have := S4.out.t.lt; simp; omega) ?_; intro v8 w8 h8 g8 o8; rw [← fuN_next] at h8; obtain ⟨xa, xc, hx8, _⟩ := h8.shape; rw [fuN_len] at hx8; subst hx8; have H8 := Lib.hid h8; have G8 := Lib.hid g8; have S5H := Lib.hid S5; clear h8 g8 o8 S5)
          | ((with_reducible refine at_store (.tmp 37) ?_); refine wpList_store_part1 rfl 22 (.tmp 37) _ rfl w.heap.size [[.slice ta 0 tc]] 0 (.slice ta 0 tc) (.slice xa (0 + 1) xc) (S5H.out.t.grown G8.out (fun e => by have := (S5H.out.n.lt _ e.symm).1; omega)) rfl rfl rfl hiNS rfl rfl ?_; intro w9 U9 B9; have S9 := Lib.hid (S5H.out.app H8.out G8.out U9 B9); clear U9 B9))
        go_roundw
        case rel => exact ⟨1, xa, xc, by omega, rfl, S9.out⟩
        case measure => simp [intOf]; omega
      · have hkp : (0 : Int) < (k : Int) := by omega
        have hk5 : k ≤ 5000 := by have := HM1.out; omega
        have HR1 : Hid (∀ u, Calls Try.prog 13 #[.int .i64 ((k : Int) + 1)] u fun e w' => e = .returned (.agg (bytesL (rootK ((k : Int) + 1))).toArray) ∧ Below u.heap.size u w') := fun u => root_k _ u
        have HX0 : Hid (∀ u, (Instr.build 42 #[(2, .agg (bytesL (rootK ((k : Int) + 1))).toArray), (1, .int .u64 (k : Int))]).run Try.prog u = .ok (.agg (flatP (bk4 (k : Int) (rootK ((k : Int) + 1)) zeroR zeroR).parts)) u) := fun u => build_bRS (rootK_is _) u
        obtain ⟨R1, hR1⟩ : ∃ z, bytesL (rootK ((k : Int) + 1)) = z := ⟨_, rfl⟩
        rw [hR1] at HR1 HX0
        obtain ⟨X0, hX0⟩ : ∃ z, flatP (bk4 (k : Int) (rootK ((k : Int) + 1)) zeroR zeroR).parts = z := ⟨_, rfl⟩
        have HXE := Lib.hid hX0
        rw [hX0] at HX0
        have hok0 : (bk4 (k : Int) (rootK ((k : Int) + 1)) zeroR zeroR).ok := bk4_ok (by omega) (rootK_is _) zeroR_is zeroR_is
        have HXS : Hid (X0.size = 238) := by show X0.size = 238; rw [← hX0, flatP_size, BkD.flen hok0]
        have HXO : Hid (∀ v ∈ X0, v.oneCell' = true) := by show ∀ v ∈ X0, _; rw [← hX0]; exact fun v hv => BkD.one _ v (by simpa [flatP] using hv)
        obtain ⟨X1, hX1⟩ : ∃ z, flatP (fuB k).parts = z := ⟨_, rfl⟩
        have HX1E := Lib.hid hX1
        have HX1S : Hid (X1.size = 238) := by show X1.size = 238; rw [← hX1, flatP_size, BkD.flen (fuB_ok (k := k) (by omega))]
        have HY : Hid (∀ u, (Instr.build 44 #[(0, .agg X1), (1, .int .i64 ((k : Int) - 1))]).run Try.prog u = .ok (.agg (fuD k).cells.toArray) u) := fun u => by rw [← hX1]; exact build_ndU (fuB k) _ (fuB_ok (by omega)) u
        have HYO : Hid ((fuD k).ok) := fuD_ok (by omega)
        obtain ⟨Y, hYE⟩ : ∃ z, (fuD k).cells.toArray = z := ⟨_, rfl⟩
        have HYE := Lib.hid hYE
        rw [hYE] at HY
        have HYS : Hid (Y.size = 240) := by show Y.size = 240; rw [← hYE, List.size_toArray, NdD.len HYO.out]
        have HR0 : Hid (∀ u, Calls Try.prog 13 #[.int .i64 (k : Int)] u fun e w' => e = .returned (.agg (bytesL (rootK (k : Int))).toArray) ∧ Below u.heap.size u w') := fun u => root_k _ u
        have HST := Lib.hid (fu_set k (by omega))
        have HL0 : Hid ((bytesL (rootK (k : Int))).length = (bytesL zeroR).length) := by show _ = _; rw [bytesL_len (rootK_is _), bytesL_len zeroR_is]
        have HO0 := Lib.hid (bytesL_one (rootK (k : Int)))
        have hiR : (Try.prog.info? 34).map (·.size) = some (bytesL (rootK (k : Int))).length := by rw [bytesL_len (rootK_is _)]; kernel_rfl
        obtain ⟨R0, hR0⟩ : ∃ z, bytesL (rootK (k : Int)) = z := ⟨_, rfl⟩
        have HE0 : Hid (R0 = bytesL (rootK (k : Int))) := hR0.symm
        rw [hR0] at HR0 HL0 HO0 hiR
        have HLT : Hid (∀ n, (Value.slice ta k tc).ownBlock = some n → n < wr.heap.size) := fun n hn => (S0.out.n.lt n hn).2
        have hwu : IntKind.u64.wrap (k : Int) = (k : Int) := u64_keep (by omega) (by omega)
        clear hR0
        clear hR1 hX0 hok0 hX1 hYE
        go_wp2_with (first
          | (go_at_call 13; have _d := HB2; refine (HR0.out _).mono ?_; clear _d; rintro e w3 ⟨rfl, hb3⟩; have S3 := Lib.hid (S2.out.call hb3); have HB3 := Lib.hid (HB2.out.call hb3); clear hb3)
          | (go_at_call 13; refine (HR1.out _).mono ?_; rintro e w1 ⟨rfl, hb1⟩; have S1 := Lib.hid (S0.out.call hb1); have HG0 := Lib.hid hb1.size; clear hb1)
          | ((with_reducible refine at_build (some 23) ?_); refine wpList_build_g 42 _ rfl #[(2, .agg R1.toArray), (1, .int .u64 (k : Int))] (by simp [Act.eval, Act.put]) (.agg X0) (HX0.out _) rfl ?_)
          | ((with_reducible refine at_store (.tmp 6) ?_); refine wpList_store_blk rfl 42 (.tmp 6) _ rfl w1.heap.size X0 rfl rfl ZB (Blk.new rfl) (by rw [HZB.out, HXS.out]) (by rw [HXS.out]; exact h238) HXO.out ?_; intro w2 U2 B2; have hb2 := U2.below ((Below.refl w1.heap.size w1).alloc (Nat.le_refl _) (.cells ZB 42)) (Nat.le_refl _); have S2 := Lib.hid (S1.out.call hb2); have HB2 : Hid (Blk w2 w1.heap.size (flatP (bk4 k (rootK ((k : Int) + 1)) zeroR zeroR).parts)) := (by rw [HXE.out]; exact B2); have HG1 := Lib.hid S1.out.t.lt; clear U2 B2 hb2)
          | ((with_reducible refine at_store (.tmp 28) ?_); refine wpList_store_part rfl 34 (.tmp 28) _ rfl w1.heap.size (bk4 k (rootK ((k : Int) + 1)) zeroR zeroR).parts 4 (bytesL zeroR) R0 HB3.out rfl (by rw [fu_off]; rfl) rfl HL0.out hiR HO0.out ?_; intro w4 U4 B4; have S4 : Hid (FuS w (.slice ta k tc) (fuN k) w4) := (by refine ⟨U4.blk S3.out.t (by have := HG1.out; omega), S3.out.n.grown ndOK (upd_grown U4) (fun n hn e => by have h1 := HLT.out n hn; have h2 := HG0.out; cases e; omega) (fun X d hX => hX), U4.below S3.out.b (by have := HG1.out; omega)⟩); have HB4 : Hid (Blk w4 w1.heap.size X1) := (by rw [HE0.out, HST.out, HX1E.out] at B4; exact B4); clear U4 B4)
          | ((with_reducible refine at_load (.tmp 29) ?_); refine wpList_load_1 22 (.tmp 29) rfl w.heap.size 0 (.slice ta k tc) (S4.out.t.cell 0) rfl _ Try.underlying22 rfl rfl ?_)
          | ((with_reducible refine at_load (.tmp 6) ?_); refine wpList_load_g 42 (.tmp 6) rfl w1.heap.size rfl X1 _ HB4.out Try.underlying42 rfl (by rw [HX1S.out]; exact h238) rfl ?_)
          | ((with_reducible refine at_build (some 34) ?_); refine wpList_build_g 44 _ rfl #[(0, .agg X1), (1, .int .i64 ((k : Int) - 1))] (by simp [Act.eval, Act.put]) (.agg Y) (HY.out _) rfl ?_)
          | ((with_reducible refine at_buildSliceE (some 35) ?_); refine wpList_buildSliceE rfl 22 1 _ rfl #[(0, .agg Y)] (by simp [Act.eval, Act.put]) _ (bel_node HYS.out _) ?_)
          | ((with_reducible refine at_app (.tmp 30) (.tmp 35) ?_); have S5 := S4.out.call ((Below.refl _ w4).alloc (Nat.le_refl _) (.cells Y 44)); refine wpList_appEl ndOK Try.underlying22 info_node (by rfl) (by omega) (.tmp 30) (.tmp 35) rfl rfl (w.heap.size + 1) _ _ rfl S5.n w4.heap.size 1 Y (fuD k) rfl ⟨HYE.out.symm, HYO.out⟩ (by have := (Blk.new (w := w4) (cs := Y) (t := 44) rfl).range; simpa using this) (by rw [fuN_len]; omega) (by rw [fuN_len]; unfold maxLen; omega) (by have := S4.out.t.lt; simp; omega) ?_; intro v8 w8 h8 g8 o8; rw [← fuN_next] at h8; obtain ⟨xa, xc, hx8, _⟩ := h8.shape; rw [fuN_len] at hx8; subst hx8; have H8 := Lib.hid h8; have G8 := Lib.hid g8; have S5H := Lib.hid S5; clear h8 g8 o8 S5)
          | ((with_reducible refine at_store (.tmp 37) ?_); refine wpList_store_part1 rfl 22 (.tmp 37) _ rfl w.heap.size [[.slice ta k tc]] 0 (.slice ta k tc) (.slice xa (k + 1) xc) (S5H.out.t.grown G8.out (fun e => by have := (S5H.out.n.lt _ e.symm).1; omega)) rfl rfl rfl hiNS rfl rfl ?_; intro w9 U9 B9; have S9 := Lib.hid (S5H.out.app H8.out G8.out U9 B9); clear U9 B9))
        go_roundw
        case rel => exact ⟨k + 1, xa, xc, by omega, by go_num, S9.out⟩
        case measure => simp [intOf]; omega
    case neg =>
      obtain rfl : k = M := by omega
      have hkk : ((k : Int) < (k : Int)) = False := eq_false (by omega)
      have hwu : IntKind.u64.wrap (k : Int) = (k : Int) := u64_keep (by omega) (by omega)
      have HR5 : Hid (∀ u, Calls Try.prog 13 #[.int .i64 5000] u fun e w' => e = .returned (.agg (bytesL (rootK 5000)).toArray) ∧ Below u.heap.size u w') := fun u => root_k _ u
      have HRM : Hid (∀ u, Calls Try.prog 13 #[.int .i64 (k : Int)] u fun e w' => e = .returned (.agg (bytesL (rootK (k : Int))).toArray) ∧ Below u.heap.size u w') := fun u => root_k _ u
      have HXF : Hid (∀ u, (Instr.build 42 #[(2, .agg (bytesL (rootK 5000)).toArray), (3, .agg (bytesL (rootK (k : Int))).toArray), (1, .int .u64 (k : Int))]).run Try.prog u = .ok (.agg (flatP (fuX k).parts)) u) := fun u => build_bRP (rootK_is _) (rootK_is _) u
      have HIN := Lib.hid (fun v u (hu : NodesV u v (fuN k)) => cinsn_any v (fuN k) (fuX k) 1 u hu (fuX_ok HM1.out.2) (by omega))
      have HIE := Lib.hid (fuX_ins (M := k) (by have := HM1.out; omega) HM1.out.2)
      unfold InsTE at HIN
      obtain ⟨res, hres⟩ : ∃ z, insT (fuN k) (fuX k) 1 = z := ⟨_, rfl⟩
      rw [hres] at HIN HIE
      obtain ⟨rs, er⟩ := res
      simp only at HIN
      obtain ⟨R5, h5⟩ : ∃ z, bytesL (rootK 5000) = z := ⟨_, rfl⟩
      obtain ⟨RM, hm⟩ : ∃ z, bytesL (rootK (k : Int)) = z := ⟨_, rfl⟩
      obtain ⟨XF, hf⟩ : ∃ z, flatP (fuX k).parts = z := ⟨_, rfl⟩
      rw [h5] at HR5 HXF
      rw [hm] at HRM HXF
      rw [hf] at HXF HIN
      clear hres h5 hm hf
      go_upto_region 11 with fail
      go_cut [8, 9] from 40 to 51 (fun p q wx => TreC rs er wr p q wx)
      case first =>
        have HSx0 : Hid (Below wr.heap.size wr wr.drew) := Below.drewN (n := 1) (Below.refl _ _)
        refine wp_region_held_drew (S := fun u => Below wr.heap.size wr u) (by kernel_rfl) (HSx0.out) (fun _ => ?_)
        (try simp only [Act.put, List.setIfInBounds_toArray, List.set_cons_zero, List.set_cons_succ])
        obtain ⟨x0, hx0⟩ : ∃ x, wr.drew = x := ⟨_, rfl⟩
        rw [hx0] at HSx0 ⊢
        clear hx0
        refine held_load (oi := ⟨some 41, _, _, _, _, _⟩) 0 rfl (by kernel_rfl) (by kernel_rfl) (by kernel_rfl) (fun _ _ _ _ h => h) rfl 24 (.tmp 4) rfl w.heap.size (0) rfl [.slice ta k tc] _ (fun u' hu => (S0.out.call hu).t.rng) Try.underlying24 rfl (hi1) HSx0.out ?_
        (try simp only [Act.put, List.setIfInBounds_toArray, List.set_cons_zero, List.set_cons_succ])
        refine wpAnyH_take (i := 2) (oi := ⟨some 43, _, _, _, _, _⟩) (v := .int .i64 (k : Int)) rfl (by kernel_rfl) (by kernel_rfl) (by kernel_rfl) (fun _ _ _ h => h) (Or.inl ⟨by rfl, fun wz hz => ?_⟩) HSx0.out ?_
        · clear hz; go_simp; first | done | with_reducible rfl | rfl
        (try simp only [Act.put, List.setIfInBounds_toArray, List.set_cons_zero, List.set_cons_succ])
        refine wpAnyH_take (i := 4) (oi := ⟨some 45, _, _, _, _, _⟩) (v := .int .i64 (k : Int)) rfl (by kernel_rfl) (by kernel_rfl) (by kernel_rfl) (fun _ _ _ h => h) (Or.inl ⟨by rfl, fun wz hz => ?_⟩) HSx0.out ?_
        · clear hz; go_simp; first | done | with_reducible rfl | rfl
        (try simp only [Act.put, List.setIfInBounds_toArray, List.set_cons_zero, List.set_cons_succ])
        refine wpAnyH_take (i := 5) (oi := ⟨some 46, _, _, _, _, _⟩) (v := .int .u64 (k : Int)) rfl (by kernel_rfl) (by kernel_rfl) (by kernel_rfl) (fun _ _ _ h => h) (Or.inl ⟨by rfl, fun wz hz => ?_⟩) HSx0.out ?_
        · clear hz; go_simp; first | done | with_reducible rfl | rfl
        (try simp only [Act.put, List.setIfInBounds_toArray, List.set_cons_zero, List.set_cons_succ])
        refine wpAnyH_ready (rs := [1, 11]) (by kernel_rfl) (by simp) ?_
        refine AllReadyH.cons (o := ⟨some 42, _, _, _, _, _⟩) rfl (fun K hK => ?_) (AllReadyH.cons (o := ⟨some 8, _, _, _, _, _⟩) rfl (fun K hK => ?_) AllReadyH.nil)
        · skip
          go_simp
          refine (HR5.out x0).mono ?_
          rintro e x1 ⟨rfl, hbx1⟩
          have HSx1 : Hid (Below wr.heap.size wr x1) := HSx0.out.trans (hbx1.mono HSx0.out.size)
          clear hbx1
          refine hK.out _ _ (HSx1.out) (fun _ => ?_)
          clear hK K
          (try simp only [Act.put, List.setIfInBounds_toArray, List.set_cons_zero, List.set_cons_succ])
          refine wpAnyH_ready (rs := [3, 11]) (by kernel_rfl) (by simp) ?_
          refine AllReadyH.cons (o := ⟨some 44, _, _, _, _, _⟩) rfl (fun K hK => ?_) (AllReadyH.cons (o := ⟨some 8, _, _, _, _, _⟩) rfl (fun K hK => ?_) AllReadyH.nil)
          · skip
            go_simp
            refine (HRM.out x1).mono ?_
            rintro e x2 ⟨rfl, hbx2⟩
            have HSx2 : Hid (Below wr.heap.size wr x2) := HSx1.out.trans (hbx2.mono HSx1.out.size)
            clear hbx2
            refine hK.out _ _ (HSx2.out) (fun _ => ?_)
            clear hK K
            (try simp only [Act.put, List.setIfInBounds_toArray, List.set_cons_zero, List.set_cons_succ])
            refine held_build (oi := ⟨some 47, _, _, _, _, _⟩) 6 rfl (by kernel_rfl) (by kernel_rfl) (by kernel_rfl) (fun _ _ _ _ h => h) rfl 42 _ rfl #[(2, .agg R5.toArray), (3, .agg RM.toArray), (1, .int .u64 (k : Int))] (by simp [Act.eval]) (.agg XF) (HXF.out) HSx2.out ?_
            (try simp only [Act.put, List.setIfInBounds_toArray, List.set_cons_zero, List.set_cons_succ])
            refine wpAnyH_ready (rs := [7, 11]) (by kernel_rfl) (by simp) ?_
            refine AllReadyH.cons (o := ⟨some 48, _, _, _, _, _⟩) rfl (fun K hK => ?_) (AllReadyH.cons (o := ⟨some 8, _, _, _, _, _⟩) rfl (fun K hK => ?_) AllReadyH.nil)
            · skip
              go_simp
              have hncur : NodesV x2 (.slice ta k tc) (fuN k) := (S0.out.call HSx2.out).n.elV ndOK
              refine (HIN.out _ x2 hncur).mono ?_
              rintro e x3 ⟨xv, rfl, hnI, hwI, hcI, hbx3⟩
              clear hncur
              obtain ⟨xa, xc, rfl, _⟩ := hnI.shape
              have HNI := Lib.hid hnI
              have HCI := Lib.hid (hcI _ _ _ rfl)
              have HWI := Lib.hid (hwI.mono HSx2.out.size)
              clear hnI hcI hwI
              have HSx3 : Hid (Below wr.heap.size wr x3) := HSx2.out.trans (hbx3.mono HSx2.out.size)
              clear hbx3
              refine hK.out _ _ (HSx3.out) (fun _ => ?_)
              clear hK K
              (try simp only [Act.put, List.setIfInBounds_toArray, List.set_cons_zero, List.set_cons_succ])
              refine wpAnyH_take (i := 8) (oi := ⟨some 40, _, _, _, _, _⟩) (v := .tuple #[.agg #[.slice xa rs.length xc], .int .i64 er]) rfl (by kernel_rfl) (by kernel_rfl) (by kernel_rfl) (fun _ _ _ h => h) (Or.inl ⟨by rfl, fun wz hz => ?_⟩) HSx3.out ?_
              · clear hz; go_simp; first | done | with_reducible rfl | rfl
              (try simp only [Act.put, List.setIfInBounds_toArray, List.set_cons_zero, List.set_cons_succ])
              refine wpAnyH_take (i := 9) (oi := ⟨some 49, _, _, _, _, _⟩) (v := .agg #[.slice xa rs.length xc]) rfl (by kernel_rfl) (by kernel_rfl) (by kernel_rfl) (fun _ _ _ h => h) (Or.inl ⟨by rfl, fun wz hz => ?_⟩) HSx3.out ?_
              · clear hz; go_simp; first | done | with_reducible rfl | rfl
              (try simp only [Act.put, List.setIfInBounds_toArray, List.set_cons_zero, List.set_cons_succ])
              refine wpAnyH_take (i := 10) (oi := ⟨some 50, _, _, _, _, _⟩) (v := .int .i64 er) rfl (by kernel_rfl) (by kernel_rfl) (by kernel_rfl) (fun _ _ _ h => h) (Or.inl ⟨by rfl, fun wz hz => ?_⟩) HSx3.out ?_
              · clear hz; go_simp; first | done | with_reducible rfl | rfl
              (try simp only [Act.put, List.setIfInBounds_toArray, List.set_cons_zero, List.set_cons_succ])
              refine wpAnyH_ready (rs := [11]) (by kernel_rfl) (by simp) ?_
              refine AllReadyH.cons (o := ⟨some 8, _, _, _, _, _⟩) rfl (fun K hK => ?_) AllReadyH.nil
              go_simp
              have HAy : Hid (Below x3.heap.size x3 (x3.alloc (.cells #[.slice none 0 0] 24))) := (Below.refl _ _).alloc (Nat.le_refl _) _
              have HZy : Hid (Blk (x3.alloc (.cells #[.slice none 0 0] 24)) x3.heap.size #[.slice none 0 0]) := Blk.new rfl
              obtain ⟨y4, hy⟩ : ∃ x, x3.alloc (.cells #[.slice none 0 0] 24) = x := ⟨_, rfl⟩
              rw [hy] at HAy HZy ⊢
              clear hy
              have HSy4 : Hid (Below wr.heap.size wr y4) := HSx3.out.trans (HAy.out.mono HSx3.out.size)
              obtain ⟨bo, hbo⟩ : ∃ x, x3.heap.size = x := ⟨_, rfl⟩
              have HBO := Lib.hid hbo
              rw [hbo] at HZy ⊢
              clear hbo
              have HGE : Hid (wr.heap.size ≤ bo) := by have h1 := HSx3.out.size; have h2 := HBO.out; show _ ≤ _; omega
              refine hK.out _ _ (HSy4.out) (fun _ => ?_)
              clear hK K
              (try simp only [Act.put, List.setIfInBounds_toArray, List.set_cons_zero, List.set_cons_succ])
              have HOF := Lib.hid (NodesV.off HNI.out (Nat.le_of_eq HBO.out))
              refine wpAnyH_ready (rs := [12]) (by kernel_rfl) (by simp) ?_
              refine AllReadyH.cons (o := ⟨none, _, _, _, _, _⟩) rfl (fun K hK => ?_) AllReadyH.nil
              refine wp_store_blk 24 (.tmp 8) _ rfl bo #[.slice xa rs.length xc] rfl rfl #[.slice none 0 0] HZy.out rfl hi1 (by simp [Value.oneCell']) ?_
              intro w9 U9 B9
              have HU9 := Lib.hid U9
              have HK9 := Lib.hid B9
              have HS9 : Hid (Below wr.heap.size wr w9) := U9.below HSy4.out HGE.out
              clear U9 B9
              refine hK.out _ _ (HS9.out) (fun _ => ?_)
              clear hK K
              (try simp only [Act.put, List.setIfInBounds_toArray, List.set_cons_zero, List.set_cons_succ])
              refine wpAnyH_ready (rs := [13]) (by kernel_rfl) (by simp) ?_
              refine AllReadyH.cons (o := ⟨some 9, _, _, _, _, _⟩) rfl (fun K hK => ?_) AllReadyH.nil
              go_simp
              refine hK.out _ _ (HS9.out) (fun _ => ?_)
              clear hK K
              (try simp only [Act.put, List.setIfInBounds_toArray, List.set_cons_zero, List.set_cons_succ])
              refine wpAnyH_done (by kernel_rfl) ?_ _
              go_wp2_with fail
              go_meet
              case rel => exact TreC.mk HU9.out HK9.out (HNI.out.call HAy.out) HCI.out HOF.out HWI.out HGE.out HS9.out
            · skip
              go_simp
              have HAy : Hid (Below x2.heap.size x2 (x2.alloc (.cells #[.slice none 0 0] 24))) := (Below.refl _ _).alloc (Nat.le_refl _) _
              have HZy : Hid (Blk (x2.alloc (.cells #[.slice none 0 0] 24)) x2.heap.size #[.slice none 0 0]) := Blk.new rfl
              obtain ⟨y3, hy⟩ : ∃ x, x2.alloc (.cells #[.slice none 0 0] 24) = x := ⟨_, rfl⟩
              rw [hy] at HAy HZy ⊢
              clear hy
              have HSy3 : Hid (Below wr.heap.size wr y3) := HSx2.out.trans (HAy.out.mono HSx2.out.size)
              obtain ⟨bo, hbo⟩ : ∃ x, x2.heap.size = x := ⟨_, rfl⟩
              have HBO := Lib.hid hbo
              rw [hbo] at HZy ⊢
              clear hbo
              have HGE : Hid (wr.heap.size ≤ bo) := by have h1 := HSx2.out.size; have h2 := HBO.out; show _ ≤ _; omega
              refine hK.out _ _ (HSy3.out) (fun _ => ?_)
              clear hK K
              (try simp only [Act.put, List.setIfInBounds_toArray, List.set_cons_zero, List.set_cons_succ])
              refine wpAnyH_ready (rs := [7]) (by kernel_rfl) (by simp) ?_
              refine AllReadyH.cons (o := ⟨some 48, _, _, _, _, _⟩) rfl (fun K hK => ?_) AllReadyH.nil
              go_simp
              have hncur : NodesV y3 (.slice ta k tc) (fuN k) := (S0.out.call HSy3.out).n.elV ndOK
              refine (HIN.out _ y3 hncur).mono ?_
              rintro e x3 ⟨xv, rfl, hnI, hwI, hcI, hbx3⟩
              clear hncur
              obtain ⟨xa, xc, rfl, _⟩ := hnI.shape
              have HNI := Lib.hid hnI
              have HCI := Lib.hid (hcI _ _ _ rfl)
              have HWI := Lib.hid (hwI.mono HSy3.out.size)
              have HOF := Lib.hid (hwI.off HZy.out.lt)
              clear hnI hcI hwI
              have HZy := Lib.hid (HZy.out.call (Lib.hid hbx3).out)
              have HSx3 : Hid (Below wr.heap.size wr x3) := HSy3.out.trans (hbx3.mono HSy3.out.size)
              clear hbx3
              refine hK.out _ _ (HSx3.out) (fun _ => ?_)
              clear hK K
              (try simp only [Act.put, List.setIfInBounds_toArray, List.set_cons_zero, List.set_cons_succ])
              refine wpAnyH_take (i := 8) (oi := ⟨some 40, _, _, _, _, _⟩) (v := .tuple #[.agg #[.slice xa rs.length xc], .int .i64 er]) rfl (by kernel_rfl) (by kernel_rfl) (by kernel_rfl) (fun _ _ _ h => h) (Or.inl ⟨by rfl, fun wz hz => ?_⟩) HSx3.out ?_
              · clear hz; go_simp; first | done | with_reducible rfl | rfl
              (try simp only [Act.put, List.setIfInBounds_toArray, List.set_cons_zero, List.set_cons_succ])
              refine wpAnyH_take (i := 9) (oi := ⟨some 49, _, _, _, _, _⟩) (v := .agg #[.slice xa rs.length xc]) rfl (by kernel_rfl) (by kernel_rfl) (by kernel_rfl) (fun _ _ _ h => h) (Or.inl ⟨by rfl, fun wz hz => ?_⟩) HSx3.out ?_
              · clear hz; go_simp; first | done | with_reducible rfl | rfl
              (try simp only [Act.put, List.setIfInBounds_toArray, List.set_cons_zero, List.set_cons_succ])
              refine wpAnyH_take (i := 10) (oi := ⟨some 50, _, _, _, _, _⟩) (v := .int .i64 er) rfl (by kernel_rfl) (by kernel_rfl) (by kernel_rfl) (fun _ _ _ h => h) (Or.inl ⟨by rfl, fun wz hz => ?_⟩) HSx3.out ?_
              · clear hz; go_simp; first | done | with_reducible rfl | rfl
              (try simp only [Act.put, List.setIfInBounds_toArray, List.set_cons_zero, List.set_cons_succ])
              refine wpAnyH_ready (rs := [12]) (by kernel_rfl) (by simp) ?_
              refine AllReadyH.cons (o := ⟨none, _, _, _, _, _⟩) rfl (fun K hK => ?_) AllReadyH.nil
              refine wp_store_blk 24 (.tmp 8) _ rfl bo #[.slice xa rs.length xc] rfl rfl #[.slice none 0 0] HZy.out rfl hi1 (by simp [Value.oneCell']) ?_
              intro w9 U9 B9
              have HU9 := Lib.hid U9
              have HK9 := Lib.hid B9
              have HS9 : Hid (Below wr.heap.size wr w9) := U9.below HSx3.out HGE.out
              clear U9 B9
              refine hK.out _ _ (HS9.out) (fun _ => ?_)
              clear hK K
              (try simp only [Act.put, List.setIfInBounds_toArray, List.set_cons_zero, List.set_cons_succ])
              refine wpAnyH_ready (rs := [13]) (by kernel_rfl) (by simp) ?_
              refine AllReadyH.cons (o := ⟨some 9, _, _, _, _, _⟩) rfl (fun K hK => ?_) AllReadyH.nil
              go_simp
              refine hK.out _ _ (HS9.out) (fun _ => ?_)
              clear hK K
              (try simp only [Act.put, List.setIfInBounds_toArray, List.set_cons_zero, List.set_cons_succ])
              refine wpAnyH_done (by kernel_rfl) ?_ _
              go_wp2_with fail
              go_meet
              case rel => exact TreC.mk HU9.out HK9.out HNI.out HCI.out HOF.out HWI.out HGE.out HS9.out
          · skip
            go_simp
            have HAy : Hid (Below x1.heap.size x1 (x1.alloc (.cells #[.slice none 0 0] 24))) := (Below.refl _ _).alloc (Nat.le_refl _) _
            have HZy : Hid (Blk (x1.alloc (.cells #[.slice none 0 0] 24)) x1.heap.size #[.slice none 0 0]) := Blk.new rfl
            obtain ⟨y2, hy⟩ : ∃ x, x1.alloc (.cells #[.slice none 0 0] 24) = x := ⟨_, rfl⟩
            rw [hy] at HAy HZy ⊢
            clear hy
            have HSy2 : Hid (Below wr.heap.size wr y2) := HSx1.out.trans (HAy.out.mono HSx1.out.size)
            obtain ⟨bo, hbo⟩ : ∃ x, x1.heap.size = x := ⟨_, rfl⟩
            have HBO := Lib.hid hbo
            rw [hbo] at HZy ⊢
            clear hbo
            have HGE : Hid (wr.heap.size ≤ bo) := by have h1 := HSx1.out.size; have h2 := HBO.out; show _ ≤ _; omega
            refine hK.out _ _ (HSy2.out) (fun _ => ?_)
            clear hK K
            (try simp only [Act.put, List.setIfInBounds_toArray, List.set_cons_zero, List.set_cons_succ])
            refine wpAnyH_ready (rs := [3]) (by kernel_rfl) (by simp) ?_
            refine AllReadyH.cons (o := ⟨some 44, _, _, _, _, _⟩) rfl (fun K hK => ?_) AllReadyH.nil
            go_simp
            refine (HRM.out y2).mono ?_
            rintro e x2 ⟨rfl, hbx2⟩
            have HZy := Lib.hid (HZy.out.call (Lib.hid hbx2).out)
            have HSx2 : Hid (Below wr.heap.size wr x2) := HSy2.out.trans (hbx2.mono HSy2.out.size)
            clear hbx2
            refine hK.out _ _ (HSx2.out) (fun _ => ?_)
            clear hK K
            (try simp only [Act.put, List.setIfInBounds_toArray, List.set_cons_zero, List.set_cons_succ])
            refine held_build (oi := ⟨some 47, _, _, _, _, _⟩) 6 rfl (by kernel_rfl) (by kernel_rfl) (by kernel_rfl) (fun _ _ _ _ h => h) rfl 42 _ rfl #[(2, .agg R5.toArray), (3, .agg RM.toArray), (1, .int .u64 (k : Int))] (by simp [Act.eval]) (.agg XF) (HXF.out) HSx2.out ?_
            (try simp only [Act.put, List.setIfInBounds_toArray, List.set_cons_zero, List.set_cons_succ])
            refine wpAnyH_ready (rs := [7]) (by kernel_rfl) (by simp) ?_
            refine AllReadyH.cons (o := ⟨some 48, _, _, _, _, _⟩) rfl (fun K hK => ?_) AllReadyH.nil
            go_simp
            have hncur : NodesV x2 (.slice ta k tc) (fuN k) := (S0.out.call HSx2.out).n.elV ndOK
            refine (HIN.out _ x2 hncur).mono ?_
            rintro e x3 ⟨xv, rfl, hnI, hwI, hcI, hbx3⟩
            clear hncur
            obtain ⟨xa, xc, rfl, _⟩ := hnI.shape
            have HNI := Lib.hid hnI
            have HCI := Lib.hid (hcI _ _ _ rfl)
            have HWI := Lib.hid (hwI.mono HSx2.out.size)
            have HOF := Lib.hid (hwI.off HZy.out.lt)
            clear hnI hcI hwI
            have HZy := Lib.hid (HZy.out.call (Lib.hid hbx3).out)
            have HSx3 : Hid (Below wr.heap.size wr x3) := HSx2.out.trans (hbx3.mono HSx2.out.size)
            clear hbx3
            refine hK.out _ _ (HSx3.out) (fun _ => ?_)
            clear hK K
            (try simp only [Act.put, List.setIfInBounds_toArray, List.set_cons_zero, List.set_cons_succ])
            refine wpAnyH_take (i := 8) (oi := ⟨some 40, _, _, _, _, _⟩) (v := .tuple #[.agg #[.slice xa rs.length xc], .int .i64 er]) rfl (by kernel_rfl) (by kernel_rfl) (by kernel_rfl) (fun _ _ _ h => h) (Or.inl ⟨by rfl, fun wz hz => ?_⟩) HSx3.out ?_
            · clear hz; go_simp; first | done | with_reducible rfl | rfl
            (try simp only [Act.put, List.setIfInBounds_toArray, List.set_cons_zero, List.set_cons_succ])
            refine wpAnyH_take (i := 9) (oi := ⟨some 49, _, _, _, _, _⟩) (v := .agg #[.slice xa rs.length xc]) rfl (by kernel_rfl) (by kernel_rfl) (by kernel_rfl) (fun _ _ _ h => h) (Or.inl ⟨by rfl, fun wz hz => ?_⟩) HSx3.out ?_
            · clear hz; go_simp; first | done | with_reducible rfl | rfl
            (try simp only [Act.put, List.setIfInBounds_toArray, List.set_cons_zero, List.set_cons_succ])
            refine wpAnyH_take (i := 10) (oi := ⟨some 50, _, _, _, _, _⟩) (v := .int .i64 er) rfl (by kernel_rfl) (by kernel_rfl) (by kernel_rfl) (fun _ _ _ h => h) (Or.inl ⟨by rfl, fun wz hz => ?_⟩) HSx3.out ?_
            · clear hz; go_simp; first | done | with_reducible rfl | rfl
            (try simp only [Act.put, List.setIfInBounds_toArray, List.set_cons_zero, List.set_cons_succ])
            refine wpAnyH_ready (rs := [12]) (by kernel_rfl) (by simp) ?_
            refine AllReadyH.cons (o := ⟨none, _, _, _, _, _⟩) rfl (fun K hK => ?_) AllReadyH.nil
            refine wp_store_blk 24 (.tmp 8) _ rfl bo #[.slice xa rs.length xc] rfl rfl #[.slice none 0 0] HZy.out rfl hi1 (by simp [Value.oneCell']) ?_
            intro w9 U9 B9
            have HU9 := Lib.hid U9
            have HK9 := Lib.hid B9
            have HS9 : Hid (Below wr.heap.size wr w9) := U9.below HSx3.out HGE.out
            clear U9 B9
            refine hK.out _ _ (HS9.out) (fun _ => ?_)
            clear hK K
            (try simp only [Act.put, List.setIfInBounds_toArray, List.set_cons_zero, List.set_cons_succ])
            refine wpAnyH_ready (rs := [13]) (by kernel_rfl) (by simp) ?_
            refine AllReadyH.cons (o := ⟨some 9, _, _, _, _, _⟩) rfl (fun K hK => ?_) AllReadyH.nil
            go_simp
            refine hK.out _ _ (HS9.out) (fun _ => ?_)
            clear hK K
            (try simp only [Act.put, List.setIfInBounds_toArray, List.set_cons_zero, List.set_cons_succ])
            refine wpAnyH_done (by kernel_rfl) ?_ _
            go_wp2_with fail
            go_meet
            case rel => exact TreC.mk HU9.out HK9.out HNI.out HCI.out HOF.out HWI.out HGE.out HS9.out
        · skip
          go_simp
          have HAy : Hid (Below x0.heap.size x0 (x0.alloc (.cells #[.slice none 0 0] 24))) := (Below.refl _ _).alloc (Nat.le_refl _) _
          have HZy : Hid (Blk (x0.alloc (.cells #[.slice none 0 0] 24)) x0.heap.size #[.slice none 0 0]) := Blk.new rfl
          obtain ⟨y1, hy⟩ : ∃ x, x0.alloc (.cells #[.slice none 0 0] 24) = x := ⟨_, rfl⟩
          rw [hy] at HAy HZy ⊢
          clear hy
          have HSy1 : Hid (Below wr.heap.size wr y1) := HSx0.out.trans (HAy.out.mono HSx0.out.size)
          obtain ⟨bo, hbo⟩ : ∃ x, x0.heap.size = x := ⟨_, rfl⟩
          have HBO := Lib.hid hbo
          rw [hbo] at HZy ⊢
          clear hbo
          have HGE : Hid (wr.heap.size ≤ bo) := by have h1 := HSx0.out.size; have h2 := HBO.out; show _ ≤ _; omega
          refine hK.out _ _ (HSy1.out) (fun _ => ?_)
          clear hK K
          (try simp only [Act.put, List.setIfInBounds_toArray, List.set_cons_zero, List.set_cons_succ])
          refine wpAnyH_ready (rs := [1]) (by kernel_rfl) (by simp) ?_
          refine AllReadyH.cons (o := ⟨some 42, _, _, _, _, _⟩) rfl (fun K hK => ?_) AllReadyH.nil
          go_simp
          refine (HR5.out y1).mono ?_
          rintro e x1 ⟨rfl, hbx1⟩
          have HZy := Lib.hid (HZy.out.call (Lib.hid hbx1).out)
          have HSx1 : Hid (Below wr.heap.size wr x1) := HSy1.out.trans (hbx1.mono HSy1.out.size)
          clear hbx1
          refine hK.out _ _ (HSx1.out) (fun _ => ?_)
          clear hK K
          (try simp only [Act.put, List.setIfInBounds_toArray, List.set_cons_zero, List.set_cons_succ])
          refine wpAnyH_ready (rs := [3]) (by kernel_rfl) (by simp) ?_
          refine AllReadyH.cons (o := ⟨some 44, _, _, _, _, _⟩) rfl (fun K hK => ?_) AllReadyH.nil
          go_simp
          refine (HRM.out x1).mono ?_
          rintro e x2 ⟨rfl, hbx2⟩
          have HZy := Lib.hid (HZy.out.call (Lib.hid hbx2).out)
          have HSx2 : Hid (Below wr.heap.size wr x2) := HSx1.out.trans (hbx2.mono HSx1.out.size)
          clear hbx2
          refine hK.out _ _ (HSx2.out) (fun _ => ?_)
          clear hK K
          (try simp only [Act.put, List.setIfInBounds_toArray, List.set_cons_zero, List.set_cons_succ])
          refine held_build (oi := ⟨some 47, _, _, _, _, _⟩) 6 rfl (by kernel_rfl) (by kernel_rfl) (by kernel_rfl) (fun _ _ _ _ h => h) rfl 42 _ rfl #[(2, .agg R5.toArray), (3, .agg RM.toArray), (1, .int .u64 (k : Int))] (by simp [Act.eval]) (.agg XF) (HXF.out) HSx2.out ?_
          (try simp only [Act.put, List.setIfInBounds_toArray, List.set_cons_zero, List.set_cons_succ])
          refine wpAnyH_ready (rs := [7]) (by kernel_rfl) (by simp) ?_
          refine AllReadyH.cons (o := ⟨some 48, _, _, _, _, _⟩) rfl (fun K hK => ?_) AllReadyH.nil
          go_simp
          have hncur : NodesV x2 (.slice ta k tc) (fuN k) := (S0.out.call HSx2.out).n.elV ndOK
          refine (HIN.out _ x2 hncur).mono ?_
          rintro e x3 ⟨xv, rfl, hnI, hwI, hcI, hbx3⟩
          clear hncur
          obtain ⟨xa, xc, rfl, _⟩ := hnI.shape
          have HNI := Lib.hid hnI
          have HCI := Lib.hid (hcI _ _ _ rfl)
          have HWI := Lib.hid (hwI.mono HSx2.out.size)
          have HOF := Lib.hid (hwI.off HZy.out.lt)
          clear hnI hcI hwI
          have HZy := Lib.hid (HZy.out.call (Lib.hid hbx3).out)
          have HSx3 : Hid (Below wr.heap.size wr x3) := HSx2.out.trans (hbx3.mono HSx2.out.size)
          clear hbx3
          refine hK.out _ _ (HSx3.out) (fun _ => ?_)
          clear hK K
          (try simp only [Act.put, List.setIfInBounds_toArray, List.set_cons_zero, List.set_cons_succ])
          refine wpAnyH_take (i := 8) (oi := ⟨some 40, _, _, _, _, _⟩) (v := .tuple #[.agg #[.slice xa rs.length xc], .int .i64 er]) rfl (by kernel_rfl) (by kernel_rfl) (by kernel_rfl) (fun _ _ _ h => h) (Or.inl ⟨by rfl, fun wz hz => ?_⟩) HSx3.out ?_
          · clear hz; go_simp; first | done | with_reducible rfl | rfl
          (try simp only [Act.put, List.setIfInBounds_toArray, List.set_cons_zero, List.set_cons_succ])
          refine wpAnyH_take (i := 9) (oi := ⟨some 49, _, _, _, _, _⟩) (v := .agg #[.slice xa rs.length xc]) rfl (by kernel_rfl) (by kernel_rfl) (by kernel_rfl) (fun _ _ _ h => h) (Or.inl ⟨by rfl, fun wz hz => ?_⟩) HSx3.out ?_
          · clear hz; go_simp; first | done | with_reducible rfl | rfl
          (try simp only [Act.put, List.setIfInBounds_toArray, List.set_cons_zero, List.set_cons_succ])
          refine wpAnyH_take (i := 10) (oi := ⟨some 50, _, _, _, _, _⟩) (v := .int .i64 er) rfl (by kernel_rfl) (by kernel_rfl) (by kernel_rfl) (fun _ _ _ h => h) (Or.inl ⟨by rfl, fun wz hz => ?_⟩) HSx3.out ?_
          · clear hz; go_simp; first | done | with_reducible rfl | rfl
          (try simp only [Act.put, List.setIfInBounds_toArray, List.set_cons_zero, List.set_cons_succ])
          refine wpAnyH_ready (rs := [12]) (by kernel_rfl) (by simp) ?_
          refine AllReadyH.cons (o := ⟨none, _, _, _, _, _⟩) rfl (fun K hK => ?_) AllReadyH.nil
          refine wp_store_blk 24 (.tmp 8) _ rfl bo #[.slice xa rs.length xc] rfl rfl #[.slice none 0 0] HZy.out rfl hi1 (by simp [Value.oneCell']) ?_
          intro w9 U9 B9
          have HU9 := Lib.hid U9
          have HK9 := Lib.hid B9
          have HS9 : Hid (Below wr.heap.size wr w9) := U9.below HSx3.out HGE.out
          clear U9 B9
          refine hK.out _ _ (HS9.out) (fun _ => ?_)
          clear hK K
          (try simp only [Act.put, List.setIfInBounds_toArray, List.set_cons_zero, List.set_cons_succ])
          refine wpAnyH_ready (rs := [13]) (by kernel_rfl) (by simp) ?_
          refine AllReadyH.cons (o := ⟨some 9, _, _, _, _, _⟩) rfl (fun K hK => ?_) AllReadyH.nil
          go_simp
          refine hK.out _ _ (HS9.out) (fun _ => ?_)
          clear hK K
          (try simp only [Act.put, List.setIfInBounds_toArray, List.set_cons_zero, List.set_cons_succ])
          refine wpAnyH_done (by kernel_rfl) ?_ _
          go_wp2_with fail
          go_meet
          case rel => exact TreC.mk HU9.out HK9.out HNI.out HCI.out HOF.out HWI.out HGE.out HS9.out
      case rest =>
        obtain ⟨B, xa, xc, rfl, rfl, hk9, hn9, hc9, _, _, _, hb9⟩ := hcut
        have HB9 := Lib.hid (S0.out.b.trans (hb9.mono S0.out.b.size))
        have HK9 := Lib.hid hk9
        by_cases hK0 : K = 0
        · subst hK0
          obtain rfl : k = 4096 := by omega
          rw [if_pos rfl] at HIE
          obtain ⟨rfl, rfl⟩ : rs = [] ∧ er = 11 := by have := HIE.out; cases this; exact ⟨rfl, rfl⟩
          have HK9' : Hid (Blk wc B #[.slice xa 0 xc]) := HK9.out
          clear hk9 hn9 hc9 hb9 HIE HK9
          go_wp2_with (first
            | ((with_reducible refine at_load (.tmp 56) ?_); refine wpList_load_1 22 (.tmp 56) rfl B 0 (.slice xa 0 xc) (HK9'.out.cell 0) rfl _ Try.underlying22 rfl rfl ?_)
            | (go_at_call 9; refine (HAW.out _).mono ?_; rintro e w10 ⟨rfl, hb10⟩; have HB10 := Lib.hid (HB9.out.trans (hb10.mono HB9.out.size)); clear hb10))
          go_ret
          exact ⟨rfl, HB10.out⟩
        · obtain rfl : K = 1 := by omega
          obtain rfl : k = 4095 := by omega
          rw [if_neg (by omega)] at HIE
          have hrs : rs = fuN 4095 ++ [⟨fuX 4095, ((4095 - 1 : Nat) : Int), 1⟩] := by have := HIE.out; injection this
          obtain rfl : er = 0 := by have := HIE.out; injection this
          have hrl : rs.length = 4096 := by rw [hrs, List.length_append, fuN_len]; rfl
          have hi : 4095 < rs.length := by omega
          obtain ⟨b, off, rfl, hlm, hbb, hna, hoke⟩ := hn9.elem hi
          have hup : rs[4095].up = 4094 := by
            simp only [hrs]
            rw [List.getElem_append_right (by rw [fuN_len]; exact Nat.le_refl _)]
            simp [fuN_len]
          have hcu := hna.up
          rw [hup] at hcu
          have HCU := Lib.hid hcu
          have HK9' : Hid (Blk wc B #[.slice (some ⟨b, off, none⟩) 4096 xc]) := by show Blk _ _ _; rw [← hrl]; exact HK9.out
          clear hk9 hn9 hc9 hb9 HIE HK9 hoke hrs hrl hlm hna hup hcu
          go_wp2_with (first
            | ((with_reducible refine at_load (.tmp 67) ?_); refine wpList_load_1 22 (.tmp 67) rfl B 0 (.slice (some ⟨b, off, none⟩) 4096 xc) (HK9'.out.cell 0) rfl _ Try.underlying22 rfl rfl ?_)
            | ((with_reducible refine at_load (.tmp 73) ?_); refine wpList_load_1 22 (.tmp 73) rfl B 0 (.slice (some ⟨b, off, none⟩) 4096 xc) (HK9'.out.cell 0) rfl _ Try.underlying22 rfl rfl ?_)
            | ((with_reducible refine at_load (.tmp 76) ?_); refine wpList_load_1 3 (.tmp 76) rfl b (off + 4095 * 240 + 238) (.int .i64 4094) HCU.out rfl _ Try.underlying3 rfl rfl ?_)
            | (go_at_call 9; refine (HAW.out _).mono ?_; rintro e w10 ⟨rfl, hb10⟩; have HB10 := Lib.hid (HB9.out.trans (hb10.mono HB9.out.size)); clear hb10))
          go_ret
          exact ⟨rfl, HB10.out⟩
end

end Go.Proofs.Ytgdlkkeiijhecaa
