/- The law's awake of stage 9. -/
import Derived.Test.YtlbhkgmlfapjgaaEqA
import Derived.Test.YtlbhkgmlfapjgaaEvF
set_option linter.unusedVariables false

set_option linter.unusedSimpArgs false
namespace Go.Proofs.Ytlbhkgmlfapjgaa
open Go.RowKit

set_option maxRecDepth 100000

/-- A claim without a root or validators. -/
def clN (s t : Int) : ClD := ⟨s, t, zeroR, .slice none 0 0⟩

theorem clN_ok {s t : Int} (hs : 0 ≤ s ∧ s ≤ 18446744073709551615) (ht : 0 ≤ t ∧ t ≤ 18446744073709551615) : (clN s t).ok := ⟨hs, ht, zeroR_is⟩

theorem clN_one (s t : Int) : ∀ v ∈ (clN s t).cells, v.oneCell' = true := ClD.one rfl

theorem build_clN (s t : Int) (u : World) : (Instr.build 27 #[(0, .int .u64 s), (1, .int .u64 t)]).run Try.prog u = .ok (.agg (clN s t).cells.toArray) u := by
  refine build_struct (zero := flatP zeClP) (fun w => by kernel_rfl) Try.underlying27 (places := #[(0, 1), (1, 1), (2, 32), (34, 1)]) (fun w => by kernel_rfl) ?_ u
  show Instr.fill _ (flatP zeClP) [(0, .int .u64 s), (1, .int .u64 t)] = _
  rw [fill_part 0 [.int .u64 0] [.int .u64 s] rfl rfl rfl rfl rfl, fill_part (i := 1) (o := 1) 1 [.int .u64 0] [.int .u64 t] rfl rfl rfl rfl rfl]
  unfold Instr.fill
  simp [flatP, zeClP, ClD.cells, ClD.parts, clN]

theorem sla_cl (x y : ClD) (q : Bool) (w : World) (hx : x.ok) (hy : y.ok) (hq : decide (SlaP x y) = q) :
    Calls Try.prog 8 #[.agg x.cells.toArray, .agg y.cells.toArray] w fun e w' => e = .returned (.bool q) ∧ Below w.heap.size w w' := hq ▸ sla_any x y w hx hy

set_option maxHeartbeats 8000000 in
theorem awake9_any (w : World) : Calls Try.prog 10 #[] w fun e w' => e = .returned (.bool true) ∧ Below w.heap.size w w' := by
  have hu : ∀ n : Int, n = 1 ∨ n = 2 ∨ n = 4 ∨ n = 5 → 0 ≤ n ∧ n ≤ 18446744073709551615 := by intro n h; omega
  have ok1 := clN_ok (hu 1 (by omega)) (hu 5 (by omega))
  have ok2 := clN_ok (hu 2 (by omega)) (hu 4 (by omega))
  have ok3 := clN_ok (hu 1 (by omega)) (hu 4 (by omega))
  have ok4 := clN_ok (hu 2 (by omega)) (hu 5 (by omega))
  have HS1 := Lib.hid (fun u => sla_cl (clN 1 5) (clN 2 4) true u ok1 ok2 (by unfold SlaP clN; decide))
  have HS2 := Lib.hid (fun u => sla_cl (clN 2 4) (clN 1 5) true u ok2 ok1 (by unfold SlaP clN; decide))
  have HS3 := Lib.hid (fun u => sla_cl (clN 1 4) (clN 2 5) false u ok3 ok4 (by unfold SlaP clN; decide))
  have HS4 := Lib.hid (fun u => sla_cl (clN 1 5) (clN 1 5) false u ok1 ok1 (sla_self _))
  have HB1 := Lib.hid (build_clN 1 5)
  have HB2 := Lib.hid (build_clN 2 4)
  have HB3 := Lib.hid (build_clN 1 4)
  have HB4 := Lib.hid (build_clN 2 5)
  have h35 : (Try.prog.info? 27).map (·.size) = some 35 := by kernel_rfl
  obtain ⟨Z, hZ⟩ : ∃ Z, zeClP.flatten.toArray = Z := ⟨_, rfl⟩
  have hszZ : Z.size = 35 := by rw [← hZ]; rfl
  obtain ⟨hz35, hst⟩ := zero_array (P := Try.prog) (t := 27) (n := 35) Z (by rw [← hZ]; kernel_rfl) hszZ (by rw [← hZ]; kernel_rfl)
  clear hst hZ
  have HO1 := Lib.hid (clN_one 1 5)
  have hl1 := ClD.len ok1
  obtain ⟨C1, hC1⟩ : ∃ C, (clN 1 5).cells = C := ⟨_, rfl⟩
  rw [hC1] at HO1 hl1 HB1
  have HO2 := Lib.hid (clN_one 2 4)
  have hl2 := ClD.len ok2
  obtain ⟨C2, hC2⟩ : ∃ C, (clN 2 4).cells = C := ⟨_, rfl⟩
  rw [hC2] at HO2 hl2 HB2
  have HO3 := Lib.hid (clN_one 1 4)
  have hl3 := ClD.len ok3
  obtain ⟨C3, hC3⟩ : ∃ C, (clN 1 4).cells = C := ⟨_, rfl⟩
  rw [hC3] at HO3 hl3 HB3
  have HO4 := Lib.hid (clN_one 2 5)
  have hl4 := ClD.len ok4
  obtain ⟨C4, hC4⟩ : ∃ C, (clN 2 5).cells = C := ⟨_, rfl⟩
  rw [hC4] at HO4 hl4 HB4
  rw [hC1, hC2] at HS1 HS2
  rw [hC3, hC4] at HS3
  rw [hC1] at HS4
  clear hC1 hC2 hC3 hC4 ok1 ok2 ok3 ok4 hu
  have hi1 : (Try.prog.info? 27).map (·.size) = some C1.toArray.size := by rw [List.size_toArray, hl1]; exact h35
  have hj1 : (Try.prog.info? 27).map (·.size) = some C1.length := by rw [hl1]; exact h35
  have hs1 : Z.size = C1.toArray.size := by rw [hszZ, List.size_toArray, hl1]
  have HP1 : Hid (∀ v ∈ C1.toArray, v.oneCell' = true) := by show ∀ v ∈ C1.toArray, _; intro v hv; exact HO1.out v (by simpa using hv)
  have hi2 : (Try.prog.info? 27).map (·.size) = some C2.toArray.size := by rw [List.size_toArray, hl2]; exact h35
  have hj2 : (Try.prog.info? 27).map (·.size) = some C2.length := by rw [hl2]; exact h35
  have hs2 : Z.size = C2.toArray.size := by rw [hszZ, List.size_toArray, hl2]
  have HP2 : Hid (∀ v ∈ C2.toArray, v.oneCell' = true) := by show ∀ v ∈ C2.toArray, _; intro v hv; exact HO2.out v (by simpa using hv)
  have hi3 : (Try.prog.info? 27).map (·.size) = some C3.toArray.size := by rw [List.size_toArray, hl3]; exact h35
  have hj3 : (Try.prog.info? 27).map (·.size) = some C3.length := by rw [hl3]; exact h35
  have hs3 : Z.size = C3.toArray.size := by rw [hszZ, List.size_toArray, hl3]
  have HP3 : Hid (∀ v ∈ C3.toArray, v.oneCell' = true) := by show ∀ v ∈ C3.toArray, _; intro v hv; exact HO3.out v (by simpa using hv)
  have hi4 : (Try.prog.info? 27).map (·.size) = some C4.toArray.size := by rw [List.size_toArray, hl4]; exact h35
  have hj4 : (Try.prog.info? 27).map (·.size) = some C4.length := by rw [hl4]; exact h35
  have hs4 : Z.size = C4.toArray.size := by rw [hszZ, List.size_toArray, hl4]
  have HP4 : Hid (∀ v ∈ C4.toArray, v.oneCell' = true) := by show ∀ v ∈ C4.toArray, _; intro v hv; exact HO4.out v (by simpa using hv)
  go_enter Try.func10, Try.ntmps10
  go_wp2_with (first
    | ((with_reducible refine at_store (.tmp 1) ?_); refine wpList_store_blk rfl 27 (.tmp 1) _ rfl w.heap.size C1.toArray rfl rfl Z ((Blk.new rfl).alloc _) hs1 hi1 HP1.out ?_; intro w1 U B; have HK11 := Lib.hid B; have HZ1 := Lib.hid (U.blk (Blk.new (by simp) : Blk _ (w.heap.size + 1) Z) (by omega)); have HL1 := Lib.hid (U.below (((Below.refl w.heap.size w).alloc (Nat.le_refl _) (.cells Z 27)).alloc (by simp) (.cells Z 27)) (Nat.le_refl _)); clear U B)
    | ((with_reducible refine at_store (.tmp 2) ?_); refine wpList_store_blk rfl 27 (.tmp 2) _ rfl (w.heap.size + 1) C2.toArray rfl rfl Z HZ1.out hs2 hi2 HP2.out ?_; intro w2 U B; have HK12 := Lib.hid (U.blk HK11.out (by omega)); have HK22 := Lib.hid B; have HL2 := Lib.hid (U.below HL1.out (by omega)); have hlt2 := HK22.out.lt; clear U B)
    | ((with_reducible refine at_store (.tmp 3) ?_); refine wpList_store_blk rfl 27 (.tmp 3) _ rfl w2.heap.size C3.toArray rfl rfl Z ((Blk.new rfl).alloc _) hs3 hi3 HP3.out ?_; intro w3 U B; have HK13 := Lib.hid (U.blk ((HK12.out.alloc _).alloc _) (by omega)); have HK23 := Lib.hid (U.blk ((HK22.out.alloc _).alloc _) (by omega)); have HK33 := Lib.hid B; have HZ3 := Lib.hid (U.blk (Blk.new (by simp) : Blk _ (w2.heap.size + 1) Z) (by omega)); have HL3 := Lib.hid (U.below ((HL2.out.alloc HL2.out.size (.cells Z 27)).alloc (by have := HL2.out.size; simp; omega) (.cells Z 27)) HL2.out.size); clear U B)
    | ((with_reducible refine at_store (.tmp 4) ?_); refine wpList_store_blk rfl 27 (.tmp 4) _ rfl (w2.heap.size + 1) C4.toArray rfl rfl Z HZ3.out hs4 hi4 HP4.out ?_; intro w4 U B; have HK14 := Lib.hid (U.blk HK13.out (by omega)); have HK24 := Lib.hid (U.blk HK23.out (by omega)); have HK34 := Lib.hid (U.blk HK33.out (by omega)); have HK44 := Lib.hid B; have HL4 := Lib.hid (U.below HL3.out (by have := HL2.out.size; omega)); clear U B)
    | ((with_reducible refine at_build (some 5) ?_); refine wpList_build_g 27 _ rfl #[(0, .int .u64 1), (1, .int .u64 5)] (by simp [Act.eval]) (.agg C1.toArray) (HB1.out _) rfl ?_)
    | ((with_reducible refine at_build (some 6) ?_); refine wpList_build_g 27 _ rfl #[(0, .int .u64 2), (1, .int .u64 4)] (by simp [Act.eval]) (.agg C2.toArray) (HB2.out _) rfl ?_)
    | ((with_reducible refine at_build (some 7) ?_); refine wpList_build_g 27 _ rfl #[(0, .int .u64 1), (1, .int .u64 4)] (by simp [Act.eval]) (.agg C3.toArray) (HB3.out _) rfl ?_)
    | ((with_reducible refine at_build (some 8) ?_); refine wpList_build_g 27 _ rfl #[(0, .int .u64 2), (1, .int .u64 5)] (by simp [Act.eval]) (.agg C4.toArray) (HB4.out _) rfl ?_)
    | ((with_reducible refine at_load (.tmp 1) ?_); refine wpList_load_rng 27 (.tmp 1) rfl w.heap.size 0 C1 HK17.out.rng rfl _ Try.underlying27 rfl hj1 rfl ?_)
    | ((with_reducible refine at_load (.tmp 3) ?_); refine wpList_load_rng 27 (.tmp 3) rfl w2.heap.size 0 C3 HK36.out.rng rfl _ Try.underlying27 rfl hj3 rfl ?_)
    | ((with_reducible refine at_load (.tmp 4) ?_); refine wpList_load_rng 27 (.tmp 4) rfl (w2.heap.size + 1) 0 C4 HK46.out.rng rfl _ Try.underlying27 rfl hj4 rfl ?_)
    | ((with_reducible refine at_load (.tmp 2) ?_); refine wpList_load_rng 27 (.tmp 2) rfl (w.heap.size + 1) 0 C2 HK25.out.rng rfl _ Try.underlying27 rfl hj2 rfl ?_)
    | ((with_reducible refine at_load (.tmp 1) ?_); refine wpList_load_rng 27 (.tmp 1) rfl w.heap.size 0 C1 HK15.out.rng rfl _ Try.underlying27 rfl hj1 rfl ?_)
    | ((with_reducible refine at_load (.tmp 1) ?_); refine wpList_load_rng 27 (.tmp 1) rfl w.heap.size 0 C1 HK14.out.rng rfl _ Try.underlying27 rfl hj1 rfl ?_)
    | ((with_reducible refine at_load (.tmp 2) ?_); refine wpList_load_rng 27 (.tmp 2) rfl (w.heap.size + 1) 0 C2 HK24.out.rng rfl _ Try.underlying27 rfl hj2 rfl ?_)
    | (go_at_call 8; have _d := HK17; refine (HS4.out _).mono ?_; clear _d; rintro e w8 ⟨rfl, hb⟩; have HK18 := Lib.hid (HK17.out.call hb); have HK28 := Lib.hid (HK27.out.call hb); have HK38 := Lib.hid (HK37.out.call hb); have HK48 := Lib.hid (HK47.out.call hb); have HL8 := Lib.hid (HL7.out.trans (hb.mono HL7.out.size)); clear hb)
    | (go_at_call 8; have _d := HK16; refine (HS3.out _).mono ?_; clear _d; rintro e w7 ⟨rfl, hb⟩; have HK17 := Lib.hid (HK16.out.call hb); have HK27 := Lib.hid (HK26.out.call hb); have HK37 := Lib.hid (HK36.out.call hb); have HK47 := Lib.hid (HK46.out.call hb); have HL7 := Lib.hid (HL6.out.trans (hb.mono HL6.out.size)); clear hb)
    | (go_at_call 8; have _d := HK15; refine (HS2.out _).mono ?_; clear _d; rintro e w6 ⟨rfl, hb⟩; have HK16 := Lib.hid (HK15.out.call hb); have HK26 := Lib.hid (HK25.out.call hb); have HK36 := Lib.hid (HK35.out.call hb); have HK46 := Lib.hid (HK45.out.call hb); have HL6 := Lib.hid (HL5.out.trans (hb.mono HL5.out.size)); clear hb)
    | (go_at_call 8; have _d := HK14; refine (HS1.out _).mono ?_; clear _d; rintro e w5 ⟨rfl, hb⟩; have HK15 := Lib.hid (HK14.out.call hb); have HK25 := Lib.hid (HK24.out.call hb); have HK35 := Lib.hid (HK34.out.call hb); have HK45 := Lib.hid (HK44.out.call hb); have HL5 := Lib.hid (HL4.out.trans (hb.mono HL4.out.size)); clear hb)
    | fail)
  go_ret
  exact ⟨rfl, HL8.out⟩
end Go.Proofs.Ytlbhkgmlfapjgaa
