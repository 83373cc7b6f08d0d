/- The code's Validate. -/
import Derived.Test.YtlbhkgmlfapjgaaEqE
import Derived.Test.YtlbhkgmlfapjgaaEqA
import Derived.Test.YtlbhkgmlfapjgaaEvF
import Derived.Test.YtlbhkgmlfapjgaaEl2
set_option linter.unusedVariables false

set_option linter.unusedSimpArgs false
namespace Go.Proofs.Ytlbhkgmlfapjgaa
open Go.RowKit

set_option maxRecDepth 100000

def zeCl : ClD := ⟨0, 0, zeroR, .slice none 0 0⟩

/-- What Validate's loop holds. -/
def ValI (w : World) (X Y : Array Value) (e1 e2 : Int) (i : Value) (wr : World) : Prop :=
  ∃ k : Nat, k ≤ 2 ∧ i = .int .i64 k ∧ (0 < k → e1 = 0) ∧ (1 < k → e2 = 0) ∧ Blk wr w.heap.size X ∧ Blk wr (w.heap.size + 1) Y ∧ Below w.heap.size w wr

set_option maxHeartbeats 8000000 in
theorem val_any (x y : ClD) (l m : List Int) (n : Int) (w : World) (hx : x.ok) (hy : y.ok) (h1 : IntsV w x.v l) (h2 : IntsV w y.v m) (hl : l.length ≤ 100000) (hm : m.length ≤ 100000) (hn : -9223372036854775808 ≤ n ∧ n ≤ 9223372036854775807) :
    Calls Try.prog 11 #[.agg (flatP [x.cells, y.cells]), .int .i64 n] w fun e w' => e = .returned (.int .i64 (vsE x y l m n)) ∧ Below w.heap.size w w' := by
  obtain ⟨q, hq⟩ : ∃ q, vsE x y l m n = q := ⟨_, rfl⟩
  rw [hq]
  unfold vsE at hq
  have hsz := fmt_sl hx hy
  have HSLA := Lib.hid (fun u => sla_any x y u hx hy)
  have HCUL := Lib.hid (fun u (hu : Below w.heap.size w u) => cul_code x y l m u hx hy (h1.below hu) (h2.below hu) hl hm)
  obtain ⟨X, hX⟩ : ∃ X, flatP [x.cells, y.cells] = X := ⟨_, rfl⟩
  have HP : Hid (∀ u, Blk u w.heap.size X → u.cell? ⟨w.heap.size, 0, none⟩ = some (.int .u64 x.source) ∧ u.cell? ⟨w.heap.size, 1, none⟩ = some (.int .u64 x.target) ∧ u.cell? ⟨w.heap.size, 35, none⟩ = some (.int .u64 y.source) ∧ u.cell? ⟨w.heap.size, 36, none⟩ = some (.int .u64 y.target) ∧ u.rangeAt w.heap.size 0 x.cells ∧ u.rangeAt w.heap.size 35 y.cells) := fun u hu => by
    rw [← hX] at hu
    obtain ⟨h1, h2⟩ := sl_at hu hx
    obtain ⟨a1, a2, a3, a4⟩ := cl_at h1 hx
    obtain ⟨b1, b2, b3, b4⟩ := cl_at h2 hy
    simp only [Nat.zero_add] at a2 a3 a4
    exact ⟨a1, a2, b1, b2, h1, h2⟩
  have HPC : Hid (∀ u b, Blk u b (x.cells.toArray ++ y.cells.toArray) → u.rangeAt b 0 x.cells ∧ u.rangeAt b 35 y.cells) := fun u b hu => sl_at (hu.to (by simp [flatP])) hx
  have HPV1 : Hid (∀ u b, Blk u b x.cells.toArray → u.cell? ⟨b, 34, none⟩ = some x.v) := fun u b hu => by have := (cl_at hu.rng hx).2.2.2; rw [Nat.zero_add] at this; exact this
  have HPV2 : Hid (∀ u b, Blk u b y.cells.toArray → u.cell? ⟨b, 34, none⟩ = some y.v) := fun u b hu => by have := (cl_at hu.rng hy).2.2.2; rw [Nat.zero_add] at this; exact this
  rw [hX] at HCUL hsz ⊢
  have hiX : (Try.prog.info? 31).map (·.size) = some X.size := by rw [hsz]; kernel_rfl
  have hi1 : (Try.prog.info? 27).map (·.size) = some x.cells.length := by rw [ClD.len hx]; kernel_rfl
  have hi2 : (Try.prog.info? 27).map (·.size) = some y.cells.length := by rw [ClD.len hy]; kernel_rfl
  have hI1 : (Try.prog.info? 27).map (·.size) = some x.cells.toArray.size := by rw [List.size_toArray]; exact hi1
  have hI2 : (Try.prog.info? 27).map (·.size) = some y.cells.toArray.size := by rw [List.size_toArray]; exact hi2
  have HO1 : Hid (∀ v ∈ x.cells.toArray, v.oneCell' = true) := fun v hv => ClD.one (by obtain ⟨a, b, c, e⟩ := ints_shape' h1.1; rw [e]; rfl) v (by simpa using hv)
  have HO2 : Hid (∀ v ∈ y.cells.toArray, v.oneCell' = true) := fun v hv => ClD.one (by obtain ⟨a, b, c, e⟩ := ints_shape' h2.1; rw [e]; rfl) v (by simpa using hv)
  obtain ⟨Z, hZ⟩ : ∃ Z, zeCl.cells.toArray = Z := ⟨_, rfl⟩
  have hszZ : Z.size = 35 := by rw [← hZ]; rfl
  obtain ⟨hz35, hst⟩ := zero_array (P := Try.prog) (t := 27) (n := 35) Z (by rw [← hZ]; kernel_rfl) hszZ (by rw [← hZ]; kernel_rfl)
  have hZ1 : Z.size = x.cells.toArray.size := by rw [hszZ, List.size_toArray, ClD.len hx]
  have hZ2 : Z.size = y.cells.toArray.size := by rw [hszZ, List.size_toArray, ClD.len hy]
  have HBE := Lib.hid (fun u => buildEl2 (P := Try.prog) (X := x.cells.toArray) (Y := y.cells.toArray) Try.underlying52 hz35 (sz := 35) (by kernel_rfl) hszZ (by rw [← hZ1]; exact hszZ) (by rw [← hZ2]; exact hszZ) (by omega) (by omega) u)
  have HV1 := Lib.hid (fun u (hu : Below w.heap.size w u) => vlist_any x.v l n u (h1.below hu) hn.1 hn.2)
  have HV2 := Lib.hid (fun u (hu : Below w.heap.size w u) => vlist_any y.v m n u (h2.below hu) hn.1 hn.2)
  have HBA := Lib.hid ((Below.refl w.heap.size w).alloc (Nat.le_refl _) (.cells X 31))
  have HK0 : Hid (Blk (w.alloc (.cells X 31)) w.heap.size X) := Blk.new rfl
  obtain ⟨qs, hqs⟩ : ∃ q : Bool, decide (SlaP x y) = q := ⟨_, rfl⟩
  have hqe : (¬ SlaP x y) ↔ qs = false := by rw [← hqs]; simp
  rw [hqs] at HSLA
  simp only [hqe] at hq
  obtain ⟨C, hC⟩ : ∃ C, culI l m = C := ⟨_, rfl⟩
  rw [hC] at HCUL hq
  obtain ⟨C1, h⟩ : ∃ z, x.cells = z := ⟨_, rfl⟩; rw [h] at HP HSLA hi1 HPC HPV1 hI1 HO1 hZ1 HBE; clear h
  obtain ⟨C2, h⟩ : ∃ z, y.cells = z := ⟨_, rfl⟩; rw [h] at HP HSLA hi2 HPC HPV2 hI2 HO2 hZ2 HBE; clear h
  obtain ⟨s1, h⟩ : ∃ z, x.source = z := ⟨_, rfl⟩; rw [h] at HP hq; clear h
  obtain ⟨s2, h⟩ : ∃ z, y.source = z := ⟨_, rfl⟩; rw [h] at HP hq; clear h
  obtain ⟨t1, h⟩ : ∃ z, x.target = z := ⟨_, rfl⟩; rw [h] at HP hq; clear h
  obtain ⟨t2, h⟩ : ∃ z, y.target = z := ⟨_, rfl⟩; rw [h] at HP hq; clear h
  obtain ⟨v1, h⟩ : ∃ z, x.v = z := ⟨_, rfl⟩; rw [h] at HPV1 HV1 h1; clear h
  obtain ⟨v2, h⟩ : ∃ z, y.v = z := ⟨_, rfl⟩; rw [h] at HPV2 HV2 h2; clear h
  obtain ⟨e1, he1⟩ : ∃ z, vlE l n = z := ⟨_, rfl⟩
  obtain ⟨e2, he2⟩ : ∃ z, vlE m n = z := ⟨_, rfl⟩
  rw [he1] at HV1 hq
  rw [he2] at HV2 hq
  have P0 := Lib.hid (HP.out _ HK0.out)
  have HQ := Lib.hid hq
  obtain ⟨a1, n1, c1, rfl⟩ := ints_shape' h1.1
  obtain ⟨a2, n2, c2, rfl⟩ := ints_shape' h2.1
  clear he1 he2 hqs hqe hC hX hx hy hsz h1 h2 hZ hst hq hl hm
  obtain ⟨CC, hCC⟩ : ∃ CC, C1.toArray ++ C2.toArray = CC := ⟨_, rfl⟩
  rw [hCC] at HBE HPC
  clear hCC
  go_enter Try.func11, Try.ntmps11
  go_wp2_with (first
    | ((with_reducible refine at_load (.tmp 8) ?_); refine wpList_load_rng 27 (.tmp 8) rfl w.heap.size (0) (C1) (P0.out.2.2.2.2.1) rfl _ Try.underlying27 rfl (hi1) rfl ?_)
    | ((with_reducible refine at_load (.tmp 10) ?_); refine wpList_load_rng 27 (.tmp 10) rfl w.heap.size (35) (C2) (P0.out.2.2.2.2.2) rfl _ Try.underlying27 rfl (hi2) rfl ?_)
    | ((with_reducible refine at_buildSliceE (some 12) ?_); refine wpList_buildSliceE rfl 52 2 _ rfl #[(0, .agg C1.toArray), (1, .agg C2.toArray)] (by simp [Act.eval, Act.put]) _ (HBE.out _) ?_)
    | fail)
  go_loopw [14] (fun i wr => ValI w X CC e1 e2 i wr) (fun i _ => 2 - (intOf i).toNat)
  case atStart => exact ⟨0, by omega, rfl, by omega, by omega, HK0.out.alloc _, Blk.new (by simp), HBA.out.alloc HBA.out.size _⟩
  case round =>
    obtain ⟨k, hk, rfl, he1, he2, hkx, hky, hbl⟩ := hrel
    have HKX := Lib.hid hkx
    have HKY := Lib.hid hky
    have HBL := Lib.hid hbl
    have HE1 := Lib.hid he1
    have HE2 := Lib.hid he2
    have hlt := hky.lt
    have PC := Lib.hid (HPC.out _ _ hky)
    clear hkx hky hbl he1 he2 P0 HK0 HBA
    rcases k with _ | _ | _ | k
    · by_cases hz : e1 = 0
      · have hnz : (e1 != 0) = false := by simpa using hz
        have HZ := Lib.hid hz
        clear hz
        go_wp2_with (first
          | ((with_reducible refine at_load (.tmp 16) ?_); refine wpList_load_rng 27 (.tmp 16) rfl (w.heap.size + 1) (0) (C1) (PC.out.1) rfl _ Try.underlying27 rfl (hi1) rfl ?_)
          | ((with_reducible refine at_store (.tmp 6) ?_); refine wpList_store_blk rfl 27 (.tmp 6) _ rfl wr.heap.size C1.toArray rfl rfl Z (Blk.new rfl) hZ1 hI1 HO1.out ?_; intro w2 U B; have hb := U.below ((Below.refl wr.heap.size wr).alloc (Nat.le_refl _) (.cells Z 27)) (Nat.le_refl _); have HX2 := Lib.hid (HKX.out.call hb); have HY2 := Lib.hid (HKY.out.call hb); have HB2 := Lib.hid (HBL.out.trans (hb.mono HBL.out.size)); have HC2 := Lib.hid (HPV1.out _ _ B); clear U B hb)
          | ((with_reducible refine at_load (.tmp 18) ?_); refine wpList_load_1 25 (.tmp 18) rfl wr.heap.size (34) ((.slice a1 n1 c1)) (HC2.out) rfl _ Try.underlying25 rfl rfl ?_)
          | (go_at_call 27; refine (HV1.out _ HB2.out).mono ?_; rintro e w3 ⟨rfl, rfl⟩)
          | fail)
        go_roundw
        case rel => exact ⟨1, by omega, by go_num, fun _ => HZ.out, by omega, HX2.out, HY2.out, HB2.out⟩
        case measure => simp [intOf]
      · have hnz : (e1 != 0) = true := by simpa using hz
        have HZ : Hid (q = e1) := by show q = e1; rw [← HQ.out]; rw [if_pos hz]
        clear hz
        go_wp2_with (first
          | ((with_reducible refine at_load (.tmp 16) ?_); refine wpList_load_rng 27 (.tmp 16) rfl (w.heap.size + 1) (0) (C1) (PC.out.1) rfl _ Try.underlying27 rfl (hi1) rfl ?_)
          | ((with_reducible refine at_store (.tmp 6) ?_); refine wpList_store_blk rfl 27 (.tmp 6) _ rfl wr.heap.size C1.toArray rfl rfl Z (Blk.new rfl) hZ1 hI1 HO1.out ?_; intro w2 U B; have hb := U.below ((Below.refl wr.heap.size wr).alloc (Nat.le_refl _) (.cells Z 27)) (Nat.le_refl _); have HX2 := Lib.hid (HKX.out.call hb); have HY2 := Lib.hid (HKY.out.call hb); have HB2 := Lib.hid (HBL.out.trans (hb.mono HBL.out.size)); have HC2 := Lib.hid (HPV1.out _ _ B); clear U B hb)
          | ((with_reducible refine at_load (.tmp 18) ?_); refine wpList_load_1 25 (.tmp 18) rfl wr.heap.size (34) ((.slice a1 n1 c1)) (HC2.out) rfl _ Try.underlying25 rfl rfl ?_)
          | (go_at_call 27; refine (HV1.out _ HB2.out).mono ?_; rintro e w3 ⟨rfl, rfl⟩)
          | fail)
        go_ret
        exact ⟨by rw [HZ.out]; rfl, HB2.out⟩
    · have hz1 := HE1.out (by omega)
      subst hz1
      by_cases hz : e2 = 0
      · have hnz : (e2 != 0) = false := by simpa using hz
        have HZ := Lib.hid hz
        clear hz
        go_wp2_with (first
          | ((with_reducible refine at_load (.tmp 16) ?_); refine wpList_load_rng 27 (.tmp 16) rfl (w.heap.size + 1) (35) (C2) (PC.out.2) rfl _ Try.underlying27 rfl (hi2) rfl ?_)
          | ((with_reducible refine at_store (.tmp 6) ?_); refine wpList_store_blk rfl 27 (.tmp 6) _ rfl wr.heap.size C2.toArray rfl rfl Z (Blk.new rfl) hZ2 hI2 HO2.out ?_; intro w2 U B; have hb := U.below ((Below.refl wr.heap.size wr).alloc (Nat.le_refl _) (.cells Z 27)) (Nat.le_refl _); have HX2 := Lib.hid (HKX.out.call hb); have HY2 := Lib.hid (HKY.out.call hb); have HB2 := Lib.hid (HBL.out.trans (hb.mono HBL.out.size)); have HC2 := Lib.hid (HPV2.out _ _ B); clear U B hb)
          | ((with_reducible refine at_load (.tmp 18) ?_); refine wpList_load_1 25 (.tmp 18) rfl wr.heap.size (34) ((.slice a2 n2 c2)) (HC2.out) rfl _ Try.underlying25 rfl rfl ?_)
          | (go_at_call 27; refine (HV2.out _ HB2.out).mono ?_; rintro e w3 ⟨rfl, rfl⟩)
          | fail)
        go_roundw
        case rel => exact ⟨2, by omega, by go_num, fun _ => rfl, fun _ => HZ.out, HX2.out, HY2.out, HB2.out⟩
        case measure => simp [intOf]
      · have hnz : (e2 != 0) = true := by simpa using hz
        have HZ : Hid (q = e2) := by show q = e2; rw [← HQ.out]; rw [if_neg (by simp), if_pos hz]
        clear hz
        go_wp2_with (first
          | ((with_reducible refine at_load (.tmp 16) ?_); refine wpList_load_rng 27 (.tmp 16) rfl (w.heap.size + 1) (35) (C2) (PC.out.2) rfl _ Try.underlying27 rfl (hi2) rfl ?_)
          | ((with_reducible refine at_store (.tmp 6) ?_); refine wpList_store_blk rfl 27 (.tmp 6) _ rfl wr.heap.size C2.toArray rfl rfl Z (Blk.new rfl) hZ2 hI2 HO2.out ?_; intro w2 U B; have hb := U.below ((Below.refl wr.heap.size wr).alloc (Nat.le_refl _) (.cells Z 27)) (Nat.le_refl _); have HX2 := Lib.hid (HKX.out.call hb); have HY2 := Lib.hid (HKY.out.call hb); have HB2 := Lib.hid (HBL.out.trans (hb.mono HBL.out.size)); have HC2 := Lib.hid (HPV2.out _ _ B); clear U B hb)
          | ((with_reducible refine at_load (.tmp 18) ?_); refine wpList_load_1 25 (.tmp 18) rfl wr.heap.size (34) ((.slice a2 n2 c2)) (HC2.out) rfl _ Try.underlying25 rfl rfl ?_)
          | (go_at_call 27; refine (HV2.out _ HB2.out).mono ?_; rintro e w3 ⟨rfl, rfl⟩)
          | fail)
        go_ret
        exact ⟨by rw [HZ.out]; rfl, HB2.out⟩
    · have hz1 := HE1.out (by omega)
      have hz2 := HE2.out (by omega)
      subst hz1 hz2
      have hq := HQ.out
      rw [if_neg (by simp), if_neg (by simp)] at hq
      clear HQ HE1 HE2
      have P2 := Lib.hid (HP.out _ HKX.out)
      by_cases hst1 : t1 < s1
      case pos =>
        have HZ : Hid (q = 2) := by show q = _; rw [← hq]; rw [if_pos (.inl hst1)]
        clear hq
        go_wp2_with (first
          | ((with_reducible refine at_load (.tmp 27) ?_); refine wpList_load_1 22 (.tmp 27) rfl w.heap.size (0) (.int .u64 s1) (P2.out.1) rfl _ Try.underlying22 rfl rfl ?_)
          | ((with_reducible refine at_load (.tmp 30) ?_); refine wpList_load_1 22 (.tmp 30) rfl w.heap.size (1) (.int .u64 t1) (P2.out.2.1) rfl _ Try.underlying22 rfl rfl ?_)
          | fail)
        go_ret
        exact ⟨by rw [HZ.out]; rfl, HBL.out⟩
      by_cases hst2 : t2 < s2
      case pos =>
        have HZ : Hid (q = 2) := by show q = _; rw [← hq]; rw [if_pos (.inr hst2)]
        clear hq
        go_wp2_with (first
          | ((with_reducible refine at_load (.tmp 27) ?_); refine wpList_load_1 22 (.tmp 27) rfl w.heap.size (0) (.int .u64 s1) (P2.out.1) rfl _ Try.underlying22 rfl rfl ?_)
          | ((with_reducible refine at_load (.tmp 30) ?_); refine wpList_load_1 22 (.tmp 30) rfl w.heap.size (1) (.int .u64 t1) (P2.out.2.1) rfl _ Try.underlying22 rfl rfl ?_)
          | ((with_reducible refine at_load (.tmp 35) ?_); refine wpList_load_1 22 (.tmp 35) rfl w.heap.size (35) (.int .u64 s2) (P2.out.2.2.1) rfl _ Try.underlying22 rfl rfl ?_)
          | ((with_reducible refine at_load (.tmp 38) ?_); refine wpList_load_1 22 (.tmp 38) rfl w.heap.size (36) (.int .u64 t2) (P2.out.2.2.2.1) rfl _ Try.underlying22 rfl rfl ?_)
          | fail)
        go_ret
        exact ⟨by rw [HZ.out]; rfl, HBL.out⟩
      rw [if_neg (by omega)] at hq
      cases qs
      case false =>
        have HZ : Hid (q = 20) := by show q = _; rw [← hq]; rw [if_pos (.inl rfl)]
        clear hq
        go_wp2_with (first
          | ((with_reducible refine at_load (.tmp 27) ?_); refine wpList_load_1 22 (.tmp 27) rfl w.heap.size (0) (.int .u64 s1) (P2.out.1) rfl _ Try.underlying22 rfl rfl ?_)
          | ((with_reducible refine at_load (.tmp 30) ?_); refine wpList_load_1 22 (.tmp 30) rfl w.heap.size (1) (.int .u64 t1) (P2.out.2.1) rfl _ Try.underlying22 rfl rfl ?_)
          | ((with_reducible refine at_load (.tmp 35) ?_); refine wpList_load_1 22 (.tmp 35) rfl w.heap.size (35) (.int .u64 s2) (P2.out.2.2.1) rfl _ Try.underlying22 rfl rfl ?_)
          | ((with_reducible refine at_load (.tmp 38) ?_); refine wpList_load_1 22 (.tmp 38) rfl w.heap.size (36) (.int .u64 t2) (P2.out.2.2.2.1) rfl _ Try.underlying22 rfl rfl ?_)
          | ((with_reducible refine at_load (.tmp 42) ?_); refine wpList_load_rng 27 (.tmp 42) rfl w.heap.size (0) (C1) (P2.out.2.2.2.2.1) rfl _ Try.underlying27 rfl (hi1) rfl ?_)
          | ((with_reducible refine at_load (.tmp 44) ?_); refine wpList_load_rng 27 (.tmp 44) rfl w.heap.size (35) (C2) (P2.out.2.2.2.2.2) rfl _ Try.underlying27 rfl (hi2) rfl ?_)
          | (go_at_call 8; refine (HSLA.out _).mono ?_; rintro e w3 ⟨rfl, hb3⟩; have HB3 := Lib.hid (HBL.out.trans (hb3.mono HBL.out.size)); have HK3 := Lib.hid (HKX.out.call hb3); clear hb3)
          | fail)
        go_ret
        exact ⟨by rw [HZ.out]; rfl, HB3.out⟩
      by_cases hcn : C = []
      case pos =>
        have HCN := Lib.hid hcn
        clear hcn
        have HZ : Hid (q = 20) := by show q = _; rw [← hq]; rw [if_pos (.inr HCN.out)]
        clear hq
        go_wp2_with (first
          | ((with_reducible refine at_load (.tmp 27) ?_); refine wpList_load_1 22 (.tmp 27) rfl w.heap.size (0) (.int .u64 s1) (P2.out.1) rfl _ Try.underlying22 rfl rfl ?_)
          | ((with_reducible refine at_load (.tmp 30) ?_); refine wpList_load_1 22 (.tmp 30) rfl w.heap.size (1) (.int .u64 t1) (P2.out.2.1) rfl _ Try.underlying22 rfl rfl ?_)
          | ((with_reducible refine at_load (.tmp 35) ?_); refine wpList_load_1 22 (.tmp 35) rfl w.heap.size (35) (.int .u64 s2) (P2.out.2.2.1) rfl _ Try.underlying22 rfl rfl ?_)
          | ((with_reducible refine at_load (.tmp 38) ?_); refine wpList_load_1 22 (.tmp 38) rfl w.heap.size (36) (.int .u64 t2) (P2.out.2.2.2.1) rfl _ Try.underlying22 rfl rfl ?_)
          | ((with_reducible refine at_load (.tmp 42) ?_); refine wpList_load_rng 27 (.tmp 42) rfl w.heap.size (0) (C1) (P2.out.2.2.2.2.1) rfl _ Try.underlying27 rfl (hi1) rfl ?_)
          | ((with_reducible refine at_load (.tmp 44) ?_); refine wpList_load_rng 27 (.tmp 44) rfl w.heap.size (35) (C2) (P2.out.2.2.2.2.2) rfl _ Try.underlying27 rfl (hi2) rfl ?_)
          | (go_at_call 8; refine (HSLA.out _).mono ?_; rintro e w3 ⟨rfl, hb3⟩; have HB3 := Lib.hid (HBL.out.trans (hb3.mono HBL.out.size)); have HK3 := Lib.hid (HKX.out.call hb3); clear hb3)
          | ((with_reducible refine at_load (.tmp 2) ?_); refine wpList_load_g 31 (.tmp 2) rfl w.heap.size rfl X _ HK3.out Try.underlying31 rfl hiX rfl ?_)
          | (go_at_call 14; refine (HCUL.out _ HB3.out).mono ?_; rintro e w4 ⟨v4, rfl, ho4, hb4⟩; obtain ⟨va, vc, rfl⟩ := ho4.shapeL; have HB4 := Lib.hid (HB3.out.trans (hb4.mono HB3.out.size)); have hz4 := beq_len_nil (C := C) rfl HCN.out; clear ho4 hb4)
          | fail)
        go_ret
        exact ⟨by rw [HZ.out]; rfl, HB4.out⟩
      have HCN := Lib.hid hcn
      clear hcn
      have HZ : Hid (q = 0) := by show q = _; rw [← hq]; rw [if_neg (by rintro (h | h); cases h; exact HCN.out h)]
      clear hq
      go_wp2_with (first
        | ((with_reducible refine at_load (.tmp 27) ?_); refine wpList_load_1 22 (.tmp 27) rfl w.heap.size (0) (.int .u64 s1) (P2.out.1) rfl _ Try.underlying22 rfl rfl ?_)
        | ((with_reducible refine at_load (.tmp 30) ?_); refine wpList_load_1 22 (.tmp 30) rfl w.heap.size (1) (.int .u64 t1) (P2.out.2.1) rfl _ Try.underlying22 rfl rfl ?_)
        | ((with_reducible refine at_load (.tmp 35) ?_); refine wpList_load_1 22 (.tmp 35) rfl w.heap.size (35) (.int .u64 s2) (P2.out.2.2.1) rfl _ Try.underlying22 rfl rfl ?_)
        | ((with_reducible refine at_load (.tmp 38) ?_); refine wpList_load_1 22 (.tmp 38) rfl w.heap.size (36) (.int .u64 t2) (P2.out.2.2.2.1) rfl _ Try.underlying22 rfl rfl ?_)
        | ((with_reducible refine at_load (.tmp 42) ?_); refine wpList_load_rng 27 (.tmp 42) rfl w.heap.size (0) (C1) (P2.out.2.2.2.2.1) rfl _ Try.underlying27 rfl (hi1) rfl ?_)
        | ((with_reducible refine at_load (.tmp 44) ?_); refine wpList_load_rng 27 (.tmp 44) rfl w.heap.size (35) (C2) (P2.out.2.2.2.2.2) rfl _ Try.underlying27 rfl (hi2) rfl ?_)
        | (go_at_call 8; refine (HSLA.out _).mono ?_; rintro e w3 ⟨rfl, hb3⟩; have HB3 := Lib.hid (HBL.out.trans (hb3.mono HBL.out.size)); have HK3 := Lib.hid (HKX.out.call hb3); clear hb3)
        | ((with_reducible refine at_load (.tmp 2) ?_); refine wpList_load_g 31 (.tmp 2) rfl w.heap.size rfl X _ HK3.out Try.underlying31 rfl hiX rfl ?_)
        | (go_at_call 14; refine (HCUL.out _ HB3.out).mono ?_; rintro e w4 ⟨v4, rfl, ho4, hb4⟩; obtain ⟨va, vc, rfl⟩ := ho4.shapeL; have HB4 := Lib.hid (HB3.out.trans (hb4.mono HB3.out.size)); have hz4 := beq_len_ne (C := C) rfl HCN.out; clear ho4 hb4)
        | fail)
      go_ret
      exact ⟨by rw [HZ.out]; rfl, HB4.out⟩
    · omega
end Go.Proofs.Ytlbhkgmlfapjgaa
