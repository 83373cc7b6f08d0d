/- Several texts as one: RgB, RgF, ElN, VoE, RgG. -/
import Derived.Test.YtcbjjafjomdklaaZ2
import Derived.Test.YtcbjjafjomdklaaBkE
import Derived.Test.YtcbjjafjomdklaaHeld4
import Derived.Test.YtcbjjafjomdklaaRwB
import Derived.Test.YtcbjjafjomdklaaWeA
import Derived.Test.YtcbjjafjomdklaaVoD
namespace Go.Proofs.Ytcbjjafjomdklaa

/-! RgB -/
section
set_option linter.unusedVariables false
set_option linter.unusedSimpArgs false
open Go.RowKit Go.Maps

set_option maxRecDepth 100000

/-- A configuration's cells. -/
structure CfI (C : Array Value) (lim : Int) (gen : List Int) (bv : Value) : Prop where
  size : C.size = 45
  one : ∀ v ∈ C, v.oneCell' = true
  lim : C[3]? = some (.int .i64 lim)
  gn : ∀ (j : Nat) (v : Value), (bytesL gen)[j]? = some v → C[12 + j]? = some v
  bal : C[44]? = some bv
  isb : IsBytes 32 gen

theorem CfI.at {C : Array Value} {lim : Int} {gen : List Int} {bv : Value} (h : CfI C lim gen bv) {w : World} {b : Nat} (hB : Blk w b C) :
    w.cell? ⟨b, 3, none⟩ = some (.int .i64 lim) ∧ w.cell? ⟨b, 44, none⟩ = some bv ∧ w.rangeAt b 12 (bytesL gen) :=
  ⟨by rw [hB.cell]; exact h.lim, by rw [hB.cell]; exact h.bal, fun j v hv => by rw [hB.cell]; exact h.gn j v hv⟩

set_option maxHeartbeats 4000000 in
theorem emp_bad (C : Array Value) (lim : Int) (gen : List Int) (a : Option Addr) (n k : Nat) (w : World) (hC : CfI C lim gen (.slice a n k)) (hn : n ≤ maxLen) (h : 1024 < n ∨ lim < 1 ∨ 64 < lim) :
    Calls Try.prog 21 #[.agg C] w fun e w' => e = .returned (.tuple #[.pointer none, .int .i64 3]) ∧ Below w.heap.size w w' := by
  unfold maxLen at hn
  have HNB := Lib.hid (fun u => newb_bad n lim u (by omega))
  have HBA := Lib.hid ((Below.refl w.heap.size w).alloc (Nat.le_refl _) (.cells C 31))
  have HAT := Lib.hid (hC.at (Blk.new (w := w) (t := 31) rfl))
  clear hC h
  go_enter Try.func21, Try.ntmps21
  go_wp2_with (first
    | ((with_reducible refine at_load (.tmp 9) ?_); refine wpList_load_1 29 (.tmp 9) rfl w.heap.size 44 (.slice a n k) HAT.out.2.1 rfl _ Try.underlying29 rfl rfl ?_)
    | ((with_reducible refine at_load (.tmp 15) ?_); refine wpList_load_1 3 (.tmp 15) rfl w.heap.size 3 (.int .i64 lim) HAT.out.1 rfl _ Try.underlying3 rfl rfl ?_)
    | (go_at_call 36; refine (HNB.out _).mono ?_; rintro e w1 ⟨rfl, rfl⟩))
  go_ret2
  exact ⟨rfl, HBA.out⟩

set_option maxHeartbeats 4000000 in
theorem emp_ok (C : Array Value) (lim : Int) (gen : List Int) (a : Option Addr) (n k : Nat) (w : World) (hC : CfI C lim gen (.slice a n k)) (h1 : n ≤ 1024) (h2 : 1 ≤ lim) (h3 : lim ≤ 64) :
    Calls Try.prog 21 #[.agg C] w fun e w' => ∃ ra : RgA, e = .returned (.tuple #[.pointer (some ⟨ra.b, 0, none⟩), .int .i64 0]) ∧ RgI w' w.heap.size w'.heap.size ra n lim (List.replicate n zeV) (List.replicate n false) [] ∧ Below w.heap.size w w' := by
  have HNB := Lib.hid (fun u => newb_ok n lim u (by omega) (by omega) h2 h3)
  have HNT := Lib.hid (fun u => vnew_ok n u h1)
  have HNS := Lib.hid (fun u => snew_ok n u h1)
  have HBA := Lib.hid ((Below.refl w.heap.size w).alloc (Nat.le_refl _) (.cells C 31))
  have HAT := Lib.hid (hC.at (Blk.new (w := w) (t := 31) rfl))
  have HSZ : Hid ((w.alloc (.cells C 31)).heap.size = w.heap.size + 1) := by show _ = _; simp
  clear hC
  go_enter Try.func21, Try.ntmps21
  go_wp2_with (first
    | ((with_reducible refine at_load (.tmp 9) ?_); refine wpList_load_1 29 (.tmp 9) rfl w.heap.size 44 (.slice a n k) HAT.out.2.1 rfl _ Try.underlying29 rfl rfl ?_)
    | ((with_reducible refine at_load (.tmp 15) ?_); refine wpList_load_1 3 (.tmp 15) rfl w.heap.size 3 (.int .i64 lim) HAT.out.1 rfl _ Try.underlying3 rfl rfl ?_)
    | (go_at_call 36; refine (HNB.out _).mono ?_; rintro e w1 ⟨rfl, hk1, hb1⟩; have HK1 := Lib.hid hk1; have HB1 := Lib.hid (HBA.out.trans (hb1.mono HBA.out.size)); clear hk1 hb1)
    | (go_at_call 37; refine (HNT.out w1).mono ?_; rintro e w2 ⟨rfl, hk2, hb2⟩; have HK2 := Lib.hid hk2; have HKA := Lib.hid (HK1.out.call hb2); have HB2 := Lib.hid (HB1.out.trans (hb2.mono HB1.out.size)); clear hk2 hb2)
    | (go_at_call 38; refine (HNS.out w2).mono ?_; rintro e w3 ⟨rfl, hk3, hb3⟩; have HK3 := Lib.hid hk3; have HKB := Lib.hid (HKA.out.call hb3); have HKC := Lib.hid (HK2.out.call hb3); have HB3 := Lib.hid (HB2.out.trans (hb3.mono HB2.out.size)); clear hk3 hb3))
  have l1 := HK1.out.blk.lt
  have l2 := HK2.out.blk.lt
  have l3 := HK3.out.blk.lt
  have ls := HSZ.out
  have hkb := HKB.out
  rw [ls] at hkb l1
  have hb4 := fun o => (Below.refl w3.heap.size w3).alloc (Nat.le_refl _) o
  go_ret2
  refine ⟨⟨w3.heap.size, w1.heap.size + 1, w1.heap.size, w2.heap.size + 1, w2.heap.size, w.heap.size + 2, w.heap.size + 1⟩, rfl, ⟨Blk.new rfl, HKC.out.call (hb4 _), HK3.out.call (hb4 _), hkb.call (hb4 _), by simp, by simp, by simp; omega, by simp; omega, by simp; omega, by simp⟩, HB3.out.alloc HB3.out.size _⟩

theorem build_cp1 {r : List Int} (hr : IsBytes 32 r) (u : World) : (Instr.build 34 #[(1, .agg (bytesL r).toArray)]).run Try.prog u = .ok (.agg (CpD.mk 0 r).cells.toArray) u := by
  have hl := bytesL_len hr
  refine build_struct (zero := flatP [[.int .u64 0], bytesL zeroR]) (fun w => by kernel_rfl) Try.underlying34 (places := #[(0, 1), (1, 32)]) (fun w => by kernel_rfl) ?_ u
  show Instr.fill _ (flatP [[.int .u64 0], bytesL zeroR]) [(1, .agg (bytesL r).toArray)] = _
  rw [fill_part (i := 1) (o := 1) 1 (bytesL zeroR) (bytesL r) rfl rfl (by rw [hl]; rfl) rfl (by rw [hl]; rfl)]
  unfold Instr.fill
  simp [flatP, CpD.cells]
end

/-! RgF -/
section
set_option linter.unusedVariables false
set_option linter.unusedSimpArgs false
open Go.RowKit Go.Maps

set_option maxRecDepth 100000

set_option maxHeartbeats 4000000 in
theorem ready_any (lo hi : Nat) (ra : RgA) (n lim : Int) (vs : List VoD) (gs : List Bool) (E : List TeD) (w : World) (hR : RgI w lo hi ra n lim vs gs E) :
    Calls Try.prog 8 #[.pointer (some ⟨ra.b, 0, none⟩)] w fun e w' => e = .returned (.bool true) ∧ w' = w := by
  have c0 : w.cell? ⟨ra.b, 0, none⟩ = some (.pointer (some ⟨ra.b1, 0, none⟩)) := hR.cells.1
  have c1 : w.cell? ⟨ra.b, 1, none⟩ = some (.pointer (some ⟨ra.b2, 0, none⟩)) := hR.cells.2.1
  have c2 : w.cell? ⟨ra.b, 2, none⟩ = some (.pointer (some ⟨ra.b3, 0, none⟩)) := hR.cells.2.2
  clear hR
  go_enter Try.func8, Try.ntmps8
  go_wp2_with fail
  go_ret
  exact ⟨rfl, rfl⟩

set_option maxHeartbeats 4000000 in
theorem new_bad (C : Array Value) (lim : Int) (gen : List Int) (a : Option Addr) (n k : Nat) (w : World) (hC : CfI C lim gen (.slice a n k)) (hn : n ≤ maxLen) (h : 1024 < n ∨ lim < 1 ∨ 64 < lim) :
    Calls Try.prog 7 #[.agg C] w fun e w' => e = .returned (.tuple #[.pointer none, .int .i64 3]) ∧ Below w.heap.size w w' := by
  have HE := Lib.hid (fun u => emp_bad C lim gen a n k u hC hn h)
  have HBA := Lib.hid ((Below.refl w.heap.size w).alloc (Nat.le_refl _) (.cells C 31))
  have HBX : Hid (Blk (w.alloc (.cells C 31)) w.heap.size C) := Blk.new rfl
  have hiC : (Try.prog.info? 31).map (·.size) = some C.size := by rw [hC.size]; kernel_rfl
  clear hC h
  go_enter Try.func7, Try.ntmps7
  go_wp2_with (first
    | ((with_reducible refine at_load (.tmp 1) ?_); refine wpList_load_blk rfl 31 (.tmp 1) rfl w.heap.size rfl C _ HBX.out Try.underlying31 rfl hiC ?_)
    | (go_at_call 21; refine (HE.out _).mono ?_; rintro e w1 ⟨rfl, hb1⟩; have HB1 := Lib.hid (HBA.out.trans (hb1.mono HBA.out.size)); clear hb1))
  go_ret2
  exact ⟨rfl, HB1.out⟩

/-- What New hands back within its ranges. -/
def NewR (lim : Int) (gen : List Int) (l : List Int) (w : World) (e : Ending) (w' : World) : Prop :=
  Below w.heap.size w w' ∧ ((vtE l.length l ≠ 0 ∧ e = .returned (.tuple #[.pointer none, .int .i64 (vtE l.length l)])) ∨
    (vtE l.length l = 0 ∧ ∃ (ra : RgA) (hi : Nat) (v' : Value), e = .returned (.tuple #[.pointer (some ⟨ra.b, 0, none⟩), .int .i64 0]) ∧ RgI w' w.heap.size hi ra l.length lim (List.replicate l.length zeV) (List.replicate l.length false) [⟨⟨0, gen⟩, v', l⟩]))

theorem regE_one {l : List Int} {lim : Int} {c : CpD} (h : 1 ≤ lim) : regE l.length lim [] c l = vtE l.length l := by
  unfold regE
  by_cases h0 : vtE l.length l ≠ 0
  · rw [if_pos h0]
  · rw [if_neg h0, if_neg (by simp [tget]), if_neg (by simp; omega)]
    exact (Decidable.not_not.1 h0).symm

set_option maxHeartbeats 8000000 in
theorem new_ok (C : Array Value) (lim : Int) (gen : List Int) (a : Option Addr) (k : Nat) (l : List Int) (w : World) (hC : CfI C lim gen (.slice a l.length k)) (hI : NumsV w (.slice a l.length k) l) (h1 : l.length ≤ 1024) (h2 : 1 ≤ lim) (h3 : lim ≤ 64) :
    Calls Try.prog 7 #[.agg C] w (NewR lim gen l w) := by
  obtain ⟨er, her⟩ : ∃ er, Hid (vtE l.length l = er) := ⟨_, Lib.hid rfl⟩
  have HER : Hid (regE l.length lim [] ⟨0, gen⟩ l = er) := by show _ = _; rw [regE_one h2]; exact her.out
  unfold NewR
  rw [her.out]
  have HE := Lib.hid (fun u => emp_ok C lim gen a l.length k u hC h1 h2 h3)
  have HBA := Lib.hid ((Below.refl w.heap.size w).alloc (Nat.le_refl _) (.cells C 31))
  have HBX : Hid (Blk (w.alloc (.cells C 31)) w.heap.size C) := Blk.new rfl
  have hiC : (Try.prog.info? 31).map (·.size) = some C.size := by rw [hC.size]; kernel_rfl
  have HCF := Lib.hid hC
  have HI := Lib.hid hI
  obtain ⟨R, hR⟩ : ∃ R, Hid (bytesL gen = R) := ⟨_, Lib.hid rfl⟩
  have hiR : (Try.prog.info? 28).map (·.size) = some R.length := by rw [← hR.out, bytesL_len hC.isb]; kernel_rfl
  have HCP : Hid (CpD.ok ⟨0, gen⟩) := ⟨by show (0 : Int) ≤ 0; omega, by show (0 : Int) ≤ _; omega, hC.isb⟩
  have hBC : ∀ u, (Instr.build 34 #[(1, .agg R.toArray)]).run Try.prog u = .ok (cpX ⟨0, gen⟩) u := fun u => by rw [← hR.out]; exact build_cp1 hC.isb u
  have hBT : ∀ u, (Instr.build 36 #[(0, cpX ⟨0, gen⟩), (1, .slice a l.length k)]).run Try.prog u = .ok (.agg (flatP [(CpD.mk 0 gen).cells, [.slice a l.length k]])) u := fun u => build_tbv HCP.out a l.length k u
  have HBC := Lib.hid hBC
  have HON0 : Hid (∀ v ∈ flatP [(CpD.mk 0 gen).cells, [.slice a l.length k]], v.oneCell' = true) := tab_one
  have HSY0 := Lib.hid (tabOff HCP.out (.slice a l.length k)).2.2
  obtain ⟨Y, HY⟩ : ∃ Y : List Value, Hid (flatP [(CpD.mk 0 gen).cells, [.slice a l.length k]] = Y.toArray) := ⟨(flatP [(CpD.mk 0 gen).cells, [.slice a l.length k]]).toList, Lib.hid (by simp)⟩
  rw [HY.out] at hBT HON0 HSY0
  have hsY : Y.length = 34 := by have := HSY0.out; simpa using this
  have hiY : (Try.prog.info? 36).map (·.size) = some Y.length := by rw [hsY]; kernel_rfl
  have hiY' : (Try.prog.info? 36).map (·.size) = some Y.toArray.size := by rw [List.size_toArray]; exact hiY
  obtain ⟨Z, hZ⟩ : ∃ Z, flatP [zeC.cells, [nilS]] = Z := ⟨_, rfl⟩
  have hsz : Z.size = 34 := by rw [← hZ]; rfl
  obtain ⟨hz34, hst⟩ := zero_array (P := Try.prog) (t := 36) (n := 34) Z (by rw [← hZ]; kernel_rfl) hsz (by rw [← hZ]; kernel_rfl)
  have HBT := Lib.hid hBT
  obtain ⟨CX, hCX⟩ : ∃ CX, Hid (cpX ⟨0, gen⟩ = CX) := ⟨_, Lib.hid rfl⟩
  rw [hCX.out] at HBC HBT
  clear hC hI hst hZ hBC hBT
  go_enter Try.func7, Try.ntmps7
  go_wp2_with (first
    | ((with_reducible refine at_load (.tmp 1) ?_); refine wpList_load_blk rfl 31 (.tmp 1) rfl w.heap.size rfl C _ HBX.out Try.underlying31 rfl hiC ?_)
    | (go_at_call 21; refine (HE.out _).mono ?_; rintro e w1 ⟨ra, rfl, hr1, hb1⟩; have HR1 := Lib.hid hr1; have HAT := Lib.hid (HCF.out.at (HBX.out.call hb1)); have HB1 := Lib.hid (HBA.out.trans (hb1.mono HBA.out.size)); have HLO := Lib.hid (And.intro hb1.size (show (w.alloc (.cells C 31)).heap.size = w.heap.size + 1 by simp)); have HRA := HAT.out.2.2; rw [hR.out] at HRA; have HRA' := Lib.hid HRA; clear hr1 hb1 HRA)
    | ((with_reducible refine at_load (.tmp 15) ?_); refine wpList_load_at 28 (.tmp 15) rfl w.heap.size 12 (by simp [Act.eval, Act.put]) R HRA'.out _ Try.underlying28 rfl hiR rfl ?_)
    | ((with_reducible refine at_build (some 17) ?_); refine wpList_build rfl 34 _ rfl #[(1, .agg R.toArray)] (by simp [Act.eval, Act.put]) CX (HBC.out _) ?_)
    | ((with_reducible refine at_load (.tmp 18) ?_); refine wpList_load_1 29 (.tmp 18) rfl w.heap.size 44 (.slice a l.length k) HAT.out.2.1 rfl _ Try.underlying29 rfl rfl ?_)
    | ((with_reducible refine at_build (some 20) ?_); refine wpList_build rfl 36 _ rfl #[(0, CX), (1, .slice a l.length k)] (by simp [Act.eval, Act.put]) (.agg Y.toArray) (HBT.out _) ?_)
    | ((with_reducible refine at_store (.tmp 6) ?_); refine wpList_store_blk rfl 36 (.tmp 6) _ rfl w1.heap.size Y.toArray rfl rfl Z (Blk.new rfl) (by rw [hsz, List.size_toArray, hsY]) hiY' HON0.out ?_; intro w2 U2 B2; have hb2 := U2.below ((Below.refl w1.heap.size w1).alloc (Nat.le_refl _) (.cells Z 36)) (Nat.le_refl _); have HR2 := Lib.hid (HR1.out.call hb2); have HT2 := Lib.hid B2; have HB2 := Lib.hid (HB1.out.trans (hb2.mono HB1.out.size)); clear hb2 U2 B2))
  obtain ⟨x, hx⟩ : ∃ x, w2.drew = x := ⟨_, rfl⟩
  have hbd : Below w2.heap.size w2 x := by rw [← hx]; exact ⟨rfl, rfl, rfl, Nat.le_refl _, fun _ _ => rfl⟩
  have HB := Lib.hid (HB2.out.trans (hbd.mono HB2.out.size))
  have HR0 := Lib.hid (HR2.out.call hbd)
  have HS := Lib.hid (And.intro HR0.out.blk (HT2.out.call hbd))
  have hl1 := HLO.out
  have HR : Hid (RgI x w.heap.size w1.heap.size ra l.length lim (List.replicate l.length zeV) (List.replicate l.length false) []) := by
    have h := HR0.out
    exact ⟨h.blk, h.vot, h.set, h.book, h.nv, h.ng, by have := h.lo; omega, h.hi, h.ap, h.off⟩
  have HI2 := HI.out.below HB.out
  clear HI
  have HI := Lib.hid HI2
  clear HI2 hbd HR1 HR2 HR0 HB1 HB2 HT2
  refine wp_region_held_drew (S := fun u' => Blk u' ra.b #[.pointer (some ⟨ra.b1, 0, none⟩), .pointer (some ⟨ra.b2, 0, none⟩), .pointer (some ⟨ra.b3, 0, none⟩)] ∧ Blk u' w1.heap.size Y.toArray) (by kernel_rfl) (by rw [hx]; exact HS.out) (fun _ => ?_)
  rw [hx]
  clear hx
  (try simp only [Act.put, List.setIfInBounds_toArray, List.set_cons_zero, List.set_cons_succ])
  refine wpAnyH_take (i := 0) (oi := ⟨some 21, _, _, _, _, _⟩) (v := .pointer (some ⟨ra.b, 0, none⟩)) rfl (by kernel_rfl) (by kernel_rfl) (by kernel_rfl) (fun _ _ _ h => h) (Or.inl ⟨by rfl, fun wz hz => ?_⟩) HS.out ?_
  · clear hz; go_simp; first | done | with_reducible rfl | rfl
  (try simp only [Act.put, List.setIfInBounds_toArray, List.set_cons_zero, List.set_cons_succ])
  refine wpAnyH_take (i := 1) (oi := ⟨some 22, _, _, _, _, _⟩) (v := .pointer (some ⟨ra.b, 0, none⟩)) rfl (by kernel_rfl) (by kernel_rfl) (by kernel_rfl) (fun _ _ _ h => h) (Or.inl ⟨by rfl, fun wz hz => ?_⟩) HS.out ?_
  · clear hz; go_simp; first | done | with_reducible rfl | rfl
  (try simp only [Act.put, List.setIfInBounds_toArray, List.set_cons_zero, List.set_cons_succ])
  refine wpAnyH_take (i := 2) (oi := ⟨some 23, _, _, _, _, _⟩) (v := .pointer (some ⟨ra.b, 2, none⟩)) rfl (by kernel_rfl) (by kernel_rfl) (by kernel_rfl) (fun _ _ _ h => h) (Or.inl ⟨by rfl, fun wz hz => ?_⟩) HS.out ?_
  · clear hz; go_simp; first | done | with_reducible rfl | rfl
  (try simp only [Act.put, List.setIfInBounds_toArray, List.set_cons_zero, List.set_cons_succ])
  refine held_load1 (oi := ⟨some 24, _, _, _, _, _⟩) 3 rfl (by kernel_rfl) (by kernel_rfl) (by kernel_rfl) (fun _ _ _ _ h => h) rfl 59 (.tmp 23) rfl ra.b 2 rfl (.pointer (some ⟨ra.b3, 0, none⟩)) _ (fun u' hu => hu.1.cell 2) Try.underlying59 rfl HS.out ?_
  (try simp only [Act.put, List.setIfInBounds_toArray, List.set_cons_zero, List.set_cons_succ])
  refine held_load (oi := ⟨some 25, _, _, _, _, _⟩) 4 rfl (by kernel_rfl) (by kernel_rfl) (by kernel_rfl) (fun _ _ _ _ h => h) rfl 36 (.tmp 6) rfl w1.heap.size 0 rfl Y _ (fun u' hu => hu.2.range) Try.underlying36 rfl (hiY) HS.out ?_
  (try simp only [Act.put, List.setIfInBounds_toArray, List.set_cons_zero, List.set_cons_succ])
  refine wpAnyH_ready (rs := [5]) (by kernel_rfl) (by simp) ?_
  refine AllReadyH.cons (o := ⟨some 26, _, _, _, _, _⟩) rfl (fun K hK => ?_) AllReadyH.nil
  rw [if_pos (by rfl)]
  go_simp
  have hrg := reg_any ra.b3 ra.mb l.length lim [] ⟨0, gen⟩ (.slice a l.length k) l x HR.out.book HCP.out HI.out (by omega) (by omega)
  rw [HY.out] at hrg
  refine hrg.mono ?_
  rintro e w3 ⟨rfl, hg3, h13, h23⟩
  rw [HER.out] at h13 h23 ⊢
  have HS3 : Hid (Blk w3 ra.b #[.pointer (some ⟨ra.b1, 0, none⟩), .pointer (some ⟨ra.b2, 0, none⟩), .pointer (some ⟨ra.b3, 0, none⟩)] ∧ Blk w3 w1.heap.size Y.toArray) :=
    ⟨HS.out.1.grown hg3 (by simpa using blk_noMap HS.out.1 HR.out.book.map (by simp)), HS.out.2.grown hg3 (by simpa using blk_noMap HS.out.2 HR.out.book.map (by simp; omega))⟩
  refine hK.out _ _ HS3.out (fun _ => ?_)
  clear hK K hrg
  (try simp only [Act.put, List.setIfInBounds_toArray, List.set_cons_zero, List.set_cons_succ])
  refine wpAnyH_ready (rs := [6]) (by kernel_rfl) (by simp) ?_
  refine AllReadyH.cons (o := ⟨some 5, _, _, _, _, _⟩) rfl (fun K hK => ?_) AllReadyH.nil
  go_simp
  refine hK.out _ _ HS3.out (fun _ => ?_)
  clear hK K
  (try simp only [Act.put, List.setIfInBounds_toArray, List.set_cons_zero, List.set_cons_succ])
  refine wpAnyH_done (by kernel_rfl) ?_ _
  have HB3 := Lib.hid (HB.out.grown hg3 HB.out.size (fun j e => by cases e; exact HR.out.lo.2.2))
  have HG3 := Lib.hid hg3
  have H13 := Lib.hid h13
  have H23 := Lib.hid h23
  clear hg3 h13 h23 HS3
  by_cases h0 : er = 0
  case neg =>
    have hq : (er != 0) = true := by simpa using h0
    go_wp2_with fail
    go_ret2
    exact ⟨HB3.out, .inl ⟨h0, rfl⟩⟩
  subst h0
  obtain ⟨v', hnv, hbk⟩ := H23.out rfl
  have hr3 := HR.out.register hbk HG3.out (fun e he => by
    rw [List.mem_singleton.1 he]
    have := HR.out.hi
    exact ⟨hnv.off (by omega), hnv.off (by omega)⟩)
  have HR3 := Lib.hid hr3
  clear hr3 hbk hnv
  go_wp2_with fail
  go_ret2
  exact ⟨HB3.out, ra, rfl, _, _, HR3.out⟩
end

/-! ElN -/
section
set_option linter.unusedVariables false
set_option linter.unusedSimpArgs false
open Go.RowKit

set_option maxRecDepth 100000

def prtN (n : Nat) (Xs : List (Array Value)) : List (Nat × Value) := (Xs.zipIdx n).map fun p => (p.2, Value.agg p.1)

theorem fillN {sz : Nat} : ∀ (Xs : List (Array Value)) (n : Nat) (D R : List Value), (∀ X ∈ Xs, X.size = sz) → D.length = n * sz → R.length = Xs.length * sz →
    Instr.fill (fun i => some (i * sz, sz)) (D ++ R).toArray (prtN n Xs) = some (D ++ rowsL Xs).toArray
  | [], n, D, R, _, hD, hR => by
    have : R = [] := List.eq_nil_of_length_eq_zero (by simpa using hR)
    subst this
    simp [prtN, Instr.fill, rowsL]
  | X :: Xs, n, D, R, hX, hD, hR => by
    have h1 : X.size = sz := hX X (by simp)
    have hs : (Value.agg X).cells.size = sz := h1
    show Instr.fill _ _ ((n, Value.agg X) :: prtN (n + 1) Xs) = _
    have hR' : R.length = Xs.length * sz + sz := by rw [hR, List.length_cons, Nat.add_mul, Nat.one_mul]
    rw [fill_step (by rw [hD, hs]) (by rw [hs, hR']; omega)]
    have e : (Value.agg X).cells.toList = X.toList := rfl
    rw [e, hs, fillN Xs (n + 1) (D ++ X.toList) (R.drop sz) (fun Y hY => hX Y (by simp [hY])) (by rw [List.length_append, hD, Array.length_toList, h1, Nat.add_mul, Nat.one_mul]) (by rw [List.length_drop, hR']; omega)]
    simp [rowsL]

theorem buildElN {P : Program} {t e : TypeId} {Z : Array Value} {sz : Nat} (ht : P.underlying t = some (.slice e)) (hz : ∀ w, (zeroValue e).run P w = .ok (.agg Z) w) (hi : (P.info? e).map (·.size) = some sz) (h0 : 0 < sz) (Xs : List (Array Value)) (hX : ∀ X ∈ Xs, X.size = sz) (hn : 0 < Xs.length) (h24 : Xs.length * sz ≤ 16777216) (u : World) :
    (Instr.buildSlice t Xs.length (prtN 0 Xs).toArray).run P u = .ok (.slice (some ⟨u.heap.size, 0, none⟩) Xs.length Xs.length) (u.alloc (.cells (rowsL Xs).toArray e)) := by
  obtain ⟨i, hi1, hi2⟩ : ∃ i, P.info? e = some i ∧ i.size = sz := by
    cases h : P.info? e with
    | none => simp [h] at hi
    | some i => exact ⟨i, rfl, by simpa [h] using hi⟩
  have hso : ∀ w, (sizeOf e).run P w = .ok sz w := fun w => by simp [sizeOf, typeInfo, hi1, hi2]
  have hp : 0 < Xs.length * sz := Nat.mul_pos hn h0
  have hf : Instr.fill (fun i => some (i * sz, sz)) ((Array.range (Xs.length * sz)).map (Z[· % Z.size]!)) (prtN 0 Xs) = some (rowsL Xs).toArray := by
    have h := fillN (sz := sz) Xs 0 [] ((Array.range (Xs.length * sz)).map (Z[· % Z.size]!)).toList hX (by simp) (by simp)
    rw [List.nil_append, List.nil_append, Array.toArray_toList] at h
    exact h
  unfold Instr.buildSlice
  simp only [Sem.run_bind, run_underlying ht, Result.andThen_ok, hso]
  rw [if_neg (by omega), if_neg (by omega)]
  simp only [Sem.run_bind, Sem.run_pure, hz, Result.andThen_ok, Value.cells, hf]
  simp [go_sem]

/-- Roots. -/
def rtX (rs : List (List Int)) : List (Array Value) := rs.map fun r => (bytesL r).toArray

theorem bs_roots {rs : List (List Int)} (hr : ∀ r ∈ rs, IsBytes 32 r) (hn : 0 < rs.length) (hm : rs.length ≤ 1000) (u : World) :
    (Instr.buildSlice 93 rs.length (prtN 0 (rtX rs)).toArray).run Try.prog u = .ok (.slice (some ⟨u.heap.size, 0, none⟩) rs.length rs.length) (u.alloc (.cells (rowsL (rtX rs)).toArray 28)) := by
  have h := buildElN (P := Try.prog) (t := 93) (e := 28) (Z := (bytesL zeroR).toArray) (sz := 32) Try.underlying93 (fun w => by kernel_rfl) (by kernel_rfl) (by omega) (rtX rs) (fun X hX => by
    obtain ⟨r, h, rfl⟩ := List.mem_map.1 hX
    rw [List.size_toArray, bytesL_len (hr r h)]) (by simpa [rtX] using hn) (by simp [rtX]; omega) u
  have e : (rtX rs).length = rs.length := by simp [rtX]
  rwa [e] at h

theorem new_roots {rs : List (List Int)} (hr : ∀ r ∈ rs, IsBytes 32 r) (hm : rs.length ≤ 1000) (u : World) : RootsV (u.alloc (.cells (rowsL (rtX rs)).toArray 28)) (.slice (some ⟨u.heap.size, 0, none⟩) rs.length rs.length) rs := by
  have hB : Blk (u.alloc (.cells (rowsL (rtX rs)).toArray 28)) u.heap.size (rowsL (rtX rs)).toArray := Blk.new rfl
  refine ⟨_, _, rfl, by unfold maxLen; omega, .inr ⟨u.heap.size, 0, rfl, hB.lt, rtX rs, ?_, by simp [rtX], ?_⟩⟩
  · have := hB.range; simpa using this
  · intro p hp
    obtain ⟨i, hi, rfl⟩ := List.mem_iff_getElem.1 hp
    simp only [List.length_zip, rtX, List.length_map] at hi
    simp only [List.getElem_zip, rtX, List.getElem_map]
    exact ⟨rfl, hr _ (List.getElem_mem _)⟩

/-- A part of a slice of roots. -/
theorem RootsV.slTake {w : World} {a : Option Addr} {l cap k : Nat} {rs : List (List Int)} (h : RootsV w (.slice a l cap) rs) (hk : k ≤ rs.length) : RootsV w (.slice a k cap) (rs.take k) := by
  obtain ⟨a', c', e, hl, hr⟩ := h
  cases e
  refine ⟨a, cap, by rw [List.length_take, Nat.min_eq_left hk], by rw [List.length_take]; omega, ?_⟩
  rcases hr with h0 | ⟨b, off, rfl, hlt, Xs, h1, h2⟩
  · exact .inl (by rw [List.length_take]; omega)
  · have hXl : Xs.length = rs.length := h2.1
    refine .inr ⟨b, off, rfl, hlt, Xs.take k, fun j v hj => h1 j v ?_, by rw [List.length_take, List.length_take, hXl], fun p hp => h2.2 p ?_⟩
    · have e : rowsL Xs = rowsL (Xs.take k) ++ rowsL (Xs.drop k) := by
        simp only [rowsL]; rw [← List.flatten_append, ← List.map_append, List.take_append_drop]
      rw [e, List.getElem?_append_left (List.getElem?_eq_some_iff.1 hj).1]; exact hj
    · obtain ⟨i, hi, rfl⟩ := List.mem_iff_getElem.1 hp
      simp only [List.length_zip, List.length_take] at hi
      simp only [List.getElem_zip, List.getElem_take]
      exact List.mem_iff_getElem.2 ⟨i, by rw [List.length_zip]; omega, by simp⟩

theorem wpQuiet_slice {P : Program} {ops : Array Oper} {C : World → Prop} {Q : Act → Prop} {o : Oper} {rest : List Oper} {a : Act} (t : TypeId) (x : Operand) (lo hi mx : Option Operand) (ho : o.op = .slice t x lo hi mx)
    (xv : Value) (lv hv mv : Option Value) (hx : a.eval x = xv) (hl : lo.map a.eval = lv) (hh : hi.map a.eval = hv) (hm : mx.map a.eval = mv) (v : Value) (hC : ∀ u, (Instr.sliceAt t xv lv hv mv).run P u = .ok v u)
    (hw : Region.wanted o (yielded ops a.tmps) = true) (h : wpQuiet P ops C Q rest (a.put o.dst v)) : wpQuiet P ops C Q (o :: rest) a := by
  refine BigFrame.wpQuiet_want hw fun K hK => ⟨v, fun w hw' => ?_, hK _ h⟩
  unfold Oper.quietAt execOp
  simp only [ho, hx, hl, hh, hm, Sem.run_bind, hC w, Result.andThen_ok, Sem.run_pure]
  exact ⟨rfl, rfl⟩

theorem at_qslice {P : Program} {ops : Array Oper} {C : World → Prop} {Q : Act → Prop} (dst : Option Tmp) {t ty' : TypeId} {x : Operand} {lo hi mx : Option Operand} {pos : String} {aft : Array Edge} {g : Option (Nat × Bool)} {rest : List Oper} {a : Act}
    (h : wpQuiet P ops C Q (⟨dst, .slice t x lo hi mx, ty', pos, aft, g⟩ :: rest) a) : wpQuiet P ops C Q (⟨dst, .slice t x lo hi mx, ty', pos, aft, g⟩ :: rest) a := h
end

/-! VoE -/
section
set_option linter.unusedVariables false
set_option linter.unusedSimpArgs false
open Go.RowKit

set_option maxRecDepth 100000

/-- A field of a struct that is an array or a struct itself, and one that is not. -/
theorem run_field_row {P : Program} {t : TypeId} {fs : Array Field} {f : Field} {d : TypeDesc} {i n : Nat} (hu : P.underlying t = some (.struct fs)) (hf : fs[i]? = some f) (hd : P.underlying f.type = some d) (hr : d.isRow = true) (hi : (P.info? f.type).map (·.size) = some n) (cs : Array Value) (w : World) :
    (Instr.field t (.agg cs) i).run P w = .ok (.agg (cs.extract f.offset (f.offset + n))) w := by
  have hagg : (isAgg f.type).run P w = .ok true w := by
    unfold isAgg
    rw [Sem.run_bind, run_underlying hd w]
    cases d <;> simp_all [TypeDesc.isRow]
  obtain ⟨ti, hi1, hi2⟩ := Option.map_eq_some_iff.1 hi
  have hso : (sizeOf f.type).run P w = .ok n w := by simp [sizeOf, typeInfo, hi1, hi2]
  simp [Instr.field, run_underlying hu, hf, part, hagg, hso, asAgg]

theorem run_field_one {P : Program} {t : TypeId} {fs : Array Field} {f : Field} {d : TypeDesc} {i : Nat} (hu : P.underlying t = some (.struct fs)) (hf : fs[i]? = some f) (hd : P.underlying f.type = some d) (hr : d.isRow = false) (cs : Array Value) {v : Value} (hv : cs[f.offset]? = some v) (w : World) :
    (Instr.field t (.agg cs) i).run P w = .ok v w := by
  have hagg : (isAgg f.type).run P w = .ok false w := by
    unfold isAgg
    rw [Sem.run_bind, run_underlying hd w]
    cases d <;> simp_all [TypeDesc.isRow]
  simp [Instr.field, run_underlying hu, hf, part, hagg, hv, asAgg]

theorem field_root {v : VoD} (h : v.ok) (w : World) : (Instr.field 78 (.agg v.cells.toArray) 2).run Try.prog w = .ok (.agg (bytesL v.r).toArray) w := by
  have := run_field_row (P := Try.prog) (i := 2) (n := 32) Try.underlying78 rfl Try.underlying28 rfl (by kernel_rfl) v.cells.toArray w
  rw [this]
  have hl := VoD.len h
  congr 2
  apply Array.toList_inj.1
  simp only [Array.toList_extract, List.extract_eq_take_drop]
  show (v.cells.drop 2).take 32 = bytesL v.r
  show (bytesL v.r).take 32 = bytesL v.r
  rw [List.take_of_length_le (by rw [bytesL_len h.2.2]; omega)]

theorem field_has (v : VoD) (w : World) : (Instr.field 78 (.agg v.cells.toArray) 0).run Try.prog w = .ok (.bool v.has) w :=
  run_field_one (P := Try.prog) (i := 0) Try.underlying78 rfl Try.underlying4 rfl v.cells.toArray rfl w

theorem ints_two {w : World} {g : Nat} {x y : Int} {k : Nat} (h : Blk w g #[.int .i64 x, .int .i64 y]) (hx : -9223372036854775808 ≤ x ∧ x ≤ 9223372036854775807) (hy : -9223372036854775808 ≤ y ∧ y ≤ 9223372036854775807) : IntsV w (.slice (some ⟨g, 0, none⟩) 2 k) [x, y] := by
  refine ⟨⟨_, 2, _, rfl, rfl, by unfold maxLen; omega, .inr ⟨g, 0, rfl, h.lt, fun i hi => ?_⟩⟩, fun z hz => by simp at hz; rcases hz with rfl | rfl; exact hx; exact hy⟩
  rw [Nat.zero_add, h.cell]
  rcases i with _ | _ | i
  · rfl
  · rfl
  · omega

theorem ints_1 {w : World} {g : Nat} {x : Int} {k : Nat} (h : Blk w g #[.int .i64 x]) (hx : -9223372036854775808 ≤ x ∧ x ≤ 9223372036854775807) : IntsV w (.slice (some ⟨g, 0, none⟩) 1 k) [x] := by
  refine ⟨⟨_, 1, _, rfl, rfl, by unfold maxLen; omega, .inr ⟨g, 0, rfl, h.lt, fun i hi => ?_⟩⟩, fun z hz => by simp at hz; rcases hz with rfl; exact hx⟩
  rw [Nat.zero_add, h.cell]
  rcases i with _ | i
  · rfl
  · omega

theorem off_new {g a l c : Nat} (h : a ≠ g) : Off g (.slice (some ⟨a, 0, none⟩) l c) := fun z l' c' e _ => by cases e; exact h

def thirdV (r1 r2 : List Int) : List VoD := [⟨true, 3, r1⟩, ⟨true, 3, r1⟩, ⟨true, 3, r2⟩]

theorem cast_first (r : List Int) : castR (List.replicate 3 zeV) 3 r [0, 1] = ([⟨true, 3, r⟩, ⟨true, 3, r⟩, zeV], 2) ∧ vlE [0, 1] (List.replicate 3 zeV).length = 0 := ⟨rfl, rfl⟩

theorem cast_second (r r2 : List Int) : castR [⟨true, 3, r⟩, ⟨true, 3, r⟩, zeV] 3 r2 [1, 2] = (thirdV r r2, 1) ∧ vlE [1, 2] [⟨true, 3, r⟩, ⟨true, 3, r⟩, zeV].length = 0 := ⟨rfl, rfl⟩

/-- Cast where its results are known. -/
theorem cast_to (b g : Nat) (vs vs' : List VoD) (e c x : Int) (r : List Int) (v : Value) (l : List Int) (w : World) (hC : castR vs e r l = (vs', c) ∧ vlE l vs.length = x) (hV : VtI w b g vs) (he : 0 ≤ e ∧ e ≤ 18446744073709551615) (hr : IsBytes 32 r) (hI : IntsV w v l) (hO : Off g v) :
    Calls Try.prog 13 #[.pointer (some ⟨b, 0, none⟩), .int .u64 e, .agg (bytesL r).toArray, v] w fun en w' => en = .returned (.tuple #[.int .i64 c, .int .i64 x]) ∧ VtI w' b g vs' ∧ w.grownBy w' (some g) := by
  refine (cast_any b g vs e r v l w hV he hr hI hO).mono ?_
  rintro en w' ⟨h1, h2, h3⟩
  rw [hC.1] at h1 h2
  rw [hC.2] at h1
  exact ⟨h1, h2, h3⟩

theorem below_row {N g : Nat} {w0 w w' : World} (h : Below N w0 w) (hg : w.grownBy w' (some g)) (hN : N ≤ g) (hs : N ≤ w.heap.size) : Below N w0 w' :=
  ⟨hg.os.trans h.os, hg.tape.trans h.tape, hg.output.trans h.output, Nat.le_trans h.size hg.size, fun k hk => (hg.block k (by omega) (by simp; omega)).trans (h.block k hk)⟩
end

/-! RgG -/
section
set_option linter.unusedVariables false
set_option linter.unusedSimpArgs false
open Go.RowKit Go.Maps

set_option maxRecDepth 100000

/-- A configuration of which the limit of tables, the genesis root and the balances are given. -/
def sixZ : List Value := [.int .u64 0, .int .u64 0, .int .u64 0, .int .u64 0, .int .u64 0, .int .u64 0]

def limL (lim : Int) : List Value := [.int .i64 0, .int .i64 0, .int .i64 0, .int .i64 lim, .int .i64 0, .int .u64 0]

def cfP (lim : Int) (gen : List Int) (bv : Value) : List (List Value) := [limL lim, [.int .u64 0], [.int .u64 0], [.int .u64 0, .int .u64 0, .int .u64 0, .int .u64 0], bytesL gen, [bv]]

theorem cfP_cf {lim : Int} {gen : List Int} {bv : Value} (hg : IsBytes 32 gen) (hb : bv.oneCell' = true) : CfI (flatP (cfP lim gen bv)) lim gen bv := by
  have hl := bytesL_len hg
  have e : flatP (cfP lim gen bv) = (limL lim ++ sixZ ++ bytesL gen ++ [bv]).toArray := by
    unfold flatP cfP sixZ; simp
  rw [e]
  refine ⟨by simp [limL, sixZ, hl], ?_, by rw [List.getElem?_toArray]; rfl, fun j v hj => ?_, ?_, hg⟩
  · intro z hz
    have hz' : z ∈ limL lim ++ sixZ ++ bytesL gen ++ [bv] := by simpa using hz
    simp only [limL, sixZ, List.mem_append, List.mem_cons, List.not_mem_nil, or_false] at hz'
    rcases hz' with (((rfl | rfl | rfl | rfl | rfl | rfl) | (rfl | rfl | rfl | rfl | rfl | rfl)) | hz') | rfl
    all_goals first | rfl | exact hb | exact bytesL_one _ z hz'
  · have hjl : j < 32 := by rw [← hl]; exact (List.getElem?_eq_some_iff.1 hj).1
    rw [List.getElem?_toArray, List.getElem?_append_left (by simp [limL, sixZ, hl]; omega), List.getElem?_append_right (by simp [limL, sixZ])]
    simp only [limL, sixZ, List.length_append, List.length_cons, List.length_nil]
    rw [show 12 + j - (0 + 1 + 1 + 1 + 1 + 1 + 1 + (0 + 1 + 1 + 1 + 1 + 1 + 1)) = j from by omega]
    exact hj
  · rw [List.getElem?_toArray, List.getElem?_append_right (by simp [limL, sixZ, hl])]
    simp [limL, sixZ, hl]

theorem build_lim (lim : Int) (u : World) : (Instr.build 24 #[(3, .int .i64 lim)]).run Try.prog u = .ok (.agg (limL lim).toArray) u := by kernel_rfl

theorem build_cf {gen : List Int} (hg : IsBytes 32 gen) (lim : Int) (a : Option Addr) (n k : Nat) (u : World) : (Instr.build 31 #[(0, .agg (limL lim).toArray), (4, .agg (bytesL gen).toArray), (5, .slice a n k)]).run Try.prog u = .ok (.agg (flatP (cfP lim gen (.slice a n k)))) u := by
  have hl := bytesL_len hg
  refine build_struct (zero := flatP (cfP 0 zeroR (.slice none 0 0))) (fun w => by kernel_rfl) Try.underlying31 (places := #[(0, 6), (6, 1), (7, 1), (8, 4), (12, 32), (44, 1)]) (fun w => by kernel_rfl) ?_ u
  show Instr.fill _ (flatP (cfP 0 zeroR (.slice none 0 0))) [(0, .agg (limL lim).toArray), (4, .agg (bytesL gen).toArray), (5, .slice a n k)] = _
  unfold cfP
  rw [fill_part 0 (limL 0) (limL lim) rfl rfl rfl rfl rfl, fill_part (i := 4) (o := 12) 4 (bytesL zeroR) (bytesL gen) rfl rfl (by rw [hl]; rfl) rfl (by rw [hl]; rfl), fill_part (i := 5) (o := 44) 5 [.slice none 0 0] [.slice a n k] rfl rfl rfl (by simp [offP, hl, limL]) rfl]
  unfold Instr.fill
  rfl

theorem build_cf0 {gen : List Int} (hg : IsBytes 32 gen) (lim : Int) (u : World) : (Instr.build 31 #[(0, .agg (limL lim).toArray), (4, .agg (bytesL gen).toArray)]).run Try.prog u = .ok (.agg (flatP (cfP lim gen (.slice none 0 0)))) u := by
  have hl := bytesL_len hg
  refine build_struct (zero := flatP (cfP 0 zeroR (.slice none 0 0))) (fun w => by kernel_rfl) Try.underlying31 (places := #[(0, 6), (6, 1), (7, 1), (8, 4), (12, 32), (44, 1)]) (fun w => by kernel_rfl) ?_ u
  show Instr.fill _ (flatP (cfP 0 zeroR (.slice none 0 0))) [(0, .agg (limL lim).toArray), (4, .agg (bytesL gen).toArray)] = _
  unfold cfP
  rw [fill_part 0 (limL 0) (limL lim) rfl rfl rfl rfl rfl, fill_part (i := 4) (o := 12) 4 (bytesL zeroR) (bytesL gen) rfl rfl (by rw [hl]; rfl) rfl (by rw [hl]; rfl)]
  unfold Instr.fill
  rfl

theorem new_good (C : Array Value) (lim : Int) (gen : List Int) (a : Option Addr) (k : Nat) (l : List Int) (w : World) (hC : CfI C lim gen (.slice a l.length k)) (hI : NumsV w (.slice a l.length k) l) (h1 : l.length ≤ 1024) (h2 : 1 ≤ lim) (h3 : lim ≤ 64) (h0 : vtE l.length l = 0) :
    Calls Try.prog 7 #[.agg C] w fun e w' => ∃ (ra : RgA) (hi : Nat) (v' : Value), e = .returned (.tuple #[.pointer (some ⟨ra.b, 0, none⟩), .int .i64 0]) ∧ RgI w' w.heap.size hi ra l.length lim (List.replicate l.length zeV) (List.replicate l.length false) [⟨⟨0, gen⟩, v', l⟩] ∧ Below w.heap.size w w' := by
  refine (new_ok C lim gen a k l w hC hI h1 h2 h3).mono ?_
  rintro e w' ⟨hb, ⟨hn, _⟩ | ⟨_, ra, hi, v', rfl, hr⟩⟩
  · exact absurd h0 hn
  · exact ⟨ra, hi, v', rfl, hr, hb⟩

theorem new_err (C : Array Value) (lim : Int) (gen : List Int) (a : Option Addr) (k : Nat) (l : List Int) (w : World) (hC : CfI C lim gen (.slice a l.length k)) (hI : NumsV w (.slice a l.length k) l) (h1 : l.length ≤ 1024) (h2 : 1 ≤ lim) (h3 : lim ≤ 64) {er : Int} (her : vtE l.length l = er) (h0 : er ≠ 0) :
    Calls Try.prog 7 #[.agg C] w fun e w' => e = .returned (.tuple #[.pointer none, .int .i64 er]) ∧ Below w.heap.size w w' := by
  refine (new_ok C lim gen a k l w hC hI h1 h2 h3).mono ?_
  rintro e w' ⟨hb, ⟨_, rfl⟩ | ⟨h, _⟩⟩
  · exact ⟨by rw [her], hb⟩
  · exact absurd (her ▸ h) h0

theorem wpList_buildSlice_w {P : Program} {ops : Array Oper} {rest : List Oper} {op : Oper} {a : Act} {w w' : World} {Q : Exit → Act → World → Prop} (t : TypeId) (n : Nat) (ps : Array (Nat × Operand)) (ho : op.op = .buildSlice t n ps)
    (ps' : Array (Nat × Value)) (hps : ps.map (fun (i, x) => (i, a.eval x)) = ps') (v : Value) (hr : (Instr.buildSlice t n ps').run P w = .ok v w') (hw : Region.wanted op (yielded ops a.tmps) = true) (h : wpList P ops Q rest (a.put op.dst v) w') : wpList P ops Q (op :: rest) a w :=
  BigFrame.wpList_want hw fun _ hK => wp_buildSlice t n ps ho ps' hps v hr (hK _ _ h)

def twoV10 (r : List Int) : List VoD := [⟨true, 1, r⟩, ⟨true, 1, r⟩]

theorem cast_two10 (r : List Int) : castR (List.replicate 2 zeV) 1 r [0, 1] = (twoV10 r, 2) ∧ vlE [0, 1] (List.replicate 2 zeV).length = 0 := ⟨rfl, rfl⟩

theorem pun_first : punR (List.replicate 2 false) [0] = ([true, false], 1) ∧ vlE [0] (List.replicate 2 false).length = 0 := ⟨rfl, rfl⟩

theorem ws_two (r : List Int) : wsK (twoV10 r) (List.replicate 2 false) [5, 7] [r, r] (twoV10 r).length = 12 := by simp [wsK, wsP, twoV10, guiV]

theorem ws_one (r : List Int) : wsK (twoV10 r) [true, false] [5, 7] [r] (twoV10 r).length = 7 := by simp [wsK, wsP, twoV10, guiV]

set_option maxHeartbeats 16000000 in
theorem awake10_any (w : World) : Calls Try.prog 5 #[] w fun e w' => e = .returned (.bool true) ∧ Below w.heap.size w w' := by
  obtain ⟨r1, h1⟩ : ∃ r, rootK 1 = r := ⟨_, rfl⟩
  obtain ⟨r2, h2⟩ : ∃ r, rootK 2 = r := ⟨_, rfl⟩
  have HK1 : Hid (∀ u, Calls Try.prog 10 #[.int .i64 1] u fun e w' => e = .returned (.agg (bytesL r1).toArray) ∧ Below u.heap.size u w') := fun u => by rw [← h1]; exact root_k 1 u
  have HK2 : Hid (∀ u, Calls Try.prog 10 #[.int .i64 2] u fun e w' => e = .returned (.agg (bytesL r2).toArray) ∧ Below u.heap.size u w') := fun u => by rw [← h2]; exact root_k 2 u
  have HIS1 : Hid (IsBytes 32 r1) := by show IsBytes 32 r1; rw [← h1]; exact rootK_is 1
  have HIS2 : Hid (IsBytes 32 r2) := by show IsBytes 32 r2; rw [← h2]; exact rootK_is 2
  clear h1 h2
  have HBL := Lib.hid (fun u => build_lim 2 u)
  obtain ⟨LM, hLM⟩ : ∃ L, Hid ((limL 2).toArray = L) := ⟨_, Lib.hid rfl⟩
  have HBC := Lib.hid (fun (a : Option Addr) (u : World) => build_cf HIS1.out 2 a 2 2 u)
  rw [hLM.out] at HBL HBC
  have HBP := Lib.hid (fun u => build_cp1 HIS1.out u)
  have hCK : CpD.ok ⟨0, r1⟩ := ⟨by show (0 : Int) ≤ 0; omega, by show (0 : Int) ≤ _; omega, HIS1.out⟩
  have HCK := Lib.hid hCK
  obtain ⟨X1, hX1⟩ : ∃ X, Hid ((bytesL r1).toArray = X) := ⟨_, Lib.hid rfl⟩
  rw [hX1.out] at HK1 HBC HBP
  obtain ⟨CX, hCX⟩ : ∃ CX, Hid ((CpD.mk 0 r1).cells = CX) := ⟨_, Lib.hid rfl⟩
  rw [hCX.out] at HBP
  have hlC : CX.length = 33 := by rw [← hCX.out]; exact CpD.len hCK
  have hiC : (Try.prog.info? 34).map (·.size) = some CX.toArray.size := by rw [List.size_toArray, hlC]; kernel_rfl
  have HOC : Hid (∀ v ∈ CX.toArray, v.oneCell' = true) := by show ∀ v ∈ CX.toArray, _; rw [← hCX.out]; exact fun v hv => CpD.one _ v (by simpa using hv)
  obtain ⟨R2, hR2⟩ : ∃ R, Hid (bytesL r2 = R) := ⟨_, Lib.hid rfl⟩
  rw [hR2.out] at HK2
  have hlR : R2.length = 32 := by rw [← hR2.out]; exact bytesL_len HIS2.out
  have hiR2 : (Try.prog.info? 28).map (·.size) = some R2.length := by rw [hlR]; kernel_rfl
  have hiR2' : (Try.prog.info? 28).map (·.size) = some R2.toArray.size := by rw [List.size_toArray]; exact hiR2
  have HOR : Hid (∀ v ∈ R2.toArray, v.oneCell' = true) := by show ∀ v ∈ R2.toArray, _; rw [← hR2.out]; exact fun v hv => bytesL_one _ v (by simpa using hv)
  obtain ⟨ZC, hZC⟩ : ∃ Z, zeC.cells.toArray = Z := ⟨_, rfl⟩
  have hszC : ZC.size = 33 := by rw [← hZC]; rfl
  obtain ⟨hz33, hst⟩ := zero_array (P := Try.prog) (t := 34) (n := 33) ZC (by rw [← hZC]; kernel_rfl) hszC (by rw [← hZC]; kernel_rfl)
  obtain ⟨ZR, hZR⟩ : ∃ Z, (bytesL zeroR).toArray = Z := ⟨_, rfl⟩
  have hszR : ZR.size = 32 := by rw [← hZR]; rfl
  obtain ⟨hz32, hst2⟩ := zero_array (P := Try.prog) (t := 28) (n := 32) ZR (by rw [← hZR]; kernel_rfl) hszR (by rw [← hZR]; kernel_rfl)
  clear hst hZC hst2 hZR hCK
  have HNW := Lib.hid (fun (g : Nat) (u : World) (hu : Blk u g #[.int .u64 5, .int .u64 7]) => new_good _ 2 r1 (some ⟨g, 0, none⟩) 2 [5, 7] u (cfP_cf HIS1.out rfl) (nums_two (k := 2) hu (by omega) (by omega)) (by decide) (by omega) (by omega) rfl)
  go_enter Try.func5, Try.ntmps5
  go_wp2_with (first
    | ((with_reducible refine at_build (some 11) ?_); refine wpList_build rfl 24 _ rfl #[(3, .int .i64 2)] (by simp [Act.eval]) (.agg LM) (HBL.out _) ?_)
    | (go_at_call_of 10 (Value.int IntKind.i64 2); refine (HK2.out _).mono ?_; rintro e w5 ⟨rfl, hb5⟩; have HR5 := Lib.hid (HR4.out.call hb5); have HB5 := Lib.hid (HB4.out.trans (hb5.mono HB4.out.size)); have HH5 := Lib.hid (Nat.le_trans HH4.out hb5.size); clear hb5)
    | (go_at_call_of 10 (Value.int IntKind.i64 1); have _d := HR3.out; refine (HK1.out _).mono ?_; rintro e w4 ⟨rfl, hb4⟩; have HR4 := Lib.hid (HR3.out.call hb4); have HB4 := Lib.hid (HB3.out.trans (hb4.mono HB3.out.size)); have HH4 := Lib.hid (Nat.le_trans HR3.out.hi.2.2.2 hb4.size); clear hb4 _d)
    | (go_at_call_of 10 (Value.int IntKind.i64 1); refine (HK1.out _).mono ?_; rintro e w1 ⟨rfl, hb1⟩; have HB1 := Lib.hid hb1; clear hb1)
    | ((with_reducible refine at_build (some 14) ?_); refine wpList_build rfl 31 _ rfl #[(0, .agg LM), (4, .agg X1), (5, .slice (some ⟨w1.heap.size, 0, none⟩) 2 2)] (by simp [Act.eval, Act.put]) _ (HBC.out _ _) ?_)
    | (go_at_call 7; refine (HNW.out w1.heap.size _ (Blk.new rfl)).mono ?_; rintro e w3 ⟨ra, hi, v', rfl, hr3, hb3⟩; have HLO : Hid (w.heap.size ≤ ra.g1 ∧ w.heap.size ≤ ra.g2) := (by have h := hr3.lo; have h2 := HB1.out.size; simp only [World.size_alloc] at h; exact ⟨by omega, by omega⟩); have HR3 := Lib.hid hr3; have HB3 := Lib.hid ((HB1.out.alloc HB1.out.size _).trans (hb3.mono (by have := HB1.out.size; simp; omega))); clear hr3 hb3)
    | (go_at_call 8; refine (ready_any _ _ ra _ _ _ _ _ _ HR3.out).mono ?_; rintro e wq ⟨rfl, hq⟩; rw [hq]; clear hq)
    | ((with_reducible refine at_build (some 26) ?_); refine wpList_build rfl 34 _ rfl #[(1, .agg X1)] (by simp [Act.eval, Act.put]) (.agg CX.toArray) (HBP.out _) ?_)
    | ((with_reducible refine at_store (.tmp 3) ?_); refine wpList_store_blk rfl 34 (.tmp 3) _ rfl w5.heap.size CX.toArray rfl rfl ZC ((Blk.new rfl).alloc _) (by rw [hszC, List.size_toArray, hlC]) hiC HOC.out ?_; intro w6 U6 B6; have hb6 := U6.below (((Below.refl w5.heap.size w5).alloc (Nat.le_refl _) (.cells ZC 34)).alloc (by simp) (.cells ZR 28)) (Nat.le_refl _); have HC6 := Lib.hid B6; have HZ6 := Lib.hid (U6.blk (Blk.new (w := w5.alloc (.cells ZC 34)) (t := 28) (n := w5.heap.size + 1) (cs := ZR) (by simp)) (by omega)); have HB56 := Lib.hid hb6; clear hb6 U6 B6)
    | ((with_reducible refine at_store (.tmp 4) ?_); refine wpList_store_blk rfl 28 (.tmp 4) _ rfl (w5.heap.size + 1) R2.toArray rfl rfl ZR HZ6.out (by rw [hszR, List.size_toArray, hlR]) hiR2' HOR.out ?_; intro w6b V6 B6b; have HA6 := Lib.hid B6b; have HC6b := Lib.hid (V6.blk HC6.out (by omega)); have HB6b := Lib.hid (V6.below HB56.out (by omega)); clear V6 B6b))
  obtain ⟨x, hx⟩ : ∃ x, w6b.drew = x := ⟨_, rfl⟩
  have hbd : Below w6b.heap.size w6b x := by rw [← hx]; exact ⟨rfl, rfl, rfl, Nat.le_refl _, fun _ _ => rfl⟩
  have hbx := HB6b.out.trans (hbd.mono HB6b.out.size)
  have HR := Lib.hid (HR5.out.call hbx)
  have HB := Lib.hid (HB5.out.trans (hbx.mono HB5.out.size))
  have HC := Lib.hid (HC6b.out.call hbd)
  have HS := Lib.hid (And.intro HR.out.blk (HA6.out.call hbd))
  have HHI : Hid (ra.g1 < w5.heap.size ∧ ra.g2 < w5.heap.size) := by have := HR5.out.hi; exact ⟨by omega, by omega⟩
  have HXS : Hid (w5.heap.size ≤ x.heap.size) := hbx.size
  have hlt5 := HC6.out.lt
  clear hbd hbx HR5 HB5 HC6 HC6b HA6 HZ6 HB56 HB6b HR4 HB4 HB3 HB1 HH4 HH5 HR3 hlt5
  refine wp_region_held_drew (S := fun u' => Blk u' ra.b #[.pointer (some ⟨ra.b1, 0, none⟩), .pointer (some ⟨ra.b2, 0, none⟩), .pointer (some ⟨ra.b3, 0, none⟩)] ∧ Blk u' (w5.heap.size + 1) R2.toArray) (by kernel_rfl) (by rw [hx]; exact HS.out) (fun _ => ?_)
  rw [hx]
  clear hx
  (try simp only [Act.put, List.setIfInBounds_toArray, List.set_cons_zero, List.set_cons_succ])
  refine wpAnyH_take (i := 0) (oi := ⟨some 29, _, _, _, _, _⟩) (v := .pointer (some ⟨ra.b, 0, none⟩)) rfl (by kernel_rfl) (by kernel_rfl) (by kernel_rfl) (fun _ _ _ h => h) (Or.inl ⟨by rfl, fun wz hz => ?_⟩) HS.out ?_
  · clear hz; go_simp; first | done | with_reducible rfl | rfl
  (try simp only [Act.put, List.setIfInBounds_toArray, List.set_cons_zero, List.set_cons_succ])
  refine wpAnyH_take (i := 1) (oi := ⟨some 30, _, _, _, _, _⟩) (v := .pointer (some ⟨ra.b, 0, none⟩)) rfl (by kernel_rfl) (by kernel_rfl) (by kernel_rfl) (fun _ _ _ h => h) (Or.inl ⟨by rfl, fun wz hz => ?_⟩) HS.out ?_
  · clear hz; go_simp; first | done | with_reducible rfl | rfl
  (try simp only [Act.put, List.setIfInBounds_toArray, List.set_cons_zero, List.set_cons_succ])
  refine wpAnyH_take (i := 2) (oi := ⟨some 31, _, _, _, _, _⟩) (v := .pointer (some ⟨ra.b, 0, none⟩)) rfl (by kernel_rfl) (by kernel_rfl) (by kernel_rfl) (fun _ _ _ h => h) (Or.inl ⟨by rfl, fun wz hz => ?_⟩) HS.out ?_
  · clear hz; go_simp; first | done | with_reducible rfl | rfl
  (try simp only [Act.put, List.setIfInBounds_toArray, List.set_cons_zero, List.set_cons_succ])
  refine held_load1 (oi := ⟨some 32, _, _, _, _, _⟩) 3 rfl (by kernel_rfl) (by kernel_rfl) (by kernel_rfl) (fun _ _ _ _ h => h) rfl 57 (.tmp 31) rfl ra.b 0 rfl (.pointer (some ⟨ra.b1, 0, none⟩)) _ (fun u' hu => hu.1.cell 0) Try.underlying57 rfl HS.out ?_
  (try simp only [Act.put, List.setIfInBounds_toArray, List.set_cons_zero, List.set_cons_succ])
  refine held_load (oi := ⟨some 33, _, _, _, _, _⟩) 4 rfl (by kernel_rfl) (by kernel_rfl) (by kernel_rfl) (fun _ _ _ _ h => h) rfl 28 (.tmp 4) rfl (w5.heap.size + 1) 0 rfl R2 _ (fun u' hu => hu.2.range) Try.underlying28 rfl (hiR2) HS.out ?_
  (try simp only [Act.put, List.setIfInBounds_toArray, List.set_cons_zero, List.set_cons_succ])
  refine wpAnyH_ready (rs := [5]) (by kernel_rfl) (by simp) ?_
  refine AllReadyH.cons (o := ⟨some 34, _, _, _, _, _⟩) rfl (fun K hK => ?_) AllReadyH.nil
  go_simp
  have hba := (Below.refl x.heap.size x).alloc (Nat.le_refl _) (.cells #[.int .i64 0, .int .i64 1] 3)
  have HSa : Hid (Blk (x.alloc (.cells #[.int .i64 0, .int .i64 1] 3)) ra.b #[.pointer (some ⟨ra.b1, 0, none⟩), .pointer (some ⟨ra.b2, 0, none⟩), .pointer (some ⟨ra.b3, 0, none⟩)] ∧ Blk (x.alloc (.cells #[.int .i64 0, .int .i64 1] 3)) (w5.heap.size + 1) R2.toArray) := ⟨HS.out.1.call hba, HS.out.2.call hba⟩
  have HIa : Hid (IntsV (x.alloc (.cells #[.int .i64 0, .int .i64 1] 3)) (.slice (some ⟨x.heap.size, 0, none⟩) 2 2) [0, 1]) := ints_two (Blk.new rfl) (by omega) (by omega)
  have HRa := Lib.hid (HR.out.call hba)
  have HCa := Lib.hid (HC.out.call hba)
  have HBa := Lib.hid (HB.out.trans (hba.mono HB.out.size))
  refine hK.out _ _ HSa.out (fun _ => ?_)
  clear hK K HS
  have HS := HSa
  clear HSa
  (try simp only [Act.put, List.setIfInBounds_toArray, List.set_cons_zero, List.set_cons_succ])
  refine wpAnyH_ready (rs := [6]) (by kernel_rfl) (by simp) ?_
  refine AllReadyH.cons (o := ⟨some 35, _, _, _, _, _⟩) rfl (fun K hK => ?_) AllReadyH.nil
  rw [if_pos (by rfl)]
  go_simp
  have hca := cast_to ra.b1 ra.g1 _ (twoV10 r2) 1 2 0 r2 _ [0, 1] _ (cast_two10 r2) HRa.out.vot (by omega) HIS2.out HIa.out (off_new (by have := HHI.out; have := HXS.out; omega))
  rw [hR2.out] at hca
  refine hca.mono ?_
  rintro e w7 ⟨rfl, hv7, hg7⟩
  have HS7 : Hid (Blk w7 ra.b #[.pointer (some ⟨ra.b1, 0, none⟩), .pointer (some ⟨ra.b2, 0, none⟩), .pointer (some ⟨ra.b3, 0, none⟩)] ∧ Blk w7 (w5.heap.size + 1) R2.toArray) := ⟨HS.out.1.grown hg7 (by simpa using HRa.out.ap.1), HS.out.2.grown hg7 (by have := HHI.out; simp; omega)⟩
  have HC7 := Lib.hid (HCa.out.grown hg7 (by have := HHI.out; simp; omega))
  have HR7 := Lib.hid (HRa.out.cast hv7 rfl hg7)
  have HB7 := Lib.hid (below_row HBa.out hg7 HLO.out.1 HBa.out.size)
  refine hK.out _ _ HS7.out (fun _ => ?_)
  clear hK K hca hv7 hg7 HS HRa HCa HBa HIa
  have HS := HS7
  clear HS7
  (try simp only [Act.put, List.setIfInBounds_toArray, List.set_cons_zero, List.set_cons_succ])
  refine wpAnyH_take (i := 7) (oi := ⟨some 28, _, _, _, _, _⟩) (v := .tuple #[.int .i64 2, .int .i64 0]) rfl (by kernel_rfl) (by kernel_rfl) (by kernel_rfl) (fun _ _ _ h => h) (Or.inl ⟨by rfl, fun wz hz => ?_⟩) HS.out ?_
  · clear hz; go_simp; first | done | with_reducible rfl | rfl
  (try simp only [Act.put, List.setIfInBounds_toArray, List.set_cons_zero, List.set_cons_succ])
  refine wpAnyH_take (i := 8) (oi := ⟨some 36, _, _, _, _, _⟩) (v := .int .i64 2) rfl (by kernel_rfl) (by kernel_rfl) (by kernel_rfl) (fun _ _ _ h => h) (Or.inl ⟨by rfl, fun wz hz => ?_⟩) HS.out ?_
  · clear hz; go_simp; first | done | with_reducible rfl | rfl
  (try simp only [Act.put, List.setIfInBounds_toArray, List.set_cons_zero, List.set_cons_succ])
  refine wpAnyH_take (i := 9) (oi := ⟨some 37, _, _, _, _, _⟩) (v := .int .i64 0) rfl (by kernel_rfl) (by kernel_rfl) (by kernel_rfl) (fun _ _ _ h => h) (Or.inl ⟨by rfl, fun wz hz => ?_⟩) HS.out ?_
  · clear hz; go_simp; first | done | with_reducible rfl | rfl
  (try simp only [Act.put, List.setIfInBounds_toArray, List.set_cons_zero, List.set_cons_succ])
  refine wpAnyH_ready (rs := [10]) (by kernel_rfl) (by simp) ?_
  refine AllReadyH.cons (o := ⟨some 5, _, _, _, _, _⟩) rfl (fun K hK => ?_) AllReadyH.nil
  go_simp
  refine hK.out _ _ HS.out (fun _ => ?_)
  clear hK K
  (try simp only [Act.put, List.setIfInBounds_toArray, List.set_cons_zero, List.set_cons_succ])
  refine wpAnyH_ready (rs := [11]) (by kernel_rfl) (by simp) ?_
  refine AllReadyH.cons (o := ⟨some 6, _, _, _, _, _⟩) rfl (fun K hK => ?_) AllReadyH.nil
  go_simp
  refine hK.out _ _ HS.out (fun _ => ?_)
  clear hK K
  (try simp only [Act.put, List.setIfInBounds_toArray, List.set_cons_zero, List.set_cons_succ])
  refine wpAnyH_done (by kernel_rfl) ?_ _
  have HBR2 := Lib.hid (fun u => bs_roots (rs := [r2, r2]) (fun r hr => by simp at hr; rw [hr]; exact HIS2.out) (by simp) (by simp) u)
  have HNR2 := Lib.hid (fun u => new_roots (rs := [r2, r2]) (fun r hr => by simp at hr; rw [hr]; exact HIS2.out) (by simp) u)
  have HBR1 := Lib.hid (fun u => bs_roots (rs := [r2]) (fun r hr => by simp at hr; rw [hr]; exact HIS2.out) (by simp) (by simp) u)
  have HNR1 := Lib.hid (fun u => new_roots (rs := [r2]) (fun r hr => by simp at hr; rw [hr]; exact HIS2.out) (by simp) u)
  obtain ⟨Q2, hQ2⟩ : ∃ Q, Hid (rowsL (rtX [r2, r2]) = Q) := ⟨_, Lib.hid rfl⟩
  rw [hQ2.out] at HBR2 HNR2
  obtain ⟨Q1, hQ1⟩ : ∃ Q, Hid (rowsL (rtX [r2]) = Q) := ⟨_, Lib.hid rfl⟩
  rw [hQ1.out] at HBR1 HNR1
  have HP2 : Hid ((prtN 0 (rtX [r2, r2])).toArray = #[(0, .agg R2.toArray), (1, .agg R2.toArray)]) := by show _ = _; rw [← hR2.out]; rfl
  have HP1 : Hid ((prtN 0 (rtX [r2])).toArray = #[(0, .agg R2.toArray)]) := by show _ = _; rw [← hR2.out]; rfl
  rw [HP2.out] at HBR2
  rw [HP1.out] at HBR1
  have HTL : Hid (tlst [⟨⟨0, r1⟩, v', [5, 7]⟩] ⟨0, r1⟩ = [5, 7]) := tlst_self _ _ _ _
  have HCE : Hid (cpX ⟨0, r1⟩ = .agg CX.toArray) := by show _ = _; rw [← hCX.out]; rfl
  have HA := Lib.hid HS.out.2
  have c1 : w7.cell? ⟨ra.b, 1, none⟩ = some (.pointer (some ⟨ra.b2, 0, none⟩)) := HR7.out.cells.2.1
  clear HS HR HB HC
  go_wp2_with (first
    | ((with_reducible refine at_load (.tmp 3) ?_); refine wpList_load_g 34 (.tmp 3) rfl w5.heap.size rfl CX.toArray _ HC9.out Try.underlying34 rfl hiC rfl ?_)
    | ((with_reducible refine at_load (.tmp 3) ?_); refine wpList_load_g 34 (.tmp 3) rfl w5.heap.size rfl CX.toArray _ HC7.out Try.underlying34 rfl hiC rfl ?_)
    | ((with_reducible refine at_load (.tmp 4) ?_); refine wpList_load_g 28 (.tmp 4) rfl (w5.heap.size + 1) rfl R2.toArray _ HA9.out Try.underlying28 rfl hiR2' rfl ?_)
    | ((with_reducible refine at_load (.tmp 4) ?_); refine wpList_load_g 28 (.tmp 4) rfl (w5.heap.size + 1) rfl R2.toArray _ HA.out Try.underlying28 rfl hiR2' rfl ?_)
    | ((with_reducible refine at_buildSliceE (some 42) ?_); refine wpList_buildSlice_w 93 2 _ rfl #[(0, .agg R2.toArray), (1, .agg R2.toArray)] (by simp [Act.eval, Act.put]) _ (HBR2.out _) rfl ?_)
    | ((with_reducible refine at_buildSliceE (some 67) ?_); refine wpList_buildSlice_w 93 1 _ rfl #[(0, .agg R2.toArray)] (by simp [Act.eval, Act.put]) _ (HBR1.out _) rfl ?_)
    | (go_at_call 19; have hba := (Below.refl w9.heap.size w9).alloc (Nat.le_refl _) (.cells Q1.toArray 28); have hwg := wgt_any _ _ ra _ _ (twoV10 r2) [true, false] _ ⟨0, r1⟩ _ [r2] _ (HR9.out.call hba) HCK.out (HNR1.out w9); rw [HCE.out, HTL.out, ws_one] at hwg; refine hwg.mono ?_; rintro e w10 ⟨rfl, hb10⟩; have HB10 := Lib.hid ((HB9.out.trans (hba.mono HB9.out.size)).trans (hb10.mono (by have := HB9.out.size; simp; omega))); clear hwg hb10 hba)
    | (go_at_call 19; go_loud (have hba := (Below.refl w7.heap.size w7).alloc (Nat.le_refl _) (.cells Q2.toArray 28); have hwg := wgt_any _ _ ra _ _ (twoV10 r2) (List.replicate 2 false) _ ⟨0, r1⟩ _ [r2, r2] _ (HR7.out.call hba) HCK.out (HNR2.out w7); rw [HCE.out, HTL.out, ws_two] at hwg; refine hwg.mono ?_; rintro e w8 ⟨rfl, hb8⟩; have hb78 := hba.trans (hb8.mono hba.size); have HR8 := Lib.hid (HR7.out.call hb78); have HB8 := Lib.hid (HB7.out.trans (hb78.mono HB7.out.size)); have HC8 := Lib.hid (HC7.out.call hb78); have HA8 := Lib.hid (HA.out.call hb78); have d1 : w8.cell? ⟨ra.b, 1, none⟩ = some (.pointer (some ⟨ra.b2, 0, none⟩)) := HR8.out.cells.2.1; have dlt := HR8.out.blk.lt; clear hwg hb8 hba hb78))
    | (go_at_call 15; (have hba := (Below.refl w8.heap.size w8).alloc (Nat.le_refl _) (.cells #[.int .i64 0] 3); have hpu := punish_code ra.b2 ra.g2 (List.replicate 2 false) (.slice (some ⟨w8.heap.size, 0, none⟩) 1 1) [0] _ (HR8.out.call hba).set (ints_1 (Blk.new rfl) (by omega)) (off_new (by have := HR8.out.hi; omega)); rw [pun_first.1, pun_first.2] at hpu; refine hpu.mono ?_; rintro e w9 ⟨rfl, hs9, hg9⟩; have HR9 := Lib.hid ((HR8.out.call hba).punish hs9 rfl hg9); have HB9 := Lib.hid (below_row (HB8.out.trans (hba.mono HB8.out.size)) hg9 HLO.out.2 (by have := HB8.out.size; simp; omega)); have HC9 := Lib.hid ((HC8.out.call hba).grown hg9 (by have := HHI.out; simp; omega)); have HA9 := Lib.hid ((HA8.out.call hba).grown hg9 (by have := HHI.out; simp; omega)); clear hpu hs9 hg9 hba)))
  go_ret
  exact ⟨rfl, HB10.out⟩
end

end Go.Proofs.Ytcbjjafjomdklaa
