/- The code's reader of a claim. -/
import Derived.Test.YtgcgjnjbhdhhgaaRcG
set_option linter.unusedVariables false
set_option linter.unusedSimpArgs false
namespace Go.Proofs.Ytgcgjnjbhdhhgaa
open Go.RowKit
variable {lo : Nat}

def cl2 (s : RS) : RS := nU mxU (nU mxU s)
def clD (s : RS) (lv : Value) : ClD := ⟨vU mxU s, vU mxU (nU mxU s), vW (cl2 s), lv⟩
def clL (s : RS) : List Int := lsV (nW (cl2 s))
def clS (s : RS) : RS := lsN (nW (cl2 s))

/-- A claim that is read. -/
def RdC (lo : Nat) (w : World) (g : Nat) (d : Value → ClD) (l : List Int) (s : RS) (en : Ending) (w' : World) : Prop :=
  ∃ lv, en = .returned (.agg (d lv).cells.toArray) ∧ Ints .i64 w' lv l ∧ (∀ x a b, lv = .slice (some x) a b → w.heap.size ≤ x.block) ∧ Rdr lo w' g s.r s.e ∧ w.grownBy w' (some g)

theorem clSize {v1 v2 : Int} {r : List Int} {lv : Value} {Y : Array Value} (h : flatP [[Value.int .u64 v1], [Value.int .u64 v2], bytesL r, [lv]] = Y) (h32 : (bytesL r).length = 32) : Y.size = 35 := by
  rw [← h, flatP_size]; simp [h32]
theorem clOne {v1 v2 : Int} {r : List Int} {a : Option Addr} {l c : Nat} {Y : Array Value} (h : flatP [[Value.int .u64 v1], [Value.int .u64 v2], bytesL r, [.slice a l c]] = Y) : ∀ v ∈ Y, v.oneCell' = true := by
  rw [← h]
  refine flatP_one fun p hp v hv => ?_
  simp only [List.mem_cons, List.not_mem_nil, or_false] at hp
  rcases hp with rfl | rfl | rfl | rfl
  · rw [List.mem_singleton.1 hv]; rfl
  · rw [List.mem_singleton.1 hv]; rfl
  · exact bytesL_one _ v hv
  · rw [List.mem_singleton.1 hv]; rfl

set_option maxRecDepth 100000 in
set_option maxHeartbeats 8000000 in
theorem rclm_any (g : Nat) (size : Int) (s : RS) (w : World) (h : Rdr lo w g s.r s.e) :
    Calls Try.prog 62 #[.agg #[.pointer (some ⟨g, 0, none⟩), .int .i64 size]] w (RdC lo w g (clD s) (clL s) (clS s)) := by
  have hg := h.lt
  have hby0 := h.bytes
  obtain ⟨s1, hs1⟩ : ∃ s1, nU mxU s = s1 := ⟨_, rfl⟩
  obtain ⟨s2, hs2⟩ : ∃ s2, nU mxU s1 = s2 := ⟨_, rfl⟩
  obtain ⟨s3, hs3⟩ : ∃ s3, nW s2 = s3 := ⟨_, rfl⟩
  obtain ⟨s4, hs4⟩ : ∃ s4, lsN s3 = s4 := ⟨_, rfl⟩
  have hby1 : byteL s1.r := hs1 ▸ nU_byte hby0
  have hby2 : byteL s2.r := hs2 ▸ nU_byte hby1
  have e2 : cl2 s = s2 := by unfold cl2; rw [hs1, hs2]
  have eL : clL s = lsV s3 := by unfold clL; rw [e2, hs3]
  have eS : clS s = s4 := by unfold clS; rw [e2, hs3, hs4]
  have HED : Hid (∀ lv, (clD s lv).cells = [[Value.int .u64 (vU mxU s)], [Value.int .u64 (vU mxU s1)], bytesL (vW s2), [lv]].flatten) := fun lv => by unfold clD; rw [hs1, e2]; rfl
  rw [eL, eS]
  have D1 : Hid (∀ u, Rdr lo u g s.r s.e → Calls Try.prog 43 #[.agg #[.pointer (some ⟨g, 0, none⟩), .int .i64 size]] u (Reads lo u g (.int .u64 (vU mxU s)) s1.r s1.e)) := fun u hr => by
    have := num_any g size s.r s.e u hr
    rw [← hs1]; exact this
  have D2 : Hid (∀ u, Rdr lo u g s1.r s1.e → Calls Try.prog 43 #[.agg #[.pointer (some ⟨g, 0, none⟩), .int .i64 size]] u (Reads lo u g (.int .u64 (vU mxU s1)) s2.r s2.e)) := fun u hr => by
    have := num_any g size s1.r s1.e u hr
    rw [← hs2]; exact this
  have D3 : Hid (∀ u, Rdr lo u g s2.r s2.e → Calls Try.prog 44 #[.pointer (some ⟨g, 0, none⟩)] u (Reads lo u g (.agg (bytesL (vW s2)).toArray) s3.r s3.e)) := fun u hr => by
    have := root_any g s2.r s2.e u hr
    rw [← hs3]; exact this
  have D4 : Hid (∀ u, Rdr lo u g s3.r s3.e → Calls Try.prog 57 #[.agg #[.pointer (some ⟨g, 0, none⟩), .int .i64 size]] u (RdL lo .i64 u g (lsV s3) s4)) := fun u hr => by
    have := rlist_any g size s3 u hr
    rw [← hs4]; exact this
  have h32 := Lib.hid (bytesL_len (vW_is hby2))
  clear hs1 hs2 hs3 hs4 hby0 hby1 hby2 e2 eL eS
  generalize vU mxU s = v1 at *
  generalize vU mxU s1 = v2 at *
  generalize vW s2 = r1 at *
  generalize lsV s3 = l at *
  have hZ0 : (flatP zCl.parts).size = 35 := rfl
  obtain ⟨Z, hZ⟩ : ∃ Z, Z = flatP zCl.parts := ⟨_, rfl⟩
  rw [← hZ] at hZ0
  obtain ⟨hzz, hst⟩ := zero_array (P := Try.prog) (t := 54) (n := 35) Z (by rw [hZ]; kernel_rfl) hZ0 (by rw [hZ]; kernel_rfl)
  have HIR : Hid ((Try.prog.info? 29).map (·.size) = some (bytesL r1).length) := by show _ = _; rw [h32.out]; kernel_rfl
  have hba := ((Below.refl w.heap.size w).alloc (Nat.le_refl _) (.cells #[.pointer (some ⟨g, 0, none⟩), .int .i64 size] 86)).alloc (by simp) (.cells Z 54)
  have S0 : Hid (DS lo g w.heap.size (w.heap.size + 1) size [1, 1, 32, 1] w ((w.alloc (.cells #[.pointer (some ⟨g, 0, none⟩), .int .i64 size] 86)).alloc (.cells Z 54)) zCl.parts s) :=
    ⟨h.below hba, (Blk.new rfl).alloc _, by rw [hZ]; exact Blk.new (by simp), rfl, grownBy_of_below hba, by omega, Nat.le_refl _, by omega, by omega, by omega, .inr (by omega)⟩
  have HBA := Lib.hid hba; clear hba h hZ
  have hne1 : w.heap.size ≠ g := by omega
  go_enter Try.func62, Try.ntmps62
  go_wp2_with (first
    | ((with_reducible refine at_store (.tmp 15) ?_); refine wpList_store_ds1 rfl 22 (.tmp 15) (.tmp 14) rfl R4.out 3 34 (.slice lva lvl lvc) rfl rfl rfl rfl (by kernel_rfl) rfl rfl ?_; intro x4 U4' S'; have S4 := Lib.hid S'; clear S'; have HU4 := Lib.hid U4'; clear U4'; obtain ⟨Y, HYY⟩ : ∃ Y, Hid (flatP [[Value.int .u64 v1], [Value.int .u64 v2], bytesL r1, [Value.slice lva lvl lvc]] = Y) := ⟨_, rfl⟩; have KF := Lib.hid ((show Blk x4 (w.heap.size + 1) (flatP [[Value.int .u64 v1], [Value.int .u64 v2], bytesL r1, [Value.slice lva lvl lvc]]) from S4.out.xv).to HYY.out); have hY35 := Lib.hid (clSize HYY.out h32.out); have HY1 := Lib.hid (clOne HYY.out))
    | (go_at_call 57; refine (D4.out _ S3.out.rd).mono ?_; rintro e y4 ⟨lv, rfl, hi, hlo, hr, hg'⟩; obtain ⟨lva, lvl, lvc, rfl⟩ := ints_shape hi; have R4 := Lib.hid (S3.out.read (s' := s4) hr hg'); have HI := Lib.hid hi; have HLO := Lib.hid (hlo : ∀ x a b, Value.slice lva lvl lvc = .slice (some x) a b → x3.heap.size ≤ x.block); clear hr hg' hi hlo)
    | ((with_reducible refine at_store (.tmp 12) ?_); refine wpList_store_ds rfl 29 (.tmp 12) (.tmp 11) rfl R3.out 2 2 (bytesL r1) (by rw [h32.out]; rfl) rfl rfl rfl HIR.out (bytesL_one _) ?_; intro x3 U3' S'; have S3 := Lib.hid S'; clear S' U3'; have k30 := S3.out.rv.cell 0; have k31 := S3.out.rv.cell 1)
    | (go_at_call 44; refine (D3.out _ S2.out.rd).mono ?_; rintro e y3 ⟨rfl, hr, hg'⟩; have R3 := Lib.hid (S2.out.read (s' := s3) hr hg'); clear hr hg')
    | ((with_reducible refine at_store (.tmp 8) ?_); refine wpList_store_ds1 rfl 27 (.tmp 8) (.tmp 7) rfl R2.out 1 1 (.int .u64 v2) rfl rfl rfl rfl (by kernel_rfl) rfl rfl ?_; intro x2 U2' S'; have S2 := Lib.hid S'; clear S' U2'; have k20 := S2.out.rv.cell 0; have k21 := S2.out.rv.cell 1)
    | (go_at_call 43; refine (D2.out _ S1.out.rd).mono ?_; rintro e y2 ⟨rfl, hr, hg'⟩; have R2 := Lib.hid (S1.out.read (s' := s2) hr hg'); clear hr hg')
    | ((with_reducible refine at_store (.tmp 5) ?_); refine wpList_store_ds1 rfl 27 (.tmp 5) (.tmp 4) rfl R1.out 0 0 (.int .u64 v1) rfl rfl rfl rfl (by kernel_rfl) rfl rfl ?_; intro x1 U1' S'; have S1 := Lib.hid S'; clear S' U1'; have k10 := S1.out.rv.cell 0; have k11 := S1.out.rv.cell 1)
    | (go_at_call 43; refine (D1.out _ S0.out.rd).mono ?_; rintro e y1 ⟨rfl, hr, hg'⟩; have R1 := Lib.hid (S0.out.read (s' := s1) hr hg'); clear hr hg')
    | ((with_reducible refine at_load (.tmp 2) ?_); refine wpList_load_g 54 (.tmp 2) rfl (w.heap.size + 1) rfl Y _ KF.out Try.underlying54 rfl (by rw [hY35.out]; kernel_rfl) rfl ?_)
    | ((with_reducible refine at_store (.tmp 2) ?_); refine wpList_store_blk rfl 54 (.tmp 2) (.tmp 16) rfl (w.heap.size + 1) Y rfl rfl Y KF.out rfl (by rw [hY35.out]; kernel_rfl) HY1.out ?_; intro x5 U5 B5))
  have hx3 := S3.out.xv.lt
  have hx4 : w.heap.size + 1 < y4.heap.size := R4.out.xv.lt
  have hI4 := (HI.out.upd HU4.out (fun z a c e => by have := HLO.out z a c e; omega)).upd U5 (fun z a c e => by have := HLO.out z a c e; omega)
  refine bodyPost_ret (res_cellR rfl rfl B5 Try.underlying54 rfl (by rw [hY35.out]; kernel_rfl)) rfl ⟨.slice lva lvl lvc, ?_, hI4, fun z a c e => ?_, S4.out.rd.updHi U5 (by omega), grownBy_keep S4.out.gro U5 (by omega)⟩
  · rw [HED.out, ← HYY.out]; rfl
  · have h1 := HLO.out z a c e
    omega

end Go.Proofs.Ytgcgjnjbhdhhgaa
