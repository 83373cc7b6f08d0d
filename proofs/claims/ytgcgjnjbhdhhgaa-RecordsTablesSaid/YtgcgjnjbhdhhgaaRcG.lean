/- DecodeAttestation of what can be encoded. -/
import Derived.Test.YtgcgjnjbhdhhgaaRcS
set_option linter.unusedVariables false
set_option linter.unusedSimpArgs false
namespace Go.Proofs.Ytgcgjnjbhdhhgaa
open Go.RowKit

def atS3 (s : RS) : RS := nC (nW (nU mxU s))
def atD (s : RS) (lv : Value) : AtD := ⟨vU mxU s, vW (nU mxU s), vCD (nW (nU mxU s)), lv⟩
def atL (s : RS) : List Int := lsV (atS3 s)
def atS (s : RS) : RS := lsN (atS3 s)

/-- An attestation that is read. -/
def AttR (w : World) (n : Int) (d : Value → AtD) (l : List Int) (en : Ending) (w' : World) : Prop :=
  ∃ lv, en = .returned (.tuple #[.agg (flatP (d lv).parts), .int .i64 n, .int .i64 0]) ∧ Ints .i64 w' lv l ∧ Below w.heap.size w w'

theorem ints_shape {k : IntKind} {w : World} {v : Value} {l : List Int} (h : Ints k w v l) : ∃ a n c, v = .slice a n c := by obtain ⟨a, n, c, e, _⟩ := h; exact ⟨a, n, c, e⟩

theorem elK_i64 {v : Nat → Int} (h : ∀ i, 0 ≤ v i ∧ v i ≤ 1024) {k : Nat} (hk : k < 1024) : -9223372036854775808 ≤ elK v k ∧ elK v k ≤ 9223372036854775807 := by
  have := elK_rng h (by omega) k
  omega
theorem lsV_rng {s : RS} (h : byteL s.r) : ∀ x ∈ lsV s, -9223372036854775808 ≤ x ∧ x ≤ 9223372036854775807 := by
  intro x hx
  unfold lsV at hx
  obtain ⟨i, hi, rfl⟩ := List.mem_map.1 hx
  rw [List.mem_range] at hi
  have := vU_rng (m := 1024) h (by omega)
  exact elK_i64 (fun i => vU_rng (stK_byte (nU_byte h) i) (by omega)) (by omega)
theorem lsN_len (s : RS) : (lsN s).r.length ≤ s.r.length := Nat.le_trans (stK_len _ _ _) (nU_len _ _)
theorem nW_len (s : RS) : (nW s).r.length ≤ s.r.length := by
  unfold nW tkR
  split
  · exact Nat.le_refl _
  · split
    · exact Nat.le_refl _
    · simp
theorem nC_len (s : RS) : (nC s).r.length ≤ s.r.length := by
  unfold nC cpR
  split
  · exact Nat.le_trans (nW_len ⟨cpR1 s.r s.e, cpE1 s.r s.e⟩) (ruR_len _ _ _)
  · exact Nat.le_refl _

set_option maxRecDepth 100000 in
set_option maxHeartbeats 8000000 in
theorem datt_ok (v : Value) (bs : List Int) (w : World) (h : Byt w v bs) (hb : bs.length ≤ 20604) (hE : (atS ⟨bs, 0⟩).e = 0) (hV : vlE (atL ⟨bs, 0⟩) 1024 = 0) :
    Calls Try.prog 19 #[v] w (AttR w ((bs.length : Int) - ((atS ⟨bs, 0⟩).r.length : Nat)) (atD ⟨bs, 0⟩) (atL ⟨bs, 0⟩)) := by
  obtain ⟨va, vl, vc, rfl⟩ := h.shape
  have hby : byteL bs := h.rng
  obtain ⟨s0, hs0⟩ : ∃ s0 : RS, s0 = ⟨bs, 0⟩ := ⟨_, rfl⟩
  have hby0 : byteL s0.r := by rw [hs0]; exact hby
  have hln0 : s0.r.length = bs.length := by rw [hs0]
  have er0 : s0.r = bs := by rw [hs0]
  have ee0 : s0.e = 0 := by rw [hs0]
  rw [← hs0] at hE hV ⊢
  obtain ⟨s1, hs1⟩ : ∃ s1, nU mxU s0 = s1 := ⟨_, rfl⟩
  obtain ⟨s2, hs2⟩ : ∃ s2, nW s1 = s2 := ⟨_, rfl⟩
  obtain ⟨s3, hs3⟩ : ∃ s3, nC s2 = s3 := ⟨_, rfl⟩
  obtain ⟨s4, hs4⟩ : ∃ s4, lsN s3 = s4 := ⟨_, rfl⟩
  have hby1 : byteL s1.r := hs1 ▸ nU_byte hby0
  have hby2 : byteL s2.r := hs2 ▸ nW_byte hby1
  have hby3 : byteL s3.r := hs3 ▸ nC_byte hby2
  have hlen : s4.r.length ≤ bs.length := by
    have h1 := nU_len mxU s0
    have h2 := nW_len s1
    have h3 := nC_len s2
    have h4 := lsN_len s3
    rw [hs1] at h1; rw [hs2] at h2; rw [hs3] at h3; rw [hs4] at h4
    omega
  have e3 : atS3 s0 = s3 := by unfold atS3; rw [hs1, hs2, hs3]
  have eL : atL s0 = lsV s3 := by unfold atL; rw [e3]
  have eS : atS s0 = s4 := by unfold atS; rw [e3, hs4]
  have eD : ∀ lv, atD s0 lv = ⟨vU mxU s0, vW s1, vCD s2, lv⟩ := fun lv => by unfold atD; rw [hs1, hs2]
  rw [eS] at hE ⊢
  rw [eL] at hV ⊢
  have HRL := Lib.hid (lsV_rng hby3)
  have D1 : Hid (∀ lo g (sz : Int) u, Rdr lo u g bs 0 → Calls Try.prog 43 #[.agg #[.pointer (some ⟨g, 0, none⟩), .int .i64 sz]] u (Reads lo u g (.int .u64 (vU mxU s0)) s1.r s1.e)) := fun lo g sz u hr => by
    have := num_any g sz bs 0 u hr
    rw [← hs1, hs0]; exact this
  have D2 : Hid (∀ lo g u, Rdr lo u g s1.r s1.e → Calls Try.prog 44 #[.pointer (some ⟨g, 0, none⟩)] u (Reads lo u g (.agg (bytesL (vW s1)).toArray) s2.r s2.e)) := fun lo g u hr => by
    have := root_any g s1.r s1.e u hr
    rw [← hs2]; exact this
  have D3 : Hid (∀ lo g u, Rdr lo u g s2.r s2.e → Calls Try.prog 46 #[.pointer (some ⟨g, 0, none⟩)] u (Reads lo u g (.agg (vCD s2).cells.toArray) s3.r s3.e)) := fun lo g u hr => by
    have := check_any g s2.r s2.e u hr
    rw [← hs3, ← vCD_eq]; exact this
  have D4 : Hid (∀ lo g (sz : Int) u, Rdr lo u g s3.r s3.e → Calls Try.prog 57 #[.agg #[.pointer (some ⟨g, 0, none⟩), .int .i64 sz]] u (RdL lo .i64 u g (lsV s3) s4)) := fun lo g sz u hr => by
    have := rlist_any g sz s3 u hr
    rw [← hs4]; exact this
  have h32 := Lib.hid (bytesL_len (vW_is hby1))
  have h33 := Lib.hid (CpD.len (vCD_ok hby2))
  have HED : Hid (∀ lv, (atD s0 lv).parts = [[.int .u64 (vU mxU s0)], bytesL (vW s1), (vCD s2).cells, [lv]]) := fun lv => by rw [eD]; rfl
  have HLEN := Lib.hid hlen
  clear hs1 hs2 hs3 hs4 hby hby0 hby1 hby2 hby3 hlen e3 eL eS eD
  generalize vU mxU s0 = v1 at *
  generalize vW s1 = r1 at *
  generalize vCD s2 = c1 at *
  generalize lsV s3 = l at *
  have hZ0 : (flatP zAt.parts).size = 67 := rfl
  obtain ⟨Z, hZ⟩ : ∃ Z, Z = flatP zAt.parts := ⟨_, rfl⟩
  rw [← hZ] at hZ0
  obtain ⟨hzz, hst⟩ := zero_array (P := Try.prog) (t := 45) (n := 67) Z (by rw [hZ]; kernel_rfl) hZ0 (by rw [hZ]; kernel_rfl)
  have HZ := Lib.hid hZ; clear hZ
  have hba := (Below.refl w.heap.size w).alloc (Nat.le_refl _) (.cells Z 45)
  have D0 := nrd_any (.slice va vl vc) bs _ (h.below hba) hb
  have hsz : (w.alloc (.cells Z 45)).heap.size = w.heap.size + 1 := by simp
  rw [hsz] at D0
  have HD0 := Lib.hid D0; clear D0 h hba hsz
  obtain ⟨n0, hn0⟩ : ∃ n0, bs.length = n0 := ⟨_, rfl⟩
  rw [hn0] at HD0 HLEN hb hln0 ⊢
  clear hn0 hln0
  have HS0 := Lib.hid hs0; clear hs0 er0 ee0
  have HL4 := Lib.hid (show [1, 32, 33, 1] = zAt.parts.map List.length from rfl)
  have HIR : Hid ((Try.prog.info? 29).map (·.size) = some (bytesL r1).length) := by show _ = _; rw [h32.out]; kernel_rfl
  have HIC : Hid ((Try.prog.info? 31).map (·.size) = some c1.cells.length) := by show _ = _; rw [h33.out]; kernel_rfl
  have HE4 := Lib.hid hE
  have HVL := Lib.hid hV
  clear hE hV
  go_enter Try.func19, Try.ntmps19
  go_wp2_with (first
    | (go_at_call 42; refine HD0.out.mono ?_; rintro e w1 ⟨g, rfl, hr1, hg1, hb1⟩; have HR1 := Lib.hid hr1; clear hr1; have HB1 := Lib.hid hb1; clear hb1)
    | ((with_reducible refine at_store (.tmp 5) ?_); refine wpList_store_blk rfl 86 (.tmp 5) _ rfl w1.heap.size #[.pointer (some ⟨g, 0, none⟩), .int .i64 n0] rfl rfl #[.pointer none, .int .i64 0] (Blk.new rfl) rfl (by kernel_rfl) (by intro v hv; simp at hv; rcases hv with rfl | rfl <;> rfl) ?_; intro w2 U2 B2
       have S2 := Lib.hid (DS.start (ps := zAt.parts) (ls := [1, 32, 33, 1]) (size := (n0 : Int)) HR1.out hg1 (by rw [← HZ.out]; exact HB1.out) rfl U2 B2)
       clear U2 B2
       have k20 := S2.out.rv.cell 0
       have k21 := S2.out.rv.cell 1)
    | (go_at_call 43; refine (D1.out _ _ _ _ S2.out.rd).mono ?_; rintro e w3 ⟨rfl, hr3, hg3⟩; have S3 := Lib.hid (S2.out.read (s' := s1) hr3 hg3); clear hr3 hg3)
    | ((with_reducible refine at_store (.tmp 10) ?_); refine wpList_store_ds1 rfl 27 (.tmp 10) (.tmp 9) rfl S3.out 0 0 (.int .u64 v1) rfl rfl rfl rfl (by kernel_rfl) rfl rfl ?_; intro w4 Uw4 S4'; have S4 := Lib.hid S4'; clear S4' Uw4; have k40 := S4.out.rv.cell 0)
    | (go_at_call 44; refine (D2.out _ _ _ S4.out.rd).mono ?_; rintro e w5 ⟨rfl, hr5, hg5⟩; have S5 := Lib.hid (S4.out.read (s' := s2) hr5 hg5); clear hr5 hg5)
    | ((with_reducible refine at_store (.tmp 14) ?_); refine wpList_store_ds rfl 29 (.tmp 14) (.tmp 13) rfl S5.out 1 1 (bytesL r1) (by rw [h32.out]; rfl) rfl rfl rfl HIR.out (bytesL_one _) ?_; intro w6 Uw6 S6'; have S6 := Lib.hid S6'; clear S6' Uw6; have k60 := S6.out.rv.cell 0)
    | (go_at_call 46; refine (D3.out _ _ _ S6.out.rd).mono ?_; rintro e w7 ⟨rfl, hr7, hg7⟩; have S7 := Lib.hid (S6.out.read (s' := s3) hr7 hg7); clear hr7 hg7)
    | ((with_reducible refine at_store (.tmp 18) ?_); refine wpList_store_ds rfl 31 (.tmp 18) (.tmp 17) rfl S7.out 2 33 c1.cells (by rw [h33.out]; rfl) rfl rfl rfl HIC.out (CpD.one _) ?_; intro w8 Uw8 S8'; have S8 := Lib.hid S8'; clear S8' Uw8; have k80 := S8.out.rv.cell 0; have k81 := S8.out.rv.cell 1)
    | (go_at_call 57; refine (D4.out _ _ _ _ S8.out.rd).mono ?_; rintro e w9 ⟨lv, rfl, hi9, hlo9, hr9, hg9⟩; obtain ⟨lva, lvl, lvc, rfl⟩ := ints_shape hi9; have S9 := Lib.hid (S8.out.read (s' := s4) hr9 hg9); clear hr9 hg9; have HI9 := Lib.hid hi9; clear hi9; have HLO9 := Lib.hid (hlo9 : ∀ x a b, Value.slice lva lvl lvc = .slice (some x) a b → w8.heap.size ≤ x.block); clear hlo9)
    | ((with_reducible refine at_store (.tmp 21) ?_); refine wpList_store_ds1 rfl 22 (.tmp 21) (.tmp 20) rfl S9.out 3 66 (.slice lva lvl lvc) rfl rfl rfl rfl (by kernel_rfl) rfl rfl ?_; intro w10 Uw10 S10'; have S10 := Lib.hid S10'; clear S10'; have HU10 := Lib.hid Uw10; clear Uw10))
  have hx8 := S8.out.xv.lt
  have HI10 := Lib.hid (HI9.out.upd HU10.out fun x a c e => by have := HLO9.out x a c e; omega)
  have hgg : w.heap.size ≤ g := by omega
  clear S2 S3 S4 S5 S6 S7 S8 S9 HI9 HU10 HR1 HB1 D1 D2 D3 D4 HD0 k20 k21 k40 k60 k80 k81 hzz hst
  have xv : Blk w10 w.heap.size (flatP [[.int .u64 v1], bytesL r1, c1.cells, [.slice lva lvl lvc]]) := S10.out.xv
  obtain ⟨L, hL⟩ : ∃ L, L = [[Value.int .u64 v1], bytesL r1, c1.cells, [Value.slice lva lvl lvc]].flatten := ⟨_, rfl⟩
  have hLn : L.length = 67 := by rw [hL]; simp [h32.out, h33.out]
  have hL1 : ∀ v ∈ L.toArray, v.oneCell' = true := by
    intro v hv
    rw [hL] at hv
    simp only [List.mem_toArray, List.mem_flatten] at hv
    obtain ⟨p, hp, hv⟩ := hv
    simp only [List.mem_cons, List.not_mem_nil, or_false] at hp
    rcases hp with rfl | rfl | rfl | rfl
    · rw [List.mem_singleton.1 hv]; rfl
    · exact bytesL_one _ v hv
    · exact CpD.one _ v hv
    · rw [List.mem_singleton.1 hv]; rfl
  have hcel : L[66]? = some (.slice lva lvl lvc) := by
    have e1 : L = ([[Value.int .u64 v1], bytesL r1, c1.cells].flatten) ++ [Value.slice lva lvl lvc] := by rw [hL]; simp
    have e2 : ([[Value.int .u64 v1], bytesL r1, c1.cells].flatten).length = 66 := by simp [h32.out, h33.out]
    rw [e1, List.getElem?_append_right (by omega), e2]; rfl
  have xv' : Blk w10 w.heap.size L.toArray := by rw [hL]; exact xv
  have HPOST : Hid (flatP (atD s0 (.slice lva lvl lvc)).parts = L.toArray) := by show _ = _; rw [HED.out, hL]; rfl
  have hiL : (Try.prog.info? 45).map (·.size) = some L.toArray.size := by rw [List.size_toArray, hLn]; kernel_rfl
  have HIL := Lib.hid hiL
  clear hL xv hiL
  have HL1 := Lib.hid hL1; clear hL1
  have HX := S10.out.rd.drew
  have HB := Below.drewN (n := 1) (S10.out.bel hgg)
  change Below w.heap.size w w10.drew at HB
  have rv : Blk w10.drew w1.heap.size #[.pointer (some ⟨g, 0, none⟩), .int .i64 n0] := S10.out.rv
  have xw : Blk w10.drew w.heap.size L.toArray := xv'
  have hIx : Ints .i64 w10.drew (.slice lva lvl lvc) l := HI10.out
  have hne := S10.out.xr
  have hxg := S10.out.xg
  clear xv' HI10 S10
  obtain ⟨x, hx⟩ : ∃ x, w10.drew = x := ⟨_, rfl⟩
  rw [hx] at HX HB rv xw hIx
  refine wp_region_held_drew (S := fun u' => Blk u' w.heap.size L.toArray ∧ Blk u' w1.heap.size #[.pointer (some ⟨g, 0, none⟩), .int .i64 n0]) (by kernel_rfl) (by rw [hx]; exact ⟨xw, rv⟩) (fun _ => ?_)
  rw [hx]
  clear hx
  (try simp only [Act.put, List.setIfInBounds_toArray, List.set_cons_zero, List.set_cons_succ])
  refine held_load 0 rfl (by kernel_rfl) (by kernel_rfl) (by kernel_rfl) (fun _ _ _ _ h => h) rfl 86 (.tmp 5) rfl w1.heap.size 0 rfl [.pointer (some ⟨g, 0, none⟩), .int .i64 n0] _ (fun u' hu => by simpa using hu.2.range) Try.underlying86 rfl (by kernel_rfl) ⟨xw, rv⟩ ?_
  (try simp only [Act.put, List.setIfInBounds_toArray, List.set_cons_zero, List.set_cons_succ])
  refine held_load 1 rfl (by kernel_rfl) (by kernel_rfl) (by kernel_rfl) (fun _ _ _ _ h => h) rfl 45 (.tmp 2) rfl w.heap.size 0 rfl L _ (fun u' hu => by simpa using hu.1.range) Try.underlying45 rfl (by simpa using HIL.out) ⟨xw, rv⟩ ?_
  (try simp only [Act.put, List.setIfInBounds_toArray, List.set_cons_zero, List.set_cons_succ])
  refine wpAnyH_take (i := 2) (v := .pointer (some ⟨w.heap.size, 66, none⟩)) rfl (by kernel_rfl) (by kernel_rfl) (by kernel_rfl) (fun _ _ _ h => h) (Or.inl ⟨by rfl, fun wz hz => ?_⟩) ⟨xw, rv⟩ ?_
  · clear hz; go_simp
  (try simp only [Act.put, List.setIfInBounds_toArray, List.set_cons_zero, List.set_cons_succ])
  refine held_load1 3 rfl (by kernel_rfl) (by kernel_rfl) (by kernel_rfl) (fun _ _ _ _ h => h) rfl 22 (.tmp 24) rfl w.heap.size 66 rfl (.slice lva lvl lvc) _ (fun u' hu => by rw [hu.1.cell]; simpa using hcel) Try.underlying22 rfl ⟨xw, rv⟩ ?_
  (try simp only [Act.put, List.setIfInBounds_toArray, List.set_cons_zero, List.set_cons_succ])
  refine wpAnyH_ready (rs := [4]) (by kernel_rfl) (by simp) ?_
  refine AllReadyH.cons rfl (fun K hK => ?_) AllReadyH.nil
  go_simp
  refine hK.out _ _ ⟨xw.alloc _, rv.alloc _⟩ (fun _ => ?_)
  clear hK K
  (try simp only [Act.put, List.setIfInBounds_toArray, List.set_cons_zero, List.set_cons_succ])
  have DV := vlists_any x.heap.size 1 _ _ _ (lists1 (w := x) (y1 := Value.slice lva lvl lvc) (l1 := l) (t := 22) rfl ⟨hIx, HRL.out⟩) (by omega)
  rw [vlsE_one, HVL.out] at DV
  have HIxy := hIx.below ((Below.refl _ x).alloc (Nat.le_refl _) (.cells #[Value.slice lva lvl lvc] 22))
  have HXy := HX.below ((Below.refl _ x).alloc (Nat.le_refl _) (.cells #[Value.slice lva lvl lvc] 22))
  have HBy := HB.alloc HB.size (.cells #[Value.slice lva lvl lvc] 22)
  have xy := xw.alloc (.cells #[Value.slice lva lvl lvc] 22)
  have ry := rv.alloc (.cells #[Value.slice lva lvl lvc] 22)
  refine wpAnyH_ready (rs := [5]) (by kernel_rfl) (by simp) ?_
  refine AllReadyH.cons rfl (fun K hK => ?_) AllReadyH.nil
  go_simp
  refine DV.mono ?_
  rintro e y ⟨rfl, hy⟩
  rw [hy] at HXy HBy xy ry HIxy
  refine hK.out _ _ ⟨xy, ry⟩ (fun _ => ?_)
  clear hK K DV hy HX HB xw rv hIx
  (try simp only [Act.put, List.setIfInBounds_toArray, List.set_cons_zero, List.set_cons_succ])
  refine wpAnyH_take (i := 6) (v := .bool true) rfl (by kernel_rfl) (by kernel_rfl) (by kernel_rfl) (fun _ _ _ h => h) (Or.inl ⟨by rfl, fun wz hz => ?_⟩) ⟨xy, ry⟩ ?_
  · clear hz; go_simp
  (try simp only [Act.put, List.setIfInBounds_toArray, List.set_cons_zero, List.set_cons_succ])
  have DF : Calls Try.prog 58 #[.agg #[.pointer (some ⟨g, 0, none⟩), .int .i64 n0], .agg L.toArray, .bool true] y (Fin y L.toArray ((n0 : Int) - (s4.r.length : Nat)) 0) := by
    have := fin_att g n0 s4.r s4.e L.toArray true y HXy (by simpa using hLn) HL1.out (by have := HLEN.out; omega) (by omega)
    rw [HE4.out] at this
    exact this
  refine wpAnyH_ready (rs := [7]) (by kernel_rfl) (by simp) ?_
  refine AllReadyH.cons rfl (fun K hK => ?_) AllReadyH.nil
  go_simp
  refine DF.mono ?_
  rintro e wf ⟨rfl, hbf⟩
  have xf := xy.call hbf
  have rf := ry.call hbf
  have HIf := HIxy.below hbf
  have HBf := HBy.trans (hbf.mono HBy.size)
  refine hK.out _ _ ⟨xf, rf⟩ (fun _ => ?_)
  clear hK K DF HXy
  (try simp only [Act.put, List.setIfInBounds_toArray, List.set_cons_zero, List.set_cons_succ])
  refine wpAnyH_take (i := 8) (v := .agg L.toArray) rfl (by kernel_rfl) (by kernel_rfl) (by kernel_rfl) (fun _ _ _ h => h) (Or.inl ⟨by rfl, fun wz hz => ?_⟩) ⟨xf, rf⟩ ?_
  · clear hz; go_simp
  (try simp only [Act.put, List.setIfInBounds_toArray, List.set_cons_zero, List.set_cons_succ])
  refine wpAnyH_take (i := 9) (v := .int .i64 ((n0 : Int) - (s4.r.length : Nat))) rfl (by kernel_rfl) (by kernel_rfl) (by kernel_rfl) (fun _ _ _ h => h) (Or.inl ⟨by rfl, fun wz hz => ?_⟩) ⟨xf, rf⟩ ?_
  · clear hz; go_simp
  (try simp only [Act.put, List.setIfInBounds_toArray, List.set_cons_zero, List.set_cons_succ])
  refine wpAnyH_take (i := 10) (v := .int .i64 0) rfl (by kernel_rfl) (by kernel_rfl) (by kernel_rfl) (fun _ _ _ h => h) (Or.inl ⟨by rfl, fun wz hz => ?_⟩) ⟨xf, rf⟩ ?_
  · clear hz; go_simp
  (try simp only [Act.put, List.setIfInBounds_toArray, List.set_cons_zero, List.set_cons_succ])
  refine wpAnyH_ready (rs := [11]) (by kernel_rfl) (by simp) ?_
  refine AllReadyH.cons rfl (fun K hK => ?_) AllReadyH.nil
  rw [if_pos (by rfl)]
  refine wp_store_blk 45 (.tmp 2) (.tmp 30) rfl w.heap.size L.toArray rfl rfl L.toArray xf rfl HIL.out HL1.out ?_
  intro w6 U6 B6
  refine hK.out _ _ ⟨B6, U6.blk rf hne.symm⟩ (fun _ => ?_)
  clear hK K
  (try simp only [Act.put, List.setIfInBounds_toArray, List.set_cons_zero, List.set_cons_succ])
  refine wpAnyH_ready (rs := [12]) (by kernel_rfl) (by simp) ?_
  refine AllReadyH.cons rfl (fun K hK => ?_) AllReadyH.nil
  go_simp
  refine hK.out _ _ ⟨B6, U6.blk rf hne.symm⟩ (fun _ => ?_)
  clear hK K
  (try simp only [Act.put, List.setIfInBounds_toArray, List.set_cons_zero, List.set_cons_succ])
  refine wpAnyH_ready (rs := [13]) (by kernel_rfl) (by simp) ?_
  refine AllReadyH.cons rfl (fun K hK => ?_) AllReadyH.nil
  go_simp
  refine hK.out _ _ ⟨B6, U6.blk rf hne.symm⟩ (fun _ => ?_)
  clear hK K
  (try simp only [Act.put, List.setIfInBounds_toArray, List.set_cons_zero, List.set_cons_succ])
  refine wpAnyH_done (by kernel_rfl) ?_ _
  go_wp2_with fail
  refine bodyPost_ret (res_cell_tmp2 rfl rfl rfl rfl B6 Try.underlying45 rfl HIL.out) rfl ⟨.slice lva lvl lvc, by rw [HPOST.out]; rfl, HIf.upd U6 (fun z a c e => ?_), U6.below HBf (Nat.le_refl _)⟩
  have := HLO9.out z a c e
  omega

end Go.Proofs.Ytgcgjnjbhdhhgaa
