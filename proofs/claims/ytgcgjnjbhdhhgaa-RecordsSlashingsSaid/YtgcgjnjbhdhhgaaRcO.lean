/- DecodeSlashing of what can be encoded. -/
import Derived.Test.YtgcgjnjbhdhhgaaRcN
import Derived.Test.YtgcgjnjbhdhhgaaRcK
import Derived.Test.YtgcgjnjbhdhhgaaHeld4
set_option linter.unusedVariables false
set_option linter.unusedSimpArgs false
namespace Go.Proofs.Ytgcgjnjbhdhhgaa
open Go.RowKit

theorem clD_ok {s : RS} (h : byteL s.r) (lv : Value) : (clD s lv).ok := by
  have b1 : byteL (nU mxU s).r := nU_byte h
  exact ⟨vU_rng h (by unfold mxU; omega), vU_rng b1 (by unfold mxU; omega), vW_is (nU_byte b1)⟩
theorem clS_byte {s : RS} (h : byteL s.r) : byteL (clS s).r := lsN_byte (nW_byte (nU_byte (nU_byte h)))
theorem clS_len (s : RS) : (clS s).r.length ≤ s.r.length :=
  Nat.le_trans (lsN_len _) (Nat.le_trans (nW_len _) (Nat.le_trans (nU_len mxU _) (nU_len mxU _)))
theorem clL_rng {s : RS} (h : byteL s.r) : ∀ x ∈ clL s, -9223372036854775808 ≤ x ∧ x ≤ 9223372036854775807 := lsV_rng (nW_byte (nU_byte (nU_byte h)))
theorem ClD.at34 {x : ClD} (h : x.ok) : x.cells[34]? = some x.v := by
  have b32 := bytesL_len h.2.2
  have : x.cells = ([[Value.int .u64 x.source], [Value.int .u64 x.target], bytesL x.root].flatten) ++ [x.v] := by simp [ClD.cells, ClD.parts]
  rw [this, List.getElem?_append_right (by simp [b32])]
  simp [b32]

/-- A slashing that is read. -/
def SlaR (w : World) (n : Int) (d1 d2 : Value → ClD) (l m : List Int) (en : Ending) (w' : World) : Prop :=
  ∃ lv mv, en = .returned (.tuple #[.agg (flatP [(d1 lv).cells, (d2 mv).cells]), .int .i64 n, .int .i64 0]) ∧ Ints .i64 w' lv l ∧ Ints .i64 w' mv m ∧ Below w.heap.size w w'

set_option maxRecDepth 100000 in
set_option maxHeartbeats 16000000 in
theorem dsla_ok (v : Value) (bs : List Int) (w : World) (h : Byt w v bs) (hb : bs.length ≤ 20604) (hE : (clS (clS ⟨bs, 0⟩)).e = 0) (hV : vlsE [clL ⟨bs, 0⟩, clL (clS ⟨bs, 0⟩)] = 0) :
    Calls Try.prog 23 #[v] w (SlaR w ((bs.length : Int) - ((clS (clS ⟨bs, 0⟩)).r.length : Nat)) (clD ⟨bs, 0⟩) (clD (clS ⟨bs, 0⟩)) (clL ⟨bs, 0⟩) (clL (clS ⟨bs, 0⟩))) := by
  obtain ⟨va, vl, vc, rfl⟩ := h.shape
  have hby : byteL bs := h.rng
  obtain ⟨s0, hs0⟩ : ∃ s0 : RS, s0 = ⟨bs, 0⟩ := ⟨_, rfl⟩
  have hby0 : byteL s0.r := by rw [hs0]; exact hby
  have hln0 : s0.r.length = bs.length := by rw [hs0]
  rw [← hs0] at hE hV ⊢
  obtain ⟨s1, hs1⟩ : ∃ s1, clS s0 = s1 := ⟨_, rfl⟩
  obtain ⟨s2, hs2⟩ : ∃ s2, clS s1 = s2 := ⟨_, rfl⟩
  rw [hs1] at hE hV ⊢
  rw [hs2] at hE ⊢
  have hby1 : byteL s1.r := hs1 ▸ clS_byte hby0
  have hlen : s2.r.length ≤ bs.length := by
    have h1 := clS_len s0
    have h2 := clS_len s1
    rw [hs1] at h1
    rw [hs2] at h2
    omega
  have HR1 := Lib.hid (clL_rng hby0)
  have HR2 := Lib.hid (clL_rng hby1)
  have HO1 := Lib.hid (fun lv => clD_ok hby0 lv)
  have HO2 := Lib.hid (fun lv => clD_ok hby1 lv)
  have HV1 : Hid (∀ lv, (clD s0 lv).v = lv) := fun _ => rfl
  have HV2 : Hid (∀ lv, (clD s1 lv).v = lv) := fun _ => rfl
  have D1 : Hid (∀ lo g (sz : Int) u, Rdr lo u g bs 0 → Calls Try.prog 62 #[.agg #[.pointer (some ⟨g, 0, none⟩), .int .i64 sz]] u (RdC lo u g (clD s0) (clL s0) s1)) := fun lo g sz u hr => by
    have := rclm_any g sz s0 u (by rw [hs0]; exact hr)
    rw [← hs1]; exact this
  have D2 : Hid (∀ lo g (sz : Int) u, Rdr lo u g s1.r s1.e → Calls Try.prog 62 #[.agg #[.pointer (some ⟨g, 0, none⟩), .int .i64 sz]] u (RdC lo u g (clD s1) (clL s1) s2)) := fun lo g sz u hr => by
    have := rclm_any g sz s1 u hr
    rw [← hs2]; exact this
  clear hs1 hs2 hby hby0 hby1
  generalize clD s0 = d1 at *
  generalize clD s1 = d2 at *
  generalize clL s0 = l at *
  generalize clL s1 = m at *
  have hZ0 : (flatP [zCl.cells, zCl.cells]).size = 70 := rfl
  obtain ⟨Z, hZ⟩ : ∃ Z, Z = flatP [zCl.cells, zCl.cells] := ⟨_, rfl⟩
  rw [← hZ] at hZ0
  obtain ⟨hzz, hst⟩ := zero_array (P := Try.prog) (t := 56) (n := 70) Z (by rw [hZ]; kernel_rfl) hZ0 (by rw [hZ]; kernel_rfl)
  have HZ := Lib.hid hZ; clear hZ
  have hba := (Below.refl w.heap.size w).alloc (Nat.le_refl _) (.cells Z 56)
  have D0 := nrd_any (.slice va vl vc) bs _ (h.below hba) hb
  have hsz : (w.alloc (.cells Z 56)).heap.size = w.heap.size + 1 := by simp
  rw [hsz] at D0
  have HD0 := Lib.hid D0; clear D0 h hba hsz
  have HLEN := Lib.hid hlen; clear hlen
  obtain ⟨n0, hn0⟩ : ∃ n0, bs.length = n0 := ⟨_, rfl⟩
  rw [hn0] at HD0 HLEN hb hln0 ⊢
  clear hn0 hln0 hs0
  have HE4 := Lib.hid hE
  have HVL := Lib.hid hV
  clear hE hV
  have HL1 := Lib.hid (fun lv => ClD.len (HO1.out lv))
  have HL2 := Lib.hid (fun lv => ClD.len (HO2.out lv))
  have HI1 : Hid (∀ lv, (Try.prog.info? 54).map (·.size) = some (d1 lv).cells.length) := fun lv => by rw [HL1.out]; kernel_rfl
  have HI2 : Hid (∀ lv, (Try.prog.info? 54).map (·.size) = some (d2 lv).cells.length) := fun lv => by rw [HL2.out]; kernel_rfl
  go_enter Try.func23, Try.ntmps23
  go_wp2_with (first
    | ((with_reducible refine at_store (.tmp 13) ?_); refine wpList_store_ds rfl 54 (.tmp 13) (.tmp 12) rfl R2.out 1 35 (d2 (.slice ma mn mc)).cells (by rw [HL2.out]; rfl) rfl rfl rfl (HI2.out _) (ClD.one _ (by rw [HV2.out]; rfl)) ?_; intro x2 U2' S'; have S2 := Lib.hid S'; have HU2 := Lib.hid U2'; clear S' U2')
    | (go_at_call 62; refine (D2.out _ _ _ _ S1.out.rd).mono ?_; rintro e y2 ⟨mv, rfl, hi, hlo, hr, hg'⟩; obtain ⟨ma, mn, mc, rfl⟩ := ints_shape hi; have R2 := Lib.hid (S1.out.read (s' := s2) hr hg'); have HIM := Lib.hid hi; have HLM := Lib.hid (hlo : ∀ x a b, Value.slice ma mn mc = .slice (some x) a b → x1.heap.size ≤ x.block); have HIL2 := Lib.hid (HIL1.out.grown hg' (fun z a c e => by have := HLL1.out z a c e; have := S0.out.rd.lt; omega)); clear hr hg' hi hlo)
    | ((with_reducible refine at_store (.tmp 10) ?_); refine wpList_store_ds rfl 54 (.tmp 10) (.tmp 9) rfl R1.out 0 0 (d1 (.slice la ln lc)).cells (by rw [HL1.out]; rfl) rfl rfl rfl (HI1.out _) (ClD.one _ (by rw [HV1.out]; rfl)) ?_; intro x1 U1' S'; have S1 := Lib.hid S'; clear S'; have k10 := S1.out.rv.cell 0; have k11 := S1.out.rv.cell 1; have HIL1 := Lib.hid (HIL.out.upd U1' (fun z a c e => by have := HLL1.out z a c e; have := S0.out.xv.lt; omega)); clear U1')
    | (go_at_call 62; refine (D1.out _ _ _ _ S0.out.rd).mono ?_; rintro e y1 ⟨lv, rfl, hi, hlo, hr, hg'⟩; obtain ⟨la, ln, lc, rfl⟩ := ints_shape hi; have R1 := Lib.hid (S0.out.read (s' := s1) hr hg'); have HIL := Lib.hid hi; have HLL1 := Lib.hid (hlo : ∀ x a b, Value.slice la ln lc = .slice (some x) a b → x0.heap.size ≤ x.block); clear hr hg' hi hlo)
    | ((with_reducible refine at_store (.tmp 5) ?_); refine wpList_store_blk rfl 86 (.tmp 5) _ rfl w1.heap.size #[.pointer (some ⟨g, 0, none⟩), .int .i64 n0] rfl rfl #[.pointer none, .int .i64 0] (Blk.new rfl) rfl (by kernel_rfl) (by intro v hv; simp at hv; rcases hv with rfl | rfl <;> rfl) ?_; intro x0 U2 B2
       have S0 := Lib.hid (DS.start (ps := [zCl.cells, zCl.cells]) (ls := [35, 35]) (size := (n0 : Int)) HRR1.out hg1 (by rw [← HZ.out]; exact HB1.out) rfl U2 B2)
       clear U2 B2
       have k00 := S0.out.rv.cell 0
       have k01 := S0.out.rv.cell 1)
    | (go_at_call 42; refine HD0.out.mono ?_; rintro e w1 ⟨g, rfl, hr1, hg1, hb1⟩; have HRR1 := Lib.hid hr1; clear hr1; have HB1 := Lib.hid hb1; clear hb1))
  have hx1 := S1.out.xv.lt
  have hx0 := S0.out.xv.lt
  have HIM2 := Lib.hid (HIM.out.upd HU2.out fun z a c e => by have := HLM.out z a c e; omega)
  have HIL3 := Lib.hid (HIL2.out.upd HU2.out fun z a c e => by have := HLL1.out z a c e; omega)
  have hgg : w.heap.size ≤ g := by omega
  have hxx : w.heap.size < x0.heap.size := hx0
  clear R1 R2 S0 S1 HIL HIL1 HIL2 HIM HU2 HRR1 HB1 D1 D2 HD0 k00 k01 k10 k11 hzz hst
  have xv : Blk x2 w.heap.size (flatP [(d1 (.slice la ln lc)).cells, (d2 (.slice ma mn mc)).cells]) := S2.out.xv
  obtain ⟨L, hL⟩ : ∃ L, L = [(d1 (.slice la ln lc)).cells, (d2 (.slice ma mn mc)).cells].flatten := ⟨_, rfl⟩
  have hLn : L.length = 70 := by rw [hL]; simp [HL1.out, HL2.out]
  have hL1 : ∀ v ∈ L.toArray, v.oneCell' = true := by
    intro v hv
    rw [hL] at hv
    simp only [List.mem_toArray, List.mem_flatten] at hv
    obtain ⟨p, hp, hv⟩ := hv
    simp only [List.mem_cons, List.not_mem_nil, or_false] at hp
    rcases hp with rfl | rfl
    · exact ClD.one _ (by rw [HV1.out]; rfl) v hv
    · exact ClD.one _ (by rw [HV2.out]; rfl) v hv
  have hc1 : L[34]? = some (.slice la ln lc) := by
    rw [hL, List.flatten_cons, List.getElem?_append_left (by rw [HL1.out]; omega), ClD.at34 (HO1.out _), HV1.out]
  have hc2 : L[69]? = some (.slice ma mn mc) := by
    rw [hL, List.flatten_cons, List.getElem?_append_right (by rw [HL1.out]; omega), HL1.out]
    show ([(d2 (.slice ma mn mc)).cells].flatten)[34]? = _
    rw [List.flatten_cons, List.flatten_nil, List.append_nil, ClD.at34 (HO2.out _), HV2.out]
  have xv' : Blk x2 w.heap.size L.toArray := by rw [hL]; exact xv
  have HPOST : Hid (flatP [(d1 (.slice la ln lc)).cells, (d2 (.slice ma mn mc)).cells] = L.toArray) := by show _ = _; rw [hL]; rfl
  have hiL : (Try.prog.info? 56).map (·.size) = some L.toArray.size := by rw [List.size_toArray, hLn]; kernel_rfl
  have HIL := Lib.hid hiL
  clear hL xv hiL
  have HL1o := Lib.hid hL1; clear hL1
  have HX := S2.out.rd.drew
  have HB := Below.drewN (n := 1) (S2.out.bel hgg)
  change Below w.heap.size w x2.drew at HB
  have rv : Blk x2.drew w1.heap.size #[.pointer (some ⟨g, 0, none⟩), .int .i64 n0] := S2.out.rv
  have xw : Blk x2.drew w.heap.size L.toArray := xv'
  have hIx : Ints .i64 x2.drew (.slice la ln lc) l := HIL3.out
  have hIy : Ints .i64 x2.drew (.slice ma mn mc) m := HIM2.out
  have hne := S2.out.xr
  have hxg := S2.out.xg
  clear xv' HIL3 HIM2 S2
  obtain ⟨x, hx⟩ : ∃ x, x2.drew = x := ⟨_, rfl⟩
  rw [hx] at HX HB rv xw hIx hIy
  refine wp_region_held_drew (S := fun u' => Blk u' w.heap.size L.toArray ∧ Blk u' w1.heap.size #[.pointer (some ⟨g, 0, none⟩), .int .i64 n0]) (by kernel_rfl) (by rw [hx]; exact ⟨xw, rv⟩) (fun _ => ?_)
  rw [hx]
  clear hx
  (try simp only [Act.put, List.setIfInBounds_toArray, List.set_cons_zero, List.set_cons_succ])
  refine held_load 0 rfl (by kernel_rfl) (by kernel_rfl) (by kernel_rfl) (fun _ _ _ _ h => h) rfl 86 (.tmp 5) rfl w1.heap.size 0 rfl [.pointer (some ⟨g, 0, none⟩), .int .i64 n0] _ (fun u' hu => by simpa using hu.2.range) Try.underlying86 rfl (by kernel_rfl) ⟨xw, rv⟩ ?_
  (try simp only [Act.put, List.setIfInBounds_toArray, List.set_cons_zero, List.set_cons_succ])
  refine held_load 1 rfl (by kernel_rfl) (by kernel_rfl) (by kernel_rfl) (fun _ _ _ _ h => h) rfl 56 (.tmp 2) rfl w.heap.size 0 rfl L _ (fun u' hu => by simpa using hu.1.range) Try.underlying56 rfl (by simpa using HIL.out) ⟨xw, rv⟩ ?_
  (try simp only [Act.put, List.setIfInBounds_toArray, List.set_cons_zero, List.set_cons_succ])
  refine wpAnyH_take (i := 2) (oi := ⟨some 16, _, _, _, _, _⟩) (v := .pointer (some ⟨w.heap.size, 0, none⟩)) rfl (by kernel_rfl) (by kernel_rfl) (by kernel_rfl) (fun _ _ _ h => h) (Or.inl ⟨by rfl, fun wz hz => ?_⟩) ⟨xw, rv⟩ ?_
  · clear hz; go_simp; first | done | with_reducible rfl | rfl
  (try simp only [Act.put, List.setIfInBounds_toArray, List.set_cons_zero, List.set_cons_succ])
  refine wpAnyH_take (i := 3) (oi := ⟨some 17, _, _, _, _, _⟩) (v := .pointer (some ⟨w.heap.size, 34, none⟩)) rfl (by kernel_rfl) (by kernel_rfl) (by kernel_rfl) (fun _ _ _ h => h) (Or.inl ⟨by rfl, fun wz hz => ?_⟩) ⟨xw, rv⟩ ?_
  · clear hz; go_simp; first | done | with_reducible rfl | rfl
  (try simp only [Act.put, List.setIfInBounds_toArray, List.set_cons_zero, List.set_cons_succ])
  refine held_load1 4 rfl (by kernel_rfl) (by kernel_rfl) (by kernel_rfl) (fun _ _ _ _ h => h) rfl 22 (.tmp 17) rfl w.heap.size 34 rfl (.slice la ln lc) _ (fun u' hu => by rw [hu.1.cell]; simpa using hc1) Try.underlying22 rfl ⟨xw, rv⟩ ?_
  (try simp only [Act.put, List.setIfInBounds_toArray, List.set_cons_zero, List.set_cons_succ])
  refine wpAnyH_take (i := 5) (oi := ⟨some 19, _, _, _, _, _⟩) (v := .pointer (some ⟨w.heap.size, 35, none⟩)) rfl (by kernel_rfl) (by kernel_rfl) (by kernel_rfl) (fun _ _ _ h => h) (Or.inl ⟨by rfl, fun wz hz => ?_⟩) ⟨xw, rv⟩ ?_
  · clear hz; go_simp; first | done | with_reducible rfl | rfl
  (try simp only [Act.put, List.setIfInBounds_toArray, List.set_cons_zero, List.set_cons_succ])
  refine wpAnyH_take (i := 6) (oi := ⟨some 20, _, _, _, _, _⟩) (v := .pointer (some ⟨w.heap.size, 69, none⟩)) rfl (by kernel_rfl) (by kernel_rfl) (by kernel_rfl) (fun _ _ _ h => h) (Or.inl ⟨by rfl, fun wz hz => ?_⟩) ⟨xw, rv⟩ ?_
  · clear hz; go_simp; first | done | with_reducible rfl | rfl
  (try simp only [Act.put, List.setIfInBounds_toArray, List.set_cons_zero, List.set_cons_succ])
  refine held_load1 7 rfl (by kernel_rfl) (by kernel_rfl) (by kernel_rfl) (fun _ _ _ _ h => h) rfl 22 (.tmp 20) rfl w.heap.size 69 rfl (.slice ma mn mc) _ (fun u' hu => by rw [hu.1.cell]; simpa using hc2) Try.underlying22 rfl ⟨xw, rv⟩ ?_
  (try simp only [Act.put, List.setIfInBounds_toArray, List.set_cons_zero, List.set_cons_succ])
  refine wpAnyH_ready (rs := [8]) (by kernel_rfl) (by simp) ?_
  refine AllReadyH.cons rfl (fun K hK => ?_) AllReadyH.nil
  go_simp
  refine hK.out _ _ ⟨xw.alloc _, rv.alloc _⟩ (fun _ => ?_)
  clear hK K
  (try simp only [Act.put, List.setIfInBounds_toArray, List.set_cons_zero, List.set_cons_succ])
  have hal := (Below.refl x.heap.size x).alloc (Nat.le_refl _) (.cells #[Value.slice la ln lc, .slice ma mn mc] 22)
  have DV := vlists_any x.heap.size 2 _ _ _ (lists2 (w := x) (y1 := Value.slice la ln lc) (y2 := Value.slice ma mn mc) (l1 := l) (l2 := m) (t := 22) rfl ⟨hIx, HR1.out⟩ ⟨hIy, HR2.out⟩) (by omega)
  rw [HVL.out] at DV
  have HIxy := hIx.below hal
  have HIyy := hIy.below hal
  have HXy := HX.below hal
  have HBy := HB.alloc HB.size (.cells #[Value.slice la ln lc, .slice ma mn mc] 22)
  have xy := xw.alloc (.cells #[Value.slice la ln lc, .slice ma mn mc] 22)
  have ry := rv.alloc (.cells #[Value.slice la ln lc, .slice ma mn mc] 22)
  refine wpAnyH_ready (rs := [9]) (by kernel_rfl) (by simp) ?_
  refine AllReadyH.cons rfl (fun K hK => ?_) AllReadyH.nil
  go_simp
  refine DV.mono ?_
  rintro e y ⟨rfl, hy⟩
  rw [hy] at HXy HBy xy ry HIxy HIyy
  refine hK.out _ _ ⟨xy, ry⟩ (fun _ => ?_)
  clear hK K DV hy HX HB xw rv hIx hIy hal
  (try simp only [Act.put, List.setIfInBounds_toArray, List.set_cons_zero, List.set_cons_succ])
  refine wpAnyH_take (i := 10) (oi := ⟨some 24, _, _, _, _, _⟩) (v := .bool true) rfl (by kernel_rfl) (by kernel_rfl) (by kernel_rfl) (fun _ _ _ h => h) (Or.inl ⟨by rfl, fun wz hz => ?_⟩) ⟨xy, ry⟩ ?_
  · clear hz; go_simp; first | done | with_reducible rfl | rfl
  (try simp only [Act.put, List.setIfInBounds_toArray, List.set_cons_zero, List.set_cons_succ])
  have DF : Calls Try.prog 63 #[.agg #[.pointer (some ⟨g, 0, none⟩), .int .i64 n0], .agg L.toArray, .bool true] y (Fin y L.toArray ((n0 : Int) - (s2.r.length : Nat)) 0) := by
    have := fin_sla g n0 s2.r s2.e L.toArray true y HXy (by simpa using hLn) HL1o.out (by have := HLEN.out; omega) (by omega)
    rw [HE4.out] at this
    exact this
  refine wpAnyH_ready (rs := [11]) (by kernel_rfl) (by simp) ?_
  refine AllReadyH.cons rfl (fun K hK => ?_) AllReadyH.nil
  go_simp
  refine DF.mono ?_
  rintro e wf ⟨rfl, hbf⟩
  have xf := xy.call hbf
  have rf := ry.call hbf
  have HIf := HIxy.below hbf
  have HIg := HIyy.below hbf
  have HBf := HBy.trans (hbf.mono HBy.size)
  refine hK.out _ _ ⟨xf, rf⟩ (fun _ => ?_)
  clear hK K DF HXy
  (try simp only [Act.put, List.setIfInBounds_toArray, List.set_cons_zero, List.set_cons_succ])
  refine wpAnyH_take (i := 12) (oi := ⟨some 26, _, _, _, _, _⟩) (v := .agg L.toArray) rfl (by kernel_rfl) (by kernel_rfl) (by kernel_rfl) (fun _ _ _ h => h) (Or.inl ⟨by rfl, fun wz hz => ?_⟩) ⟨xf, rf⟩ ?_
  · clear hz; go_simp; first | done | with_reducible rfl | rfl
  (try simp only [Act.put, List.setIfInBounds_toArray, List.set_cons_zero, List.set_cons_succ])
  refine wpAnyH_take (i := 13) (oi := ⟨some 27, _, _, _, _, _⟩) (v := .int .i64 ((n0 : Int) - (s2.r.length : Nat))) rfl (by kernel_rfl) (by kernel_rfl) (by kernel_rfl) (fun _ _ _ h => h) (Or.inl ⟨by rfl, fun wz hz => ?_⟩) ⟨xf, rf⟩ ?_
  · clear hz; go_simp; first | done | with_reducible rfl | rfl
  (try simp only [Act.put, List.setIfInBounds_toArray, List.set_cons_zero, List.set_cons_succ])
  refine wpAnyH_take (i := 14) (oi := ⟨some 28, _, _, _, _, _⟩) (v := .int .i64 0) rfl (by kernel_rfl) (by kernel_rfl) (by kernel_rfl) (fun _ _ _ h => h) (Or.inl ⟨by rfl, fun wz hz => ?_⟩) ⟨xf, rf⟩ ?_
  · clear hz; go_simp; first | done | with_reducible rfl | rfl
  (try simp only [Act.put, List.setIfInBounds_toArray, List.set_cons_zero, List.set_cons_succ])
  refine wpAnyH_ready (rs := [15]) (by kernel_rfl) (by simp) ?_
  refine AllReadyH.cons rfl (fun K hK => ?_) AllReadyH.nil
  rw [if_pos (by rfl)]
  refine wp_store_blk 56 (.tmp 2) (.tmp 26) rfl w.heap.size L.toArray rfl rfl L.toArray xf rfl HIL.out HL1o.out ?_
  intro w6 U6 B6
  refine hK.out _ _ ⟨B6, U6.blk rf hne.symm⟩ (fun _ => ?_)
  clear hK K
  (try simp only [Act.put, List.setIfInBounds_toArray, List.set_cons_zero, List.set_cons_succ])
  refine wpAnyH_ready (rs := [16]) (by kernel_rfl) (by simp) ?_
  refine AllReadyH.cons rfl (fun K hK => ?_) AllReadyH.nil
  go_simp
  refine hK.out _ _ (⟨B6, U6.blk rf hne.symm⟩) (fun _ => ?_)
  clear hK K
  (try simp only [Act.put, List.setIfInBounds_toArray, List.set_cons_zero, List.set_cons_succ])
  refine wpAnyH_ready (rs := [17]) (by kernel_rfl) (by simp) ?_
  refine AllReadyH.cons rfl (fun K hK => ?_) AllReadyH.nil
  go_simp
  refine hK.out _ _ (⟨B6, U6.blk rf hne.symm⟩) (fun _ => ?_)
  clear hK K
  (try simp only [Act.put, List.setIfInBounds_toArray, List.set_cons_zero, List.set_cons_succ])
  refine wpAnyH_done (by kernel_rfl) ?_ _
  go_wp2_with fail
  refine bodyPost_ret (res_cell_tmp2 rfl rfl rfl rfl B6 Try.underlying56 rfl HIL.out) rfl ⟨.slice la ln lc, .slice ma mn mc, by rw [HPOST.out]; rfl, HIf.upd U6 (fun z a c e => ?_), HIg.upd U6 (fun z a c e => ?_), U6.below HBf (Nat.le_refl _)⟩
  · have := HLL1.out z a c e
    omega
  · have := HLM.out z a c e
    omega

end Go.Proofs.Ytgcgjnjbhdhhgaa
