/- The reference's Cast. -/
import Derived.Test.YtoebkgjlehhbpaaVoE
set_option linter.unusedVariables false

set_option linter.unusedSimpArgs false
namespace Go.Proofs.Ytoebkgjlehhbpaa
open Go.RowKit

set_option maxRecDepth 100000

/-- Several structs are appended, in a walk. -/
theorem wpList_appEls {α : Type} {sz : Nat} {El : (Value → Prop) → World → Array Value → α → Prop} (E : ElOK sz El) {t e : TypeId} {z : Value} {bytes : Nat} (ht : Try.prog.underlying t = some (.slice e)) (hinfo : (Try.prog.info? e).map (fun i => (i.zero, i.size, i.bytes)) = some (some z, sz, bytes)) (hzs : z.cells.size = sz) (hsz : 0 < sz)
    {ops : Array Oper} {rest : List Oper} {o : Oper} {a : Act} {w : World} {Q : Exit → Act → World → Prop} (s x : Operand)
    (ho : o.op = .call { callee := .builtin .append, args := #[s, x], argTypes := #[t, t] }) (hw : Region.wanted o (yielded ops a.tmps) = true)
    (B : Nat) (v : Value) (ds : List α) (hs : a.eval s = v) (hown : OwnEl El e sz w B v ds) (y : Value) (es : List α) (hx : a.eval x = y) (hy : ElV El sz w y es) (hAll : ∀ {P : Value → Prop} {X d}, El (fun _ => True) w X d → El P w X d)
    (h47 : (ds.length + es.length) * bytes ≤ 140737488355328) (hm : ds.length + es.length ≤ maxLen) (hB : B ≤ w.heap.size)
    (h : ∀ v' w', OwnEl El e sz w' B v' (ds ++ es) → w.grownBy w' v.ownBlock → wpList Try.prog ops Q rest (a.put o.dst v') w') : wpList Try.prog ops Q (o :: rest) a w :=
  BigFrame.wpList_want hw fun _ hK => by
    obtain ⟨ya, yc, rfl, _, hr⟩ := hy
    obtain ⟨v', w', h1, h2, h3, h4⟩ : ∃ v' w', (Builtin.append_ #[t, t] o.type #[v, .slice ya es.length yc]).run Try.prog w = .ok v' w' ∧ OwnEl El e sz w' B v' (ds ++ es) ∧ w.grownBy w' v.ownBlock ∧ (v'.ownBlock = v.ownBlock ∨ v'.ownBlock = some w.heap.size) := by
      rcases hr with h0 | ⟨b, off, rfl, _, Xs, h5, h6⟩
      · have : es = [] := List.eq_nil_of_length_eq_zero h0
        subst this
        exact run_appEls E (ty := o.type) ht hinfo hzs hsz w B v ds hown ya yc [] [] (.inl rfl) (AllEl.nil _ _) h47 hm hB
      · exact run_appEls E (ty := o.type) ht hinfo hzs hsz w B v ds hown _ yc es Xs (.inr ⟨b, off, rfl, h5⟩) (h6.imp fun X d hX => hAll hX) h47 hm hB
    unfold Oper.wp execOp
    simp only [ho, resolve, invoke, builtin, Sem.run_bind, Sem.run_pure, Result.andThen_ok, List.map_toArray, List.map_cons, List.map_nil, hs, hx, h1]
    exact hK _ _ (h v' w' h2 h3)

theorem row_votes {w : World} {g cap : Nat} {vs : List VoD} (h : RowB w g (vs.map VoD.cells)) (ho : ∀ v ∈ vs, v.ok) (hl : vs.length ≤ maxLen) : VotesV w (.slice (some ⟨g, 0, none⟩) vs.length cap) vs := by
  refine ⟨_, _, rfl, hl, .inr ⟨g, 0, rfl, h.lt, vs.map fun v => v.cells.toArray, ?_, by simp, ?_⟩⟩
  · have e : rowsL (vs.map fun v => v.cells.toArray) = (vs.map VoD.cells).flatten := by simp [rowsL, List.map_map, Function.comp_def]
    rw [e]; exact h.range
  · intro p hp
    obtain ⟨i, hi, rfl⟩ := List.mem_iff_getElem.1 hp
    simp only [List.length_zip, List.length_map] at hi
    simp only [List.getElem_zip, List.getElem_map]
    exact ⟨rfl, ho _ (List.getElem_mem _)⟩

theorem VotesV.oks {w : World} {v : Value} {vs : List VoD} (h : VotesV w v vs) : ∀ d ∈ vs, d.ok := by
  obtain ⟨a, c, rfl, _, hr⟩ := h
  rcases hr with h0 | ⟨b, off, _, _, Xs, _, h2⟩
  · rw [List.eq_nil_of_length_eq_zero h0]; simp
  · intro d hd
    obtain ⟨i, hi, rfl⟩ := List.mem_iff_getElem.1 hd
    exact (h2.at hi).2

def RCastI (w : World) (g : Nat) (vs : List VoD) (ep : Int) (r l : List Int) (X : Array Value) (c i : Value) (wr : World) : Prop :=
  ∃ k : Nat, k ≤ l.length ∧ i = .int .i64 k ∧ c = .int .i64 (castK vs ep r l k).2 ∧ RowB wr g ((castK vs ep r l k).1.map VoD.cells) ∧ Blk wr w.heap.size X ∧ Below w.heap.size w wr

/-- A row that is the call's own. -/
def VNew (w : World) (N : Nat) (v : Value) (vs : List VoD) : Prop := VotesV w v vs ∧ New N v

set_option maxHeartbeats 8000000 in
theorem rcast_any (vv : Value) (vs : List VoD) (e : Int) (r : List Int) (v : Value) (l : List Int) (w : World) (hV : VotesV w vv vs) (hvl : vs.length ≤ 1024) (he : 0 ≤ e ∧ e ≤ 18446744073709551615) (hr : IsBytes 32 r) (hI : IntsV w v l) (hok : vlE l vs.length = 0) :
    Calls Try.prog 16 #[vv, .int .u64 e, .agg (bytesL r).toArray, v] w fun en w' => ∃ v', en = .returned (.tuple #[v', .int .i64 (castR vs e r l).2]) ∧ VNew w' w.heap.size v' (castR vs e r l).1 ∧ Below w.heap.size w w' := by
  have HVO := Lib.hid hV.oks
  have HV := Lib.hid hV
  have HR := Lib.hid hr
  have HE := Lib.hid he
  have HI := Lib.hid hI
  have HVL := Lib.hid hvl
  obtain ⟨va, vc, rfl, _⟩ := hV.shape
  obtain ⟨X, hX⟩ : ∃ X, Hid ((bytesL r).toArray = X) := ⟨_, rfl⟩
  rw [hX.out]
  have HBA := Lib.hid ((Below.refl w.heap.size w).alloc (Nat.le_refl _) (.cells X 31))
  have HBX : Hid (Blk (w.alloc (.cells X 31)) w.heap.size X) := Blk.new rfl
  obtain ⟨m, hm⟩ : ∃ m, Hid (vs.length = m) := ⟨_, rfl⟩
  rw [hm.out] at hvl ⊢
  have HVm : Hid (VotesV w (.slice va m vc) vs) := by show VotesV w (.slice va m vc) vs; rw [← hm.out]; exact HV.out
  obtain ⟨a, len, cap, rfl, hlen, hmax, _⟩ := hI.1
  unfold maxLen at hmax
  have HLEN := Lib.hid hlen
  have HC := Lib.hid (castR_yes (e := e) (r := r) (l := l) (vs := vs) hok)
  have HG := Lib.hid (vl_good hok)
  have hvpos : 0 < vs.length := by obtain ⟨h1, h2⟩ := HG.out; have := h2 0 h1; omega
  have HVP := Lib.hid hvpos
  have HCO := Lib.hid (castK_ok (l := l) HVO.out HE.out HR.out)
  have hz3 : (Value.agg zeV.cells.toArray).cells.size = 34 := rfl
  have HIN : Hid ((Try.prog.info? 33).map (fun i => (i.zero, i.size, i.bytes)) = some (some (.agg zeV.cells.toArray), 34, 48)) := info_vote
  obtain ⟨Z, hZ⟩ : ∃ Z, zeV.cells.toArray = Z := ⟨_, rfl⟩
  have hsz : Z.size = 34 := by rw [← hZ]; rfl
  obtain ⟨hz34, hst⟩ := zero_array (P := Try.prog) (t := 33) (n := 34) Z (by rw [← hZ]; kernel_rfl) hsz (by rw [← hZ]; kernel_rfl)
  rw [hZ] at hz3 HIN
  have HZ3 := Lib.hid hz3
  clear hV hr hI he hlen hst hZ hok hvpos hz3
  go_enter Try.func16, Try.ntmps16
  go_wp2_with ((with_reducible refine at_app (.const (.slice none 0 0)) (.tmp 14) ?_); refine wpList_appEls voOK Try.underlying27 HIN.out HZ3.out (by omega) _ _ rfl rfl (w.heap.size + 1) (.slice none 0 0) [] rfl (OwnEl.nil _ _) _ vs rfl (HVm.out.call HBA.out) (fun h => h) (by have := HVL.out; simp; omega) (by have := HVL.out; unfold maxLen; simp; omega) (by simp) ?_; intro v1 w1 hown1 hg1; rw [List.nil_append] at hown1; have HOW1 := Lib.hid hown1; have HG1 := Lib.hid hg1; clear hown1 hg1)
  have hsh : ∃ g cap2, v1 = .slice (some ⟨g, 0, none⟩) m cap2 := by
    obtain ⟨Xs, h3, _⟩ := HOW1.out
    rcases h3.2 with ⟨e, h⟩ | ⟨s, cap, cur, e, _⟩
    · have := HVP.out; omega
    · exact ⟨s, cap, by rw [e, hm.out]⟩
  obtain ⟨g, cap2, rfl⟩ := hsh
  have hrow := HOW1.out.rowB voOK (enc := VoD.cells) (fun h => h.1)
  have HRW := Lib.hid hrow.1
  have HGL := Lib.hid hrow.2.1
  have hb1 : Below w.heap.size w w1 := HBA.out.grown HG1.out (by simp) (by intro k hk; cases hk)
  have HBX1 := Lib.hid (HBX.out.grown HG1.out (by simp [Value.ownBlock]))
  have HB1 := Lib.hid hb1
  clear hrow hb1 HOW1 HG1
  go_loopw [11, 12] (fun c i wr => RCastI w g vs e r l X c i wr) (fun _ i _ => len - (intOf i).toNat)
  case atStart => exact ⟨0, Nat.zero_le _, rfl, rfl, HRW.out, HBX1.out, HB1.out⟩
  case round =>
    obtain ⟨k, hk, rfl, rfl, hti, hbx, hbl⟩ := hrel
    have HTM0 : (castK vs e r l k).1.length = m := by rw [castK_len _ _ _ _ k hk, hm.out]
    have HTO0 := HCO.out k hk
    have HCN := Lib.hid (castK_cnt vs e r l k hk)
    have HNX := Lib.hid (fun hk => castK_succ (vs := vs) (e := e) (r := r) (l := l) (k := k) hk)
    rw [HLEN.out] at hk
    obtain ⟨P, hP⟩ : ∃ P, castK vs e r l k = P := ⟨_, rfl⟩
    obtain ⟨T, n⟩ := P
    rw [hP] at hti HTM0 HCN HNX HTO0 ⊢
    simp only at hti HTM0 HCN HNX HTO0 ⊢
    have HP := Lib.hid hP
    have HTI := Lib.hid hti
    have HTM := Lib.hid HTM0
    have HTO := Lib.hid HTO0
    have HBXr := Lib.hid hbx
    have HBL := Lib.hid hbl
    have HN := HCN.out
    clear hti HTM0 HTO0 hbx hbl hP
    by_cases hlt : k < len
    case neg =>
      obtain rfl : k = len := by omega
      go_wp2_with fail
      go_ret2
      have e1 : castR vs e r l = (T, n) := by rw [HC.out, HLEN.out]; exact HP.out
      refine ⟨.slice (some ⟨g, 0, none⟩) m cap2, by rw [e1]; rfl, ⟨?_, ?_⟩, HBL.out⟩
      · rw [e1]; have := row_votes (cap := cap2) HTI.out HTO.out (by rw [HTM.out]; unfold maxLen; omega); rw [HTM.out] at this; exact this
      · intro z l' c' e' _; cases e'; have := HGL.out; show w.heap.size ≤ g; omega
    have hlt' : (k : Int) < len := by omega
    have hkl : k < l.length := by rw [HLEN.out]; exact hlt
    obtain ⟨hx0, hx1, _⟩ := HG.out.2 k hkl
    obtain ⟨rb, ro, rfl, hrb, hcw⟩ : ∃ rb ro, a = some ⟨rb, ro, none⟩ ∧ rb < w.heap.size ∧ w.cell? ⟨rb, ro + k, none⟩ = some (.int .i64 (l.getD k 0)) := by
      obtain ⟨a', n', c', e', _, _, h5⟩ := HI.out.1
      cases e'
      rcases h5 with h0 | ⟨b', off, rfl, hb', hc⟩
      · omega
      · exact ⟨b', off, rfl, hb', hc k hlt⟩
    have HNK := Lib.hid (HNX.out hkl)
    obtain ⟨j, hj⟩ : ∃ j : Nat, l.getD k 0 = j := ⟨(l.getD k 0).toNat, by omega⟩
    rw [hj] at hcw HNK hx1
    have HCW := Lib.hid hcw
    have hcx : wr.cell? ⟨rb, ro + k, none⟩ = some (.int .i64 j) := (HBL.out.cell (p := ⟨rb, ro + k, none⟩) hrb).trans hcw
    have hjm : j < m := by rw [hm.out] at hx1; omega
    have hjm' : (j : Int) < m := by omega
    have hjT : j < T.length := by rw [HTM.out]; exact hjm
    have hdo := getD_ok HTO.out j
    have HRE : Hid (wr.rangeAt g (j * 34) (T.getD j zeV).cells) := HTI.out.elem (cells34 HTO.out) (getD_cells hjT)
    have HSA := Lib.hid (fun h1 h2 => castI_same (e := e) (r := r) (T := T) (n := n) (j := j) h1 h2)
    have HNE := Lib.hid (fun h => castI_new (e := e) (r := r) (T := T) (n := n) (j := j) h)
    obtain ⟨d, hd⟩ : ∃ d, T.getD j zeV = d := ⟨_, rfl⟩
    rw [hd] at HRE hdo HSA HNE
    have hsL := VoD.len hdo
    have HOL : Hid (∀ v ∈ d.cells.toArray, v.oneCell' = true) := fun v hv => VoD.one _ v (by simpa using hv)
    have hiL : (Try.prog.info? 33).map (·.size) = some d.cells.length := by rw [hsL]; kernel_rfl
    have hiL' : (Try.prog.info? 33).map (·.size) = some d.cells.toArray.size := by rw [List.size_toArray]; exact hiL
    obtain ⟨dh, dn, dr⟩ := d
    obtain ⟨hd0, hd1, _⟩ := hdo
    obtain ⟨L, hL⟩ : ∃ L, Hid ((⟨dh, dn, dr⟩ : VoD).cells = L) := ⟨_, rfl⟩
    have HL0 : Hid (L.toArray[0]? = some (.bool dh)) := by show _ = _; rw [← hL.out]; rfl
    have HL1 : Hid (L.toArray[1]? = some (.int .u64 dn)) := by show _ = _; rw [← hL.out]; rfl
    rw [hL.out] at HRE hsL HOL hiL hiL'
    have hszL : Z.size = L.toArray.size := by rw [hsz, List.size_toArray, hsL]
    simp only at HSA HNE hd0 hd1
    have he0 := HE.out
    have hglt := HTI.out.lt
    clear HNX hx0 hx1 hj hd hcw
    have HSTEP : Hid (∀ w3 : World, RowB w3 g ((T.map VoD.cells).set j (⟨true, e, r⟩ : VoD).cells) → Blk w3 w.heap.size X → Below w.heap.size w w3 → castI e r (T, n) j = (T.set j ⟨true, e, r⟩, n + 1) → RCastI w g vs e r l X (.int .i64 (n + 1)) (.int .i64 ((k : Int) + 1)) w3) := fun w2 h1 h2 h3 h4 => ⟨k + 1, by omega, by go_num, by rw [HNK.out, h4], by rw [HNK.out, h4]; show RowB w2 g ((T.set j _).map _); rw [List.map_set]; exact h1, h2, h3⟩
    have KEEP : Hid (∀ w3 : World, RowB w3 g (T.map VoD.cells) → Blk w3 w.heap.size X → Below w.heap.size w w3 → dh = true → e ≤ dn → RCastI w g vs e r l X (.int .i64 n) (.int .i64 ((k : Int) + 1)) w3) := fun w3 h3 h4 h5 h1 h2 => ⟨k + 1, by omega, by go_num, by rw [HNK.out, HSA.out h1 h2], by rw [HNK.out, HSA.out h1 h2]; exact h3, h4, h5⟩
    obtain ⟨RL, hRL⟩ : ∃ RL, Hid (bytesL r = RL) := ⟨_, rfl⟩
    have HBV := Lib.hid (fun u => build_vo true (n := e) HR.out u)
    have hiRL : (Try.prog.info? 31).map (·.size) = some RL.length := by rw [← hRL.out, bytesL_len HR.out]; kernel_rfl
    have hNVo : (⟨true, e, r⟩ : VoD).ok := ⟨HE.out.1, HE.out.2, HR.out⟩
    obtain ⟨NV, hNV⟩ : ∃ NV, Hid ((⟨true, e, r⟩ : VoD).cells = NV) := ⟨_, rfl⟩
    rw [hRL.out, hNV.out] at HBV
    have hNVl : NV.length = 34 := by rw [← hNV.out]; exact VoD.len hNVo
    have hNV1 : Hid (∀ v ∈ NV, v.oneCell' = true) := by show ∀ v ∈ NV, _; rw [← hNV.out]; exact VoD.one _
    have hiNV : (Try.prog.info? 33).map (·.size) = some 34 := by kernel_rfl
    rw [hNV.out] at HSTEP
    clear hNVo
    by_cases hkeep : dh = true ∧ e ≤ dn
    · obtain ⟨rfl, h2⟩ := hkeep
      go_wp2_with (first
        | ((with_reducible refine at_load (.tmp 27) ?_); refine wpList_load_at 33 (.tmp 27) rfl g (j * 34) (by simp [Act.eval, Act.put]) L HRE.out _ Try.underlying33 rfl hiL rfl ?_)
        | ((with_reducible refine at_store (.tmp 13) ?_); refine wpList_store_blk rfl 33 (.tmp 13) _ rfl wr.heap.size L.toArray rfl rfl Z (Blk.new rfl) hszL hiL' HOL.out ?_; intro w2 U2 B2; have hb12 := U2.below ((Below.refl wr.heap.size wr).alloc (Nat.le_refl _) (.cells Z 33)) (Nat.le_refl _); have HB2 := Lib.hid (HBL.out.trans (hb12.mono HBL.out.size)); have HR2 := Lib.hid (HTI.out.call hb12); have HBX2 := Lib.hid (HBXr.out.call hb12); have HE2 := Lib.hid B2; have hcx2 : w2.cell? ⟨rb, ro + k, none⟩ = some (.int .i64 j) := (HB2.out.cell (p := ⟨rb, ro + k, none⟩) hrb).trans HCW.out; clear U2 B2 hb12)
        | ((with_reducible refine at_load (.tmp 29) ?_); refine wpList_load_1 4 (.tmp 29) rfl wr.heap.size 0 _ ((HE2.out.cell 0).trans HL0.out) rfl _ Try.underlying4 rfl rfl ?_)
        | ((with_reducible refine at_load (.tmp 33) ?_); refine wpList_load_1 29 (.tmp 33) rfl wr.heap.size 1 _ ((HE2.out.cell 1).trans HL1.out) rfl _ Try.underlying29 rfl rfl ?_))
      go_roundw
      case rel => exact KEEP.out _ HR2.out HBX2.out HB2.out rfl h2
      case measure => simp [intOf]; omega
    have HNEW := Lib.hid (HNE.out hkeep)
    cases dh
    case false =>
      clear KEEP
      go_wp2_with (first
        | ((with_reducible refine at_load (.tmp 27) ?_); refine wpList_load_at 33 (.tmp 27) rfl g (j * 34) (by simp [Act.eval, Act.put]) L HRE.out _ Try.underlying33 rfl hiL rfl ?_)
        | ((with_reducible refine at_store (.tmp 13) ?_); refine wpList_store_blk rfl 33 (.tmp 13) _ rfl wr.heap.size L.toArray rfl rfl Z (Blk.new rfl) hszL hiL' HOL.out ?_; intro w2 U2 B2; have hb12 := U2.below ((Below.refl wr.heap.size wr).alloc (Nat.le_refl _) (.cells Z 33)) (Nat.le_refl _); have HB2 := Lib.hid (HBL.out.trans (hb12.mono HBL.out.size)); have HR2 := Lib.hid (HTI.out.call hb12); have HBX2 := Lib.hid (HBXr.out.call hb12); have HE2 := Lib.hid B2; have hcx2 : w2.cell? ⟨rb, ro + k, none⟩ = some (.int .i64 j) := (HB2.out.cell (p := ⟨rb, ro + k, none⟩) hrb).trans HCW.out; clear U2 B2 hb12)
        | ((with_reducible refine at_load (.tmp 29) ?_); refine wpList_load_1 4 (.tmp 29) rfl wr.heap.size 0 _ ((HE2.out.cell 0).trans HL0.out) rfl _ Try.underlying4 rfl rfl ?_)
        | ((with_reducible refine at_load (.tmp 33) ?_); refine wpList_load_1 29 (.tmp 33) rfl wr.heap.size 1 _ ((HE2.out.cell 1).trans HL1.out) rfl _ Try.underlying29 rfl rfl ?_))
      have HS : Hid (w2.drew.cell? ⟨rb, ro + k, none⟩ = some (.int .i64 j) ∧ Blk w2.drew w.heap.size X) := ⟨hcx2, HBX2.out⟩
      have HR2d : Hid (RowB w2.drew g (T.map VoD.cells)) := HR2.out
      have HB2d : Hid (Below w.heap.size w w2.drew) := HB2.out.drew
      refine wp_region_held_drew (S := fun u => u.cell? ⟨rb, ro + k, none⟩ = some (.int .i64 j) ∧ Blk u w.heap.size X) (by kernel_rfl) (HS.out) (fun _ => ?_)
      (try simp only [Act.put, List.setIfInBounds_toArray, List.set_cons_zero, List.set_cons_succ])
      refine wpAnyH_take (i := 0) (oi := ⟨some 38, _, _, _, _, _⟩) (v := .slice (some ⟨g, 0, none⟩) m cap2) rfl (by kernel_rfl) (by kernel_rfl) (by kernel_rfl) (fun _ _ _ h => h) (Or.inl ⟨by rfl, fun wz hz => ?_⟩) HS.out ?_
      · clear hz; go_simp; first | done | with_reducible rfl | rfl
      (try simp only [Act.put, List.setIfInBounds_toArray, List.set_cons_zero, List.set_cons_succ])
      refine wpAnyH_take (i := 1) (oi := ⟨some 39, _, _, _, _, _⟩) (v := .slice (some ⟨rb, ro, none⟩) len cap) rfl (by kernel_rfl) (by kernel_rfl) (by kernel_rfl) (fun _ _ _ h => h) (Or.inl ⟨by rfl, fun wz hz => ?_⟩) HS.out ?_
      · clear hz; go_simp; first | done | with_reducible rfl | rfl
      (try simp only [Act.put, List.setIfInBounds_toArray, List.set_cons_zero, List.set_cons_succ])
      refine wpAnyH_take (i := 2) (oi := ⟨some 40, _, _, _, _, _⟩) (v := .int .i64 k) rfl (by kernel_rfl) (by kernel_rfl) (by kernel_rfl) (fun _ _ _ h => h) (Or.inl ⟨by rfl, fun wz hz => ?_⟩) HS.out ?_
      · clear hz; go_simp; first | done | with_reducible rfl | rfl
      (try simp only [Act.put, List.setIfInBounds_toArray, List.set_cons_zero, List.set_cons_succ])
      refine wpAnyH_take (i := 3) (oi := ⟨some 41, _, _, _, _, _⟩) (v := .pointer (some ⟨rb, ro + k, none⟩)) rfl (by kernel_rfl) (by kernel_rfl) (by kernel_rfl) (fun _ _ _ h => h) (Or.inl ⟨by rfl, fun wz hz => ?_⟩) HS.out ?_
      · clear hz; go_simp; first | done | with_reducible rfl | rfl
      (try simp only [Act.put, List.setIfInBounds_toArray, List.set_cons_zero, List.set_cons_succ])
      refine held_load1 (oi := ⟨some 42, _, _, _, _, _⟩) 4 rfl (by kernel_rfl) (by kernel_rfl) (by kernel_rfl) (fun _ _ _ _ h => h) rfl 3 (.tmp 41) rfl rb (ro + k) rfl (.int .i64 j) _ (fun u' hu => hu.1) Try.underlying3 rfl HS.out ?_
      (try simp only [Act.put, List.setIfInBounds_toArray, List.set_cons_zero, List.set_cons_succ])
      refine wpAnyH_take (i := 5) (oi := ⟨some 43, _, _, _, _, _⟩) (v := .int .u64 e) rfl (by kernel_rfl) (by kernel_rfl) (by kernel_rfl) (fun _ _ _ h => h) (Or.inl ⟨by rfl, fun wz hz => ?_⟩) HS.out ?_
      · clear hz; go_simp; first | done | with_reducible rfl | rfl
      (try simp only [Act.put, List.setIfInBounds_toArray, List.set_cons_zero, List.set_cons_succ])
      refine held_load (oi := ⟨some 44, _, _, _, _, _⟩) 6 rfl (by kernel_rfl) (by kernel_rfl) (by kernel_rfl) (fun _ _ _ _ h => h) rfl 31 (.tmp 6) rfl w.heap.size (0) rfl RL _ (fun u' hu => by rw [← hRL.out]; exact (hX.out ▸ hu.2 : Blk u' w.heap.size (bytesL r).toArray).range) Try.underlying31 rfl (hiRL) HS.out ?_
      (try simp only [Act.put, List.setIfInBounds_toArray, List.set_cons_zero, List.set_cons_succ])
      refine held_build (oi := ⟨some 45, _, _, _, _, _⟩) 7 rfl (by kernel_rfl) (by kernel_rfl) (by kernel_rfl) (fun _ _ _ _ h => h) rfl 33 _ rfl #[(0, .bool true), (1, .int .u64 e), (2, .agg RL.toArray)] (by simp [Act.eval]) (.agg NV.toArray) (HBV.out) HS.out ?_
      (try simp only [Act.put, List.setIfInBounds_toArray, List.set_cons_zero, List.set_cons_succ])
      refine wpAnyH_take (i := 8) (oi := ⟨some 46, _, _, _, _, _⟩) (v := .pointer (some ⟨g, j * 34, none⟩)) rfl (by kernel_rfl) (by kernel_rfl) (by kernel_rfl) (fun _ _ _ h => h) (Or.inl ⟨by rfl, fun wz hz => ?_⟩) HS.out ?_
      · clear hz; go_simp; first | done | with_reducible rfl | rfl
      (try simp only [Act.put, List.setIfInBounds_toArray, List.set_cons_zero, List.set_cons_succ])
      refine wpAnyH_ready (rs := [9]) (by kernel_rfl) (by simp) ?_
      refine AllReadyH.cons rfl (fun K hK => ?_) AllReadyH.nil
      rw [if_pos (by rfl)]
      refine wp_store_row 33 (.tmp 46) (.tmp 45) rfl g 34 j (T.map VoD.cells) NV HR2d.out (cells34 HTO.out) (by rw [List.length_map, HTM.out]; exact hjm) (by simp [Act.eval]) (by simp [Act.eval]) hNVl hiNV hNV1.out ?_
      intro w3 U3 B3
      have HR3 := Lib.hid B3; have HX3 := Lib.hid (U3.blk HS.out.2 (by have := HGL.out; omega)); have HB3 := Lib.hid (U3.below HB2d.out (by have := HGL.out; omega))
      have HC3 : Hid (w3.cell? ⟨rb, ro + k, none⟩ = some (.int .i64 j)) := (HB3.out.cell (p := ⟨rb, ro + k, none⟩) hrb).trans HCW.out
      clear U3 B3
      refine hK.out _ _ (⟨HC3.out, HX3.out⟩) (fun _ => ?_)
      clear hK K
      (try simp only [Act.put, List.setIfInBounds_toArray, List.set_cons_zero, List.set_cons_succ])
      refine wpAnyH_done (by kernel_rfl) ?_ _
      go_wp2_with fail
      go_roundw
      case rel => exact HSTEP.out _ HR3.out HX3.out HB3.out HNEW.out
      case measure => simp [intOf]; omega
    case true =>
      have hlt2 : dn < e := by simp at hkeep; omega
      clear KEEP hkeep
      go_wp2_with (first
        | ((with_reducible refine at_load (.tmp 27) ?_); refine wpList_load_at 33 (.tmp 27) rfl g (j * 34) (by simp [Act.eval, Act.put]) L HRE.out _ Try.underlying33 rfl hiL rfl ?_)
        | ((with_reducible refine at_store (.tmp 13) ?_); refine wpList_store_blk rfl 33 (.tmp 13) _ rfl wr.heap.size L.toArray rfl rfl Z (Blk.new rfl) hszL hiL' HOL.out ?_; intro w2 U2 B2; have hb12 := U2.below ((Below.refl wr.heap.size wr).alloc (Nat.le_refl _) (.cells Z 33)) (Nat.le_refl _); have HB2 := Lib.hid (HBL.out.trans (hb12.mono HBL.out.size)); have HR2 := Lib.hid (HTI.out.call hb12); have HBX2 := Lib.hid (HBXr.out.call hb12); have HE2 := Lib.hid B2; have hcx2 : w2.cell? ⟨rb, ro + k, none⟩ = some (.int .i64 j) := (HB2.out.cell (p := ⟨rb, ro + k, none⟩) hrb).trans HCW.out; clear U2 B2 hb12)
        | ((with_reducible refine at_load (.tmp 29) ?_); refine wpList_load_1 4 (.tmp 29) rfl wr.heap.size 0 _ ((HE2.out.cell 0).trans HL0.out) rfl _ Try.underlying4 rfl rfl ?_)
        | ((with_reducible refine at_load (.tmp 33) ?_); refine wpList_load_1 29 (.tmp 33) rfl wr.heap.size 1 _ ((HE2.out.cell 1).trans HL1.out) rfl _ Try.underlying29 rfl rfl ?_))
      have HS : Hid (w2.drew.cell? ⟨rb, ro + k, none⟩ = some (.int .i64 j) ∧ Blk w2.drew w.heap.size X) := ⟨hcx2, HBX2.out⟩
      have HR2d : Hid (RowB w2.drew g (T.map VoD.cells)) := HR2.out
      have HB2d : Hid (Below w.heap.size w w2.drew) := HB2.out.drew
      refine wp_region_held_drew (S := fun u => u.cell? ⟨rb, ro + k, none⟩ = some (.int .i64 j) ∧ Blk u w.heap.size X) (by kernel_rfl) (HS.out) (fun _ => ?_)
      (try simp only [Act.put, List.setIfInBounds_toArray, List.set_cons_zero, List.set_cons_succ])
      refine wpAnyH_take (i := 0) (oi := ⟨some 38, _, _, _, _, _⟩) (v := .slice (some ⟨g, 0, none⟩) m cap2) rfl (by kernel_rfl) (by kernel_rfl) (by kernel_rfl) (fun _ _ _ h => h) (Or.inl ⟨by rfl, fun wz hz => ?_⟩) HS.out ?_
      · clear hz; go_simp; first | done | with_reducible rfl | rfl
      (try simp only [Act.put, List.setIfInBounds_toArray, List.set_cons_zero, List.set_cons_succ])
      refine wpAnyH_take (i := 1) (oi := ⟨some 39, _, _, _, _, _⟩) (v := .slice (some ⟨rb, ro, none⟩) len cap) rfl (by kernel_rfl) (by kernel_rfl) (by kernel_rfl) (fun _ _ _ h => h) (Or.inl ⟨by rfl, fun wz hz => ?_⟩) HS.out ?_
      · clear hz; go_simp; first | done | with_reducible rfl | rfl
      (try simp only [Act.put, List.setIfInBounds_toArray, List.set_cons_zero, List.set_cons_succ])
      refine wpAnyH_take (i := 2) (oi := ⟨some 40, _, _, _, _, _⟩) (v := .int .i64 k) rfl (by kernel_rfl) (by kernel_rfl) (by kernel_rfl) (fun _ _ _ h => h) (Or.inl ⟨by rfl, fun wz hz => ?_⟩) HS.out ?_
      · clear hz; go_simp; first | done | with_reducible rfl | rfl
      (try simp only [Act.put, List.setIfInBounds_toArray, List.set_cons_zero, List.set_cons_succ])
      refine wpAnyH_take (i := 3) (oi := ⟨some 41, _, _, _, _, _⟩) (v := .pointer (some ⟨rb, ro + k, none⟩)) rfl (by kernel_rfl) (by kernel_rfl) (by kernel_rfl) (fun _ _ _ h => h) (Or.inl ⟨by rfl, fun wz hz => ?_⟩) HS.out ?_
      · clear hz; go_simp; first | done | with_reducible rfl | rfl
      (try simp only [Act.put, List.setIfInBounds_toArray, List.set_cons_zero, List.set_cons_succ])
      refine held_load1 (oi := ⟨some 42, _, _, _, _, _⟩) 4 rfl (by kernel_rfl) (by kernel_rfl) (by kernel_rfl) (fun _ _ _ _ h => h) rfl 3 (.tmp 41) rfl rb (ro + k) rfl (.int .i64 j) _ (fun u' hu => hu.1) Try.underlying3 rfl HS.out ?_
      (try simp only [Act.put, List.setIfInBounds_toArray, List.set_cons_zero, List.set_cons_succ])
      refine wpAnyH_take (i := 5) (oi := ⟨some 43, _, _, _, _, _⟩) (v := .int .u64 e) rfl (by kernel_rfl) (by kernel_rfl) (by kernel_rfl) (fun _ _ _ h => h) (Or.inl ⟨by rfl, fun wz hz => ?_⟩) HS.out ?_
      · clear hz; go_simp; first | done | with_reducible rfl | rfl
      (try simp only [Act.put, List.setIfInBounds_toArray, List.set_cons_zero, List.set_cons_succ])
      refine held_load (oi := ⟨some 44, _, _, _, _, _⟩) 6 rfl (by kernel_rfl) (by kernel_rfl) (by kernel_rfl) (fun _ _ _ _ h => h) rfl 31 (.tmp 6) rfl w.heap.size (0) rfl RL _ (fun u' hu => by rw [← hRL.out]; exact (hX.out ▸ hu.2 : Blk u' w.heap.size (bytesL r).toArray).range) Try.underlying31 rfl (hiRL) HS.out ?_
      (try simp only [Act.put, List.setIfInBounds_toArray, List.set_cons_zero, List.set_cons_succ])
      refine held_build (oi := ⟨some 45, _, _, _, _, _⟩) 7 rfl (by kernel_rfl) (by kernel_rfl) (by kernel_rfl) (fun _ _ _ _ h => h) rfl 33 _ rfl #[(0, .bool true), (1, .int .u64 e), (2, .agg RL.toArray)] (by simp [Act.eval]) (.agg NV.toArray) (HBV.out) HS.out ?_
      (try simp only [Act.put, List.setIfInBounds_toArray, List.set_cons_zero, List.set_cons_succ])
      refine wpAnyH_take (i := 8) (oi := ⟨some 46, _, _, _, _, _⟩) (v := .pointer (some ⟨g, j * 34, none⟩)) rfl (by kernel_rfl) (by kernel_rfl) (by kernel_rfl) (fun _ _ _ h => h) (Or.inl ⟨by rfl, fun wz hz => ?_⟩) HS.out ?_
      · clear hz; go_simp; first | done | with_reducible rfl | rfl
      (try simp only [Act.put, List.setIfInBounds_toArray, List.set_cons_zero, List.set_cons_succ])
      refine wpAnyH_ready (rs := [9]) (by kernel_rfl) (by simp) ?_
      refine AllReadyH.cons rfl (fun K hK => ?_) AllReadyH.nil
      rw [if_pos (by rfl)]
      refine wp_store_row 33 (.tmp 46) (.tmp 45) rfl g 34 j (T.map VoD.cells) NV HR2d.out (cells34 HTO.out) (by rw [List.length_map, HTM.out]; exact hjm) (by simp [Act.eval]) (by simp [Act.eval]) hNVl hiNV hNV1.out ?_
      intro w3 U3 B3
      have HR3 := Lib.hid B3; have HX3 := Lib.hid (U3.blk HS.out.2 (by have := HGL.out; omega)); have HB3 := Lib.hid (U3.below HB2d.out (by have := HGL.out; omega))
      have HC3 : Hid (w3.cell? ⟨rb, ro + k, none⟩ = some (.int .i64 j)) := (HB3.out.cell (p := ⟨rb, ro + k, none⟩) hrb).trans HCW.out
      clear U3 B3
      refine hK.out _ _ (⟨HC3.out, HX3.out⟩) (fun _ => ?_)
      clear hK K
      (try simp only [Act.put, List.setIfInBounds_toArray, List.set_cons_zero, List.set_cons_succ])
      refine wpAnyH_done (by kernel_rfl) ?_ _
      go_wp2_with fail
      go_roundw
      case rel => exact HSTEP.out _ HR3.out HX3.out HB3.out HNEW.out
      case measure => simp [intOf]; omega
end Go.Proofs.Ytoebkgjlehhbpaa
