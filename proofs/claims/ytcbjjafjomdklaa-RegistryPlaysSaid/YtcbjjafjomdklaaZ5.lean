/- Several texts as one: VoG, So, VoF, L8t, L8c, VoH, EqA, EvE, EvF, EqB, L9r, L9s. -/
import Derived.Test.YtcbjjafjomdklaaZ3
import Derived.Test.YtcbjjafjomdklaaOwL
import Derived.Test.YtcbjjafjomdklaaVa
import Derived.Test.YtcbjjafjomdklaaEvC
import Derived.Test.YtcbjjafjomdklaaEvD
import Derived.Test.YtcbjjafjomdklaaRt
import Derived.Test.YtcbjjafjomdklaaEqC
namespace Go.Proofs.Ytcbjjafjomdklaa

/-! VoG -/
section
set_option linter.unusedVariables false
set_option linter.unusedSimpArgs false
open Go.RowKit

set_option maxRecDepth 100000

/-- Several structs are appended, in a walk. -/
theorem wpList_appEls {α : Type} {sz : Nat} {El : (Value → Prop) → World → Array Value → α → Prop} (E : ElOK sz El) {t e : TypeId} {z : Value} {bytes : Nat} (ht : Try.prog.underlying t = some (.slice e)) (hinfo : (Try.prog.info? e).map (fun i => (i.zero, i.size, i.bytes)) = some (some z, sz, bytes)) (hzs : z.cells.size = sz) (hsz : 0 < sz)
    {ops : Array Oper} {rest : List Oper} {o : Oper} {a : Act} {w : World} {Q : Exit → Act → World → Prop} (s x : Operand)
    (ho : o.op = .call { callee := .builtin .append, args := #[s, x], argTypes := #[t, t] }) (hw : Region.wanted o (yielded ops a.tmps) = true)
    (B : Nat) (v : Value) (ds : List α) (hs : a.eval s = v) (hown : OwnEl El e sz w B v ds) (y : Value) (es : List α) (hx : a.eval x = y) (hy : ElV El sz w y es) (hAll : ∀ {P : Value → Prop} {X d}, El (fun _ => True) w X d → El P w X d)
    (h47 : (ds.length + es.length) * bytes ≤ 140737488355328) (hm : ds.length + es.length ≤ maxLen) (hB : B ≤ w.heap.size)
    (h : ∀ v' w', OwnEl El e sz w' B v' (ds ++ es) → w.grownBy w' v.ownBlock → wpList Try.prog ops Q rest (a.put o.dst v') w') : wpList Try.prog ops Q (o :: rest) a w :=
  BigFrame.wpList_want hw fun _ hK => by
    obtain ⟨ya, yc, rfl, _, hr⟩ := hy
    obtain ⟨v', w', h1, h2, h3, h4⟩ : ∃ v' w', (Builtin.append_ #[t, t] o.type #[v, .slice ya es.length yc]).run Try.prog w = .ok v' w' ∧ OwnEl El e sz w' B v' (ds ++ es) ∧ w.grownBy w' v.ownBlock ∧ (v'.ownBlock = v.ownBlock ∨ v'.ownBlock = some w.heap.size) := by
      rcases hr with h0 | ⟨b, off, rfl, _, Xs, h5, h6⟩
      · have : es = [] := List.eq_nil_of_length_eq_zero h0
        subst this
        exact run_appEls E (ty := o.type) ht hinfo hzs hsz w B v ds hown ya yc [] [] (.inl rfl) (AllEl.nil _ _) h47 hm hB
      · exact run_appEls E (ty := o.type) ht hinfo hzs hsz w B v ds hown _ yc es Xs (.inr ⟨b, off, rfl, h5⟩) (h6.imp fun X d hX => hAll hX) h47 hm hB
    unfold Oper.wp execOp
    simp only [ho, resolve, invoke, builtin, Sem.run_bind, Sem.run_pure, Result.andThen_ok, List.map_toArray, List.map_cons, List.map_nil, hs, hx, h1]
    exact hK _ _ (h v' w' h2 h3)

theorem row_votes {w : World} {g cap : Nat} {vs : List VoD} (h : RowB w g (vs.map VoD.cells)) (ho : ∀ v ∈ vs, v.ok) (hl : vs.length ≤ maxLen) : VotesV w (.slice (some ⟨g, 0, none⟩) vs.length cap) vs := by
  refine ⟨_, _, rfl, hl, .inr ⟨g, 0, rfl, h.lt, vs.map fun v => v.cells.toArray, ?_, by simp, ?_⟩⟩
  · have e : rowsL (vs.map fun v => v.cells.toArray) = (vs.map VoD.cells).flatten := by simp [rowsL, List.map_map, Function.comp_def]
    rw [e]; exact h.range
  · intro p hp
    obtain ⟨i, hi, rfl⟩ := List.mem_iff_getElem.1 hp
    simp only [List.length_zip, List.length_map] at hi
    simp only [List.getElem_zip, List.getElem_map]
    exact ⟨rfl, ho _ (List.getElem_mem _)⟩

theorem VotesV.oks {w : World} {v : Value} {vs : List VoD} (h : VotesV w v vs) : ∀ d ∈ vs, d.ok := by
  obtain ⟨a, c, rfl, _, hr⟩ := h
  rcases hr with h0 | ⟨b, off, _, _, Xs, _, h2⟩
  · rw [List.eq_nil_of_length_eq_zero h0]; simp
  · intro d hd
    obtain ⟨i, hi, rfl⟩ := List.mem_iff_getElem.1 hd
    exact (h2.at hi).2

def RCastI (w : World) (g : Nat) (vs : List VoD) (ep : Int) (r l : List Int) (X : Array Value) (c i : Value) (wr : World) : Prop :=
  ∃ k : Nat, k ≤ l.length ∧ i = .int .i64 k ∧ c = .int .i64 (castK vs ep r l k).2 ∧ RowB wr g ((castK vs ep r l k).1.map VoD.cells) ∧ Blk wr w.heap.size X ∧ Below w.heap.size w wr

/-- A row that is the call's own. -/
def VNew (w : World) (N : Nat) (v : Value) (vs : List VoD) : Prop := VotesV w v vs ∧ New N v

set_option maxHeartbeats 8000000 in
theorem rcast_any (vv : Value) (vs : List VoD) (e : Int) (r : List Int) (v : Value) (l : List Int) (w : World) (hV : VotesV w vv vs) (hvl : vs.length ≤ 1024) (he : 0 ≤ e ∧ e ≤ 18446744073709551615) (hr : IsBytes 32 r) (hI : IntsV w v l) (hok : vlE l vs.length = 0) :
    Calls Try.prog 12 #[vv, .int .u64 e, .agg (bytesL r).toArray, v] w fun en w' => ∃ v', en = .returned (.tuple #[v', .int .i64 (castR vs e r l).2]) ∧ VNew w' w.heap.size v' (castR vs e r l).1 ∧ Below w.heap.size w w' := by
  have HVO := Lib.hid hV.oks
  have HV := Lib.hid hV
  have HR := Lib.hid hr
  have HE := Lib.hid he
  have HI := Lib.hid hI
  have HVL := Lib.hid hvl
  obtain ⟨va, vc, rfl, _⟩ := hV.shape
  obtain ⟨X, hX⟩ : ∃ X, Hid ((bytesL r).toArray = X) := ⟨_, rfl⟩
  rw [hX.out]
  have HBA := Lib.hid ((Below.refl w.heap.size w).alloc (Nat.le_refl _) (.cells X 28))
  have HBX : Hid (Blk (w.alloc (.cells X 28)) w.heap.size X) := Blk.new rfl
  obtain ⟨m, hm⟩ : ∃ m, Hid (vs.length = m) := ⟨_, rfl⟩
  rw [hm.out] at hvl ⊢
  have HVm : Hid (VotesV w (.slice va m vc) vs) := by show VotesV w (.slice va m vc) vs; rw [← hm.out]; exact HV.out
  obtain ⟨a, len, cap, rfl, hlen, hmax, _⟩ := hI.1
  unfold maxLen at hmax
  have HLEN := Lib.hid hlen
  have HC := Lib.hid (castR_yes (e := e) (r := r) (l := l) (vs := vs) hok)
  have HG := Lib.hid (vl_good hok)
  have hvpos : 0 < vs.length := by obtain ⟨h1, h2⟩ := HG.out; have := h2 0 h1; omega
  have HVP := Lib.hid hvpos
  have HCO := Lib.hid (castK_ok (l := l) HVO.out HE.out HR.out)
  have hz3 : (Value.agg zeV.cells.toArray).cells.size = 34 := rfl
  have HIN : Hid ((Try.prog.info? 78).map (fun i => (i.zero, i.size, i.bytes)) = some (some (.agg zeV.cells.toArray), 34, 48)) := info_vote
  obtain ⟨Z, hZ⟩ : ∃ Z, zeV.cells.toArray = Z := ⟨_, rfl⟩
  have hsz : Z.size = 34 := by rw [← hZ]; rfl
  obtain ⟨hz34, hst⟩ := zero_array (P := Try.prog) (t := 78) (n := 34) Z (by rw [← hZ]; kernel_rfl) hsz (by rw [← hZ]; kernel_rfl)
  rw [hZ] at hz3 HIN
  have HZ3 := Lib.hid hz3
  clear hV hr hI he hlen hst hZ hok hvpos hz3
  go_enter Try.func12, Try.ntmps12
  go_wp2_with ((with_reducible refine at_app (.const (.slice none 0 0)) (.tmp 14) ?_); refine wpList_appEls voOK Try.underlying44 HIN.out HZ3.out (by omega) _ _ rfl rfl (w.heap.size + 1) (.slice none 0 0) [] rfl (OwnEl.nil _ _) _ vs rfl (HVm.out.call HBA.out) (fun h => h) (by have := HVL.out; simp; omega) (by have := HVL.out; unfold maxLen; simp; omega) (by simp) ?_; intro v1 w1 hown1 hg1; rw [List.nil_append] at hown1; have HOW1 := Lib.hid hown1; have HG1 := Lib.hid hg1; clear hown1 hg1)
  have hsh : ∃ g cap2, v1 = .slice (some ⟨g, 0, none⟩) m cap2 := by
    obtain ⟨Xs, h3, _⟩ := HOW1.out
    rcases h3.2 with ⟨e, h⟩ | ⟨s, cap, cur, e, _⟩
    · have := HVP.out; omega
    · exact ⟨s, cap, by rw [e, hm.out]⟩
  obtain ⟨g, cap2, rfl⟩ := hsh
  have hrow := HOW1.out.rowB voOK (enc := VoD.cells) (fun h => h.1)
  have HRW := Lib.hid hrow.1
  have HGL := Lib.hid hrow.2.1
  have hb1 : Below w.heap.size w w1 := HBA.out.grown HG1.out (by simp) (by intro k hk; cases hk)
  have HBX1 := Lib.hid (HBX.out.grown HG1.out (by simp [Value.ownBlock]))
  have HB1 := Lib.hid hb1
  clear hrow hb1 HOW1 HG1
  go_loopw [11, 12] (fun c i wr => RCastI w g vs e r l X c i wr) (fun _ i _ => len - (intOf i).toNat)
  case atStart => exact ⟨0, Nat.zero_le _, rfl, rfl, HRW.out, HBX1.out, HB1.out⟩
  case round =>
    obtain ⟨k, hk, rfl, rfl, hti, hbx, hbl⟩ := hrel
    have HTM0 : (castK vs e r l k).1.length = m := by rw [castK_len _ _ _ _ k hk, hm.out]
    have HTO0 := HCO.out k hk
    have HCN := Lib.hid (castK_cnt vs e r l k hk)
    have HNX := Lib.hid (fun hk => castK_succ (vs := vs) (e := e) (r := r) (l := l) (k := k) hk)
    rw [HLEN.out] at hk
    obtain ⟨P, hP⟩ : ∃ P, castK vs e r l k = P := ⟨_, rfl⟩
    obtain ⟨T, n⟩ := P
    rw [hP] at hti HTM0 HCN HNX HTO0 ⊢
    simp only at hti HTM0 HCN HNX HTO0 ⊢
    have HP := Lib.hid hP
    have HTI := Lib.hid hti
    have HTM := Lib.hid HTM0
    have HTO := Lib.hid HTO0
    have HBXr := Lib.hid hbx
    have HBL := Lib.hid hbl
    have HN := HCN.out
    clear hti HTM0 HTO0 hbx hbl hP
    by_cases hlt : k < len
    case neg =>
      obtain rfl : k = len := by omega
      go_wp2_with fail
      go_ret2
      have e1 : castR vs e r l = (T, n) := by rw [HC.out, HLEN.out]; exact HP.out
      refine ⟨.slice (some ⟨g, 0, none⟩) m cap2, by rw [e1]; rfl, ⟨?_, ?_⟩, HBL.out⟩
      · rw [e1]; have := row_votes (cap := cap2) HTI.out HTO.out (by rw [HTM.out]; unfold maxLen; omega); rw [HTM.out] at this; exact this
      · intro z l' c' e' _; cases e'; have := HGL.out; show w.heap.size ≤ g; omega
    have hlt' : (k : Int) < len := by omega
    have hkl : k < l.length := by rw [HLEN.out]; exact hlt
    obtain ⟨hx0, hx1, _⟩ := HG.out.2 k hkl
    obtain ⟨rb, ro, rfl, hrb, hcw⟩ : ∃ rb ro, a = some ⟨rb, ro, none⟩ ∧ rb < w.heap.size ∧ w.cell? ⟨rb, ro + k, none⟩ = some (.int .i64 (l.getD k 0)) := by
      obtain ⟨a', n', c', e', _, _, h5⟩ := HI.out.1
      cases e'
      rcases h5 with h0 | ⟨b', off, rfl, hb', hc⟩
      · omega
      · exact ⟨b', off, rfl, hb', hc k hlt⟩
    have HNK := Lib.hid (HNX.out hkl)
    obtain ⟨j, hj⟩ : ∃ j : Nat, l.getD k 0 = j := ⟨(l.getD k 0).toNat, by omega⟩
    rw [hj] at hcw HNK hx1
    have HCW := Lib.hid hcw
    have hcx : wr.cell? ⟨rb, ro + k, none⟩ = some (.int .i64 j) := (HBL.out.cell (p := ⟨rb, ro + k, none⟩) hrb).trans hcw
    have hjm : j < m := by rw [hm.out] at hx1; omega
    have hjm' : (j : Int) < m := by omega
    have hjT : j < T.length := by rw [HTM.out]; exact hjm
    have hdo := getD_ok HTO.out j
    have HRE : Hid (wr.rangeAt g (j * 34) (T.getD j zeV).cells) := HTI.out.elem (cells34 HTO.out) (getD_cells hjT)
    have HSA := Lib.hid (fun h1 h2 => castI_same (e := e) (r := r) (T := T) (n := n) (j := j) h1 h2)
    have HNE := Lib.hid (fun h => castI_new (e := e) (r := r) (T := T) (n := n) (j := j) h)
    obtain ⟨d, hd⟩ : ∃ d, T.getD j zeV = d := ⟨_, rfl⟩
    rw [hd] at HRE hdo HSA HNE
    have hsL := VoD.len hdo
    have HOL : Hid (∀ v ∈ d.cells.toArray, v.oneCell' = true) := fun v hv => VoD.one _ v (by simpa using hv)
    have hiL : (Try.prog.info? 78).map (·.size) = some d.cells.length := by rw [hsL]; kernel_rfl
    have hiL' : (Try.prog.info? 78).map (·.size) = some d.cells.toArray.size := by rw [List.size_toArray]; exact hiL
    obtain ⟨dh, dn, dr⟩ := d
    obtain ⟨hd0, hd1, _⟩ := hdo
    obtain ⟨L, hL⟩ : ∃ L, Hid ((⟨dh, dn, dr⟩ : VoD).cells = L) := ⟨_, rfl⟩
    have HL0 : Hid (L.toArray[0]? = some (.bool dh)) := by show _ = _; rw [← hL.out]; rfl
    have HL1 : Hid (L.toArray[1]? = some (.int .u64 dn)) := by show _ = _; rw [← hL.out]; rfl
    rw [hL.out] at HRE hsL HOL hiL hiL'
    have hszL : Z.size = L.toArray.size := by rw [hsz, List.size_toArray, hsL]
    simp only at HSA HNE hd0 hd1
    have he0 := HE.out
    have hglt := HTI.out.lt
    clear HNX hx0 hx1 hj hd hcw
    have HSTEP : Hid (∀ w3 : World, RowB w3 g ((T.map VoD.cells).set j (⟨true, e, r⟩ : VoD).cells) → Blk w3 w.heap.size X → Below w.heap.size w w3 → castI e r (T, n) j = (T.set j ⟨true, e, r⟩, n + 1) → RCastI w g vs e r l X (.int .i64 (n + 1)) (.int .i64 ((k : Int) + 1)) w3) := fun w2 h1 h2 h3 h4 => ⟨k + 1, by omega, by go_num, by rw [HNK.out, h4], by rw [HNK.out, h4]; show RowB w2 g ((T.set j _).map _); rw [List.map_set]; exact h1, h2, h3⟩
    have KEEP : Hid (∀ w3 : World, RowB w3 g (T.map VoD.cells) → Blk w3 w.heap.size X → Below w.heap.size w w3 → dh = true → e ≤ dn → RCastI w g vs e r l X (.int .i64 n) (.int .i64 ((k : Int) + 1)) w3) := fun w3 h3 h4 h5 h1 h2 => ⟨k + 1, by omega, by go_num, by rw [HNK.out, HSA.out h1 h2], by rw [HNK.out, HSA.out h1 h2]; exact h3, h4, h5⟩
    obtain ⟨RL, hRL⟩ : ∃ RL, Hid (bytesL r = RL) := ⟨_, rfl⟩
    have HBV := Lib.hid (fun u => build_vo true (n := e) HR.out u)
    have hiRL : (Try.prog.info? 28).map (·.size) = some RL.length := by rw [← hRL.out, bytesL_len HR.out]; kernel_rfl
    have hNVo : (⟨true, e, r⟩ : VoD).ok := ⟨HE.out.1, HE.out.2, HR.out⟩
    obtain ⟨NV, hNV⟩ : ∃ NV, Hid ((⟨true, e, r⟩ : VoD).cells = NV) := ⟨_, rfl⟩
    rw [hRL.out, hNV.out] at HBV
    have hNVl : NV.length = 34 := by rw [← hNV.out]; exact VoD.len hNVo
    have hNV1 : Hid (∀ v ∈ NV, v.oneCell' = true) := by show ∀ v ∈ NV, _; rw [← hNV.out]; exact VoD.one _
    have hiNV : (Try.prog.info? 78).map (·.size) = some 34 := by kernel_rfl
    rw [hNV.out] at HSTEP
    clear hNVo
    by_cases hkeep : dh = true ∧ e ≤ dn
    · obtain ⟨rfl, h2⟩ := hkeep
      go_wp2_with (first
        | ((with_reducible refine at_load (.tmp 27) ?_); refine wpList_load_at 78 (.tmp 27) rfl g (j * 34) (by simp [Act.eval, Act.put]) L HRE.out _ Try.underlying78 rfl hiL rfl ?_)
        | ((with_reducible refine at_store (.tmp 13) ?_); refine wpList_store_blk rfl 78 (.tmp 13) _ rfl wr.heap.size L.toArray rfl rfl Z (Blk.new rfl) hszL hiL' HOL.out ?_; intro w2 U2 B2; have hb12 := U2.below ((Below.refl wr.heap.size wr).alloc (Nat.le_refl _) (.cells Z 78)) (Nat.le_refl _); have HB2 := Lib.hid (HBL.out.trans (hb12.mono HBL.out.size)); have HR2 := Lib.hid (HTI.out.call hb12); have HBX2 := Lib.hid (HBXr.out.call hb12); have HE2 := Lib.hid B2; have hcx2 : w2.cell? ⟨rb, ro + k, none⟩ = some (.int .i64 j) := (HB2.out.cell (p := ⟨rb, ro + k, none⟩) hrb).trans HCW.out; clear U2 B2 hb12)
        | ((with_reducible refine at_load (.tmp 29) ?_); refine wpList_load_1 4 (.tmp 29) rfl wr.heap.size 0 _ ((HE2.out.cell 0).trans HL0.out) rfl _ Try.underlying4 rfl rfl ?_)
        | ((with_reducible refine at_load (.tmp 33) ?_); refine wpList_load_1 22 (.tmp 33) rfl wr.heap.size 1 _ ((HE2.out.cell 1).trans HL1.out) rfl _ Try.underlying22 rfl rfl ?_))
      go_roundw
      case rel => exact KEEP.out _ HR2.out HBX2.out HB2.out rfl h2
      case measure => simp [intOf]; omega
    have HNEW := Lib.hid (HNE.out hkeep)
    cases dh
    case false =>
      clear KEEP
      go_wp2_with (first
        | ((with_reducible refine at_load (.tmp 27) ?_); refine wpList_load_at 78 (.tmp 27) rfl g (j * 34) (by simp [Act.eval, Act.put]) L HRE.out _ Try.underlying78 rfl hiL rfl ?_)
        | ((with_reducible refine at_store (.tmp 13) ?_); refine wpList_store_blk rfl 78 (.tmp 13) _ rfl wr.heap.size L.toArray rfl rfl Z (Blk.new rfl) hszL hiL' HOL.out ?_; intro w2 U2 B2; have hb12 := U2.below ((Below.refl wr.heap.size wr).alloc (Nat.le_refl _) (.cells Z 78)) (Nat.le_refl _); have HB2 := Lib.hid (HBL.out.trans (hb12.mono HBL.out.size)); have HR2 := Lib.hid (HTI.out.call hb12); have HBX2 := Lib.hid (HBXr.out.call hb12); have HE2 := Lib.hid B2; have hcx2 : w2.cell? ⟨rb, ro + k, none⟩ = some (.int .i64 j) := (HB2.out.cell (p := ⟨rb, ro + k, none⟩) hrb).trans HCW.out; clear U2 B2 hb12)
        | ((with_reducible refine at_load (.tmp 29) ?_); refine wpList_load_1 4 (.tmp 29) rfl wr.heap.size 0 _ ((HE2.out.cell 0).trans HL0.out) rfl _ Try.underlying4 rfl rfl ?_)
        | ((with_reducible refine at_load (.tmp 33) ?_); refine wpList_load_1 22 (.tmp 33) rfl wr.heap.size 1 _ ((HE2.out.cell 1).trans HL1.out) rfl _ Try.underlying22 rfl rfl ?_))
      have HS : Hid (w2.drew.cell? ⟨rb, ro + k, none⟩ = some (.int .i64 j) ∧ Blk w2.drew w.heap.size X) := ⟨hcx2, HBX2.out⟩
      have HR2d : Hid (RowB w2.drew g (T.map VoD.cells)) := HR2.out
      have HB2d : Hid (Below w.heap.size w w2.drew) := HB2.out.drew
      refine wp_region_held_drew (S := fun u => u.cell? ⟨rb, ro + k, none⟩ = some (.int .i64 j) ∧ Blk u w.heap.size X) (by kernel_rfl) (HS.out) (fun _ => ?_)
      (try simp only [Act.put, List.setIfInBounds_toArray, List.set_cons_zero, List.set_cons_succ])
      refine wpAnyH_take (i := 0) (oi := ⟨some 38, _, _, _, _, _⟩) (v := .slice (some ⟨g, 0, none⟩) m cap2) rfl (by kernel_rfl) (by kernel_rfl) (by kernel_rfl) (fun _ _ _ h => h) (Or.inl ⟨by rfl, fun wz hz => ?_⟩) HS.out ?_
      · clear hz; go_simp; first | done | with_reducible rfl | rfl
      (try simp only [Act.put, List.setIfInBounds_toArray, List.set_cons_zero, List.set_cons_succ])
      refine wpAnyH_take (i := 1) (oi := ⟨some 39, _, _, _, _, _⟩) (v := .slice (some ⟨rb, ro, none⟩) len cap) rfl (by kernel_rfl) (by kernel_rfl) (by kernel_rfl) (fun _ _ _ h => h) (Or.inl ⟨by rfl, fun wz hz => ?_⟩) HS.out ?_
      · clear hz; go_simp; first | done | with_reducible rfl | rfl
      (try simp only [Act.put, List.setIfInBounds_toArray, List.set_cons_zero, List.set_cons_succ])
      refine wpAnyH_take (i := 2) (oi := ⟨some 40, _, _, _, _, _⟩) (v := .int .i64 k) rfl (by kernel_rfl) (by kernel_rfl) (by kernel_rfl) (fun _ _ _ h => h) (Or.inl ⟨by rfl, fun wz hz => ?_⟩) HS.out ?_
      · clear hz; go_simp; first | done | with_reducible rfl | rfl
      (try simp only [Act.put, List.setIfInBounds_toArray, List.set_cons_zero, List.set_cons_succ])
      refine wpAnyH_take (i := 3) (oi := ⟨some 41, _, _, _, _, _⟩) (v := .pointer (some ⟨rb, ro + k, none⟩)) rfl (by kernel_rfl) (by kernel_rfl) (by kernel_rfl) (fun _ _ _ h => h) (Or.inl ⟨by rfl, fun wz hz => ?_⟩) HS.out ?_
      · clear hz; go_simp; first | done | with_reducible rfl | rfl
      (try simp only [Act.put, List.setIfInBounds_toArray, List.set_cons_zero, List.set_cons_succ])
      refine held_load1 (oi := ⟨some 42, _, _, _, _, _⟩) 4 rfl (by kernel_rfl) (by kernel_rfl) (by kernel_rfl) (fun _ _ _ _ h => h) rfl 3 (.tmp 41) rfl rb (ro + k) rfl (.int .i64 j) _ (fun u' hu => hu.1) Try.underlying3 rfl HS.out ?_
      (try simp only [Act.put, List.setIfInBounds_toArray, List.set_cons_zero, List.set_cons_succ])
      refine wpAnyH_take (i := 5) (oi := ⟨some 43, _, _, _, _, _⟩) (v := .int .u64 e) rfl (by kernel_rfl) (by kernel_rfl) (by kernel_rfl) (fun _ _ _ h => h) (Or.inl ⟨by rfl, fun wz hz => ?_⟩) HS.out ?_
      · clear hz; go_simp; first | done | with_reducible rfl | rfl
      (try simp only [Act.put, List.setIfInBounds_toArray, List.set_cons_zero, List.set_cons_succ])
      refine held_load (oi := ⟨some 44, _, _, _, _, _⟩) 6 rfl (by kernel_rfl) (by kernel_rfl) (by kernel_rfl) (fun _ _ _ _ h => h) rfl 28 (.tmp 6) rfl w.heap.size (0) rfl RL _ (fun u' hu => by rw [← hRL.out]; exact (hX.out ▸ hu.2 : Blk u' w.heap.size (bytesL r).toArray).range) Try.underlying28 rfl (hiRL) HS.out ?_
      (try simp only [Act.put, List.setIfInBounds_toArray, List.set_cons_zero, List.set_cons_succ])
      refine held_build (oi := ⟨some 45, _, _, _, _, _⟩) 7 rfl (by kernel_rfl) (by kernel_rfl) (by kernel_rfl) (fun _ _ _ _ h => h) rfl 78 _ rfl #[(0, .bool true), (1, .int .u64 e), (2, .agg RL.toArray)] (by simp [Act.eval]) (.agg NV.toArray) (HBV.out) HS.out ?_
      (try simp only [Act.put, List.setIfInBounds_toArray, List.set_cons_zero, List.set_cons_succ])
      refine wpAnyH_take (i := 8) (oi := ⟨some 46, _, _, _, _, _⟩) (v := .pointer (some ⟨g, j * 34, none⟩)) rfl (by kernel_rfl) (by kernel_rfl) (by kernel_rfl) (fun _ _ _ h => h) (Or.inl ⟨by rfl, fun wz hz => ?_⟩) HS.out ?_
      · clear hz; go_simp; first | done | with_reducible rfl | rfl
      (try simp only [Act.put, List.setIfInBounds_toArray, List.set_cons_zero, List.set_cons_succ])
      refine wpAnyH_ready (rs := [9]) (by kernel_rfl) (by simp) ?_
      refine AllReadyH.cons rfl (fun K hK => ?_) AllReadyH.nil
      rw [if_pos (by rfl)]
      refine wp_store_row 78 (.tmp 46) (.tmp 45) rfl g 34 j (T.map VoD.cells) NV HR2d.out (cells34 HTO.out) (by rw [List.length_map, HTM.out]; exact hjm) (by simp [Act.eval]) (by simp [Act.eval]) hNVl hiNV hNV1.out ?_
      intro w3 U3 B3
      have HR3 := Lib.hid B3; have HX3 := Lib.hid (U3.blk HS.out.2 (by have := HGL.out; omega)); have HB3 := Lib.hid (U3.below HB2d.out (by have := HGL.out; omega))
      have HC3 : Hid (w3.cell? ⟨rb, ro + k, none⟩ = some (.int .i64 j)) := (HB3.out.cell (p := ⟨rb, ro + k, none⟩) hrb).trans HCW.out
      clear U3 B3
      refine hK.out _ _ (⟨HC3.out, HX3.out⟩) (fun _ => ?_)
      clear hK K
      (try simp only [Act.put, List.setIfInBounds_toArray, List.set_cons_zero, List.set_cons_succ])
      refine wpAnyH_done (by kernel_rfl) ?_ _
      go_wp2_with fail
      go_roundw
      case rel => exact HSTEP.out _ HR3.out HX3.out HB3.out HNEW.out
      case measure => simp [intOf]; omega
    case true =>
      have hlt2 : dn < e := by simp at hkeep; omega
      clear KEEP hkeep
      go_wp2_with (first
        | ((with_reducible refine at_load (.tmp 27) ?_); refine wpList_load_at 78 (.tmp 27) rfl g (j * 34) (by simp [Act.eval, Act.put]) L HRE.out _ Try.underlying78 rfl hiL rfl ?_)
        | ((with_reducible refine at_store (.tmp 13) ?_); refine wpList_store_blk rfl 78 (.tmp 13) _ rfl wr.heap.size L.toArray rfl rfl Z (Blk.new rfl) hszL hiL' HOL.out ?_; intro w2 U2 B2; have hb12 := U2.below ((Below.refl wr.heap.size wr).alloc (Nat.le_refl _) (.cells Z 78)) (Nat.le_refl _); have HB2 := Lib.hid (HBL.out.trans (hb12.mono HBL.out.size)); have HR2 := Lib.hid (HTI.out.call hb12); have HBX2 := Lib.hid (HBXr.out.call hb12); have HE2 := Lib.hid B2; have hcx2 : w2.cell? ⟨rb, ro + k, none⟩ = some (.int .i64 j) := (HB2.out.cell (p := ⟨rb, ro + k, none⟩) hrb).trans HCW.out; clear U2 B2 hb12)
        | ((with_reducible refine at_load (.tmp 29) ?_); refine wpList_load_1 4 (.tmp 29) rfl wr.heap.size 0 _ ((HE2.out.cell 0).trans HL0.out) rfl _ Try.underlying4 rfl rfl ?_)
        | ((with_reducible refine at_load (.tmp 33) ?_); refine wpList_load_1 22 (.tmp 33) rfl wr.heap.size 1 _ ((HE2.out.cell 1).trans HL1.out) rfl _ Try.underlying22 rfl rfl ?_))
      have HS : Hid (w2.drew.cell? ⟨rb, ro + k, none⟩ = some (.int .i64 j) ∧ Blk w2.drew w.heap.size X) := ⟨hcx2, HBX2.out⟩
      have HR2d : Hid (RowB w2.drew g (T.map VoD.cells)) := HR2.out
      have HB2d : Hid (Below w.heap.size w w2.drew) := HB2.out.drew
      refine wp_region_held_drew (S := fun u => u.cell? ⟨rb, ro + k, none⟩ = some (.int .i64 j) ∧ Blk u w.heap.size X) (by kernel_rfl) (HS.out) (fun _ => ?_)
      (try simp only [Act.put, List.setIfInBounds_toArray, List.set_cons_zero, List.set_cons_succ])
      refine wpAnyH_take (i := 0) (oi := ⟨some 38, _, _, _, _, _⟩) (v := .slice (some ⟨g, 0, none⟩) m cap2) rfl (by kernel_rfl) (by kernel_rfl) (by kernel_rfl) (fun _ _ _ h => h) (Or.inl ⟨by rfl, fun wz hz => ?_⟩) HS.out ?_
      · clear hz; go_simp; first | done | with_reducible rfl | rfl
      (try simp only [Act.put, List.setIfInBounds_toArray, List.set_cons_zero, List.set_cons_succ])
      refine wpAnyH_take (i := 1) (oi := ⟨some 39, _, _, _, _, _⟩) (v := .slice (some ⟨rb, ro, none⟩) len cap) rfl (by kernel_rfl) (by kernel_rfl) (by kernel_rfl) (fun _ _ _ h => h) (Or.inl ⟨by rfl, fun wz hz => ?_⟩) HS.out ?_
      · clear hz; go_simp; first | done | with_reducible rfl | rfl
      (try simp only [Act.put, List.setIfInBounds_toArray, List.set_cons_zero, List.set_cons_succ])
      refine wpAnyH_take (i := 2) (oi := ⟨some 40, _, _, _, _, _⟩) (v := .int .i64 k) rfl (by kernel_rfl) (by kernel_rfl) (by kernel_rfl) (fun _ _ _ h => h) (Or.inl ⟨by rfl, fun wz hz => ?_⟩) HS.out ?_
      · clear hz; go_simp; first | done | with_reducible rfl | rfl
      (try simp only [Act.put, List.setIfInBounds_toArray, List.set_cons_zero, List.set_cons_succ])
      refine wpAnyH_take (i := 3) (oi := ⟨some 41, _, _, _, _, _⟩) (v := .pointer (some ⟨rb, ro + k, none⟩)) rfl (by kernel_rfl) (by kernel_rfl) (by kernel_rfl) (fun _ _ _ h => h) (Or.inl ⟨by rfl, fun wz hz => ?_⟩) HS.out ?_
      · clear hz; go_simp; first | done | with_reducible rfl | rfl
      (try simp only [Act.put, List.setIfInBounds_toArray, List.set_cons_zero, List.set_cons_succ])
      refine held_load1 (oi := ⟨some 42, _, _, _, _, _⟩) 4 rfl (by kernel_rfl) (by kernel_rfl) (by kernel_rfl) (fun _ _ _ _ h => h) rfl 3 (.tmp 41) rfl rb (ro + k) rfl (.int .i64 j) _ (fun u' hu => hu.1) Try.underlying3 rfl HS.out ?_
      (try simp only [Act.put, List.setIfInBounds_toArray, List.set_cons_zero, List.set_cons_succ])
      refine wpAnyH_take (i := 5) (oi := ⟨some 43, _, _, _, _, _⟩) (v := .int .u64 e) rfl (by kernel_rfl) (by kernel_rfl) (by kernel_rfl) (fun _ _ _ h => h) (Or.inl ⟨by rfl, fun wz hz => ?_⟩) HS.out ?_
      · clear hz; go_simp; first | done | with_reducible rfl | rfl
      (try simp only [Act.put, List.setIfInBounds_toArray, List.set_cons_zero, List.set_cons_succ])
      refine held_load (oi := ⟨some 44, _, _, _, _, _⟩) 6 rfl (by kernel_rfl) (by kernel_rfl) (by kernel_rfl) (fun _ _ _ _ h => h) rfl 28 (.tmp 6) rfl w.heap.size (0) rfl RL _ (fun u' hu => by rw [← hRL.out]; exact (hX.out ▸ hu.2 : Blk u' w.heap.size (bytesL r).toArray).range) Try.underlying28 rfl (hiRL) HS.out ?_
      (try simp only [Act.put, List.setIfInBounds_toArray, List.set_cons_zero, List.set_cons_succ])
      refine held_build (oi := ⟨some 45, _, _, _, _, _⟩) 7 rfl (by kernel_rfl) (by kernel_rfl) (by kernel_rfl) (fun _ _ _ _ h => h) rfl 78 _ rfl #[(0, .bool true), (1, .int .u64 e), (2, .agg RL.toArray)] (by simp [Act.eval]) (.agg NV.toArray) (HBV.out) HS.out ?_
      (try simp only [Act.put, List.setIfInBounds_toArray, List.set_cons_zero, List.set_cons_succ])
      refine wpAnyH_take (i := 8) (oi := ⟨some 46, _, _, _, _, _⟩) (v := .pointer (some ⟨g, j * 34, none⟩)) rfl (by kernel_rfl) (by kernel_rfl) (by kernel_rfl) (fun _ _ _ h => h) (Or.inl ⟨by rfl, fun wz hz => ?_⟩) HS.out ?_
      · clear hz; go_simp; first | done | with_reducible rfl | rfl
      (try simp only [Act.put, List.setIfInBounds_toArray, List.set_cons_zero, List.set_cons_succ])
      refine wpAnyH_ready (rs := [9]) (by kernel_rfl) (by simp) ?_
      refine AllReadyH.cons rfl (fun K hK => ?_) AllReadyH.nil
      rw [if_pos (by rfl)]
      refine wp_store_row 78 (.tmp 46) (.tmp 45) rfl g 34 j (T.map VoD.cells) NV HR2d.out (cells34 HTO.out) (by rw [List.length_map, HTM.out]; exact hjm) (by simp [Act.eval]) (by simp [Act.eval]) hNVl hiNV hNV1.out ?_
      intro w3 U3 B3
      have HR3 := Lib.hid B3; have HX3 := Lib.hid (U3.blk HS.out.2 (by have := HGL.out; omega)); have HB3 := Lib.hid (U3.below HB2d.out (by have := HGL.out; omega))
      have HC3 : Hid (w3.cell? ⟨rb, ro + k, none⟩ = some (.int .i64 j)) := (HB3.out.cell (p := ⟨rb, ro + k, none⟩) hrb).trans HCW.out
      clear U3 B3
      refine hK.out _ _ (⟨HC3.out, HX3.out⟩) (fun _ => ?_)
      clear hK K
      (try simp only [Act.put, List.setIfInBounds_toArray, List.set_cons_zero, List.set_cons_succ])
      refine wpAnyH_done (by kernel_rfl) ?_ _
      go_wp2_with fail
      go_roundw
      case rel => exact HSTEP.out _ HR3.out HX3.out HB3.out HNEW.out
      case measure => simp [intOf]; omega
end

/-! So -/
section
set_option linter.unusedVariables false
set_option linter.unusedSimpArgs false
open Go.RowKit

set_option maxRecDepth 100000

/-- What Some's loop holds. -/
def SomeI (w : World) (v i : Value) (n : Nat) (wr : World) : Prop :=
  ∃ (k : Nat) (l : List Int), k ≤ n ∧ i = .int .i64 k ∧ l.length ≤ k ∧ ((∀ x ∈ l, 0 ≤ x ∧ x < k) ∧ l.Pairwise (· < ·)) ∧ OwnK .i64 3 wr w.heap.size v l ∧ Below w.heap.size w wr

theorem own_one (w : World) (B : Nat) (x : Int) (h : B ≤ w.heap.size) : OwnK .i64 3 (w.alloc (.cells #[.int .i64 x] 3)) B (.slice (some ⟨w.heap.size, 0, none⟩) 1 1) [x] :=
  World.ownsRow_lit w #[.int .i64 x] 1 h (by unfold maxLen; omega) rfl

theorem vl_sorted {l : List Int} {n : Int} (h0 : l ≠ []) (h : ∀ x ∈ l, 0 ≤ x ∧ x < n) (hs : l.Pairwise (· < ·)) : vlE l n = 0 := by
  refine vl_of (Nat.pos_of_ne_zero fun e => h0 (List.eq_nil_of_length_eq_zero e)) fun i hi => ?_
  have e : ∀ j (hj : j < l.length), l.getD j 0 = l[j] := fun j hj => by simp [List.getD, List.getElem?_eq_getElem hj]
  obtain ⟨h1, h2⟩ := h l[i] (List.getElem_mem hi)
  refine ⟨by rw [e i hi]; exact h1, by rw [e i hi]; exact h2, fun h3 => ?_⟩
  rw [e i hi, e (i - 1) (by omega)]
  exact List.pairwise_iff_getElem.1 hs _ _ _ _ (by omega)

set_option maxHeartbeats 4000000 in
theorem some_sorted (n : Nat) (k : Int) (w : World) (hn : n ≤ 60) :
    Calls Try.prog 11 #[.int .i64 n, .int .i64 k] w fun e w' => ∃ v l, e = .returned v ∧ OwnK .i64 3 w' w.heap.size v l ∧ l.length ≤ max n 1 ∧ ((∀ x ∈ l, 0 ≤ x ∧ x ≤ 1000) ∧ (0 < n → vlE l n = 0)) ∧ Below w.heap.size w w' := by
  have HII := Lib.hid info_int
  go_enter Try.func11, Try.ntmps11
  go_wp2_with fail
  go_loopw [5, 6] (fun v i wr => SomeI w v i n wr) (fun _ i _ => n - (intOf i).toNat)
  case atStart => exact ⟨0, [], Nat.zero_le _, rfl, Nat.zero_le _, ⟨by simp, List.Pairwise.nil⟩, OwnK.nil _ _ _ _, Below.refl _ _⟩
  case round =>
    obtain ⟨i, l, hi, rfl, hl, hrng, hown, hbl⟩ := hrel
    have HOW := Lib.hid hown
    have HBL := Lib.hid hbl
    have HRG := Lib.hid hrng
    obtain ⟨va, vc, rfl⟩ := hown.shapeL
    clear hown hbl hrng
    by_cases hlt : i < n
    case neg =>
      by_cases h0 : l.length = 0
      · by_cases hn0 : 0 < n
        · have hn0' : (0 : Int) < n := by omega
          rw [h0] at HOW
          rw [h0]
          go_wp2_with fail
          go_ret
          exact ⟨_, [0], rfl, own_one _ _ _ HBL.out.size, by simp; omega, ⟨by simp, fun _ => vl_sorted (by simp) (by simp; omega) (List.pairwise_singleton _ _)⟩, HBL.out.alloc HBL.out.size _⟩
        · obtain rfl : n = 0 := by omega
          rw [h0] at HOW
          rw [h0]
          go_wp2_with fail
          go_ret
          exact ⟨_, l, rfl, HOW.out, by omega, ⟨fun x hx => by have := HRG.out.1 x hx; omega, fun h => absurd h (by omega)⟩, HBL.out⟩
      · have h0' : ((l.length : Int) == 0) = false := by simp; exact fun h => h0 (by rw [h]; rfl)
        obtain ⟨m, hm⟩ : ∃ m, l.length = m := ⟨_, rfl⟩
        rw [hm] at HOW h0' ⊢
        have HM := Lib.hid hm
        clear hm h0
        go_wp2_with fail
        go_ret
        exact ⟨_, l, rfl, HOW.out, by omega, ⟨fun x hx => by have := HRG.out.1 x hx; omega, fun _ => vl_sorted (fun e => by have := HM.out; rw [e] at this; simp at this; subst this; simp at h0') (fun x hx => by have := HRG.out.1 x hx; omega) HRG.out.2⟩, HBL.out⟩
    have hlt' : (i : Int) < n := by omega
    obtain ⟨q, hq⟩ : ∃ q : Bool, (bits .and .i64 (k / 2 ^ i) 1 == 1) = q := ⟨_, rfl⟩
    obtain ⟨m, hm⟩ : ∃ m, l.length = m := ⟨_, rfl⟩
    have HM := Lib.hid hm
    rw [hm] at HOW hl ⊢
    clear hm
    cases q
    case false =>
      go_wp2_with fail
      go_roundw
      case rel => exact ⟨i + 1, l, by omega, by go_num, by rw [HM.out]; omega, ⟨fun x hx => by have := HRG.out.1 x hx; omega, HRG.out.2⟩, HOW.out, HBL.out⟩
      case measure => simp [intOf]; omega
    case true =>
      go_wp2_with ((with_reducible refine at_app (.tmp 18) (.tmp 20) ?_); refine wpList_app1 HII.out (by omega) Try.underlying45 (.tmp 18) (.tmp 20) rfl rfl w.heap.size _ l rfl (HOW.out.grown (World.grownBy_alloc _ (.cells #[.int .i64 (i : Int)] 3) none) (fun n _ => by simp)) wr.heap.size 1 (i : Int) rfl ((Blk.new rfl).cell 0) (by rw [HM.out]; omega) (by have := HBL.out.size; simp; omega) ?_; intro v3 w3 h3 g3 o3; have HOW3 := Lib.hid h3; have HG3 := Lib.hid g3; clear h3 g3 o3)
      have hbn : Below w.heap.size w (wr.alloc (.cells #[.int .i64 (i : Int)] 3)) := HBL.out.alloc HBL.out.size _
      go_roundw
      case rel => exact ⟨i + 1, l ++ [(i : Int)], by omega, by go_num, by rw [List.length_append, HM.out]; simp; omega, ⟨fun x hx => by rcases List.mem_append.1 hx with h | h; have := HRG.out.1 x h; omega; rw [List.mem_singleton.1 h]; omega, List.pairwise_append.2 ⟨HRG.out.2, List.pairwise_singleton _ _, fun x hx y hy => by rw [List.mem_singleton.1 hy]; exact (HRG.out.1 x hx).2⟩⟩, HOW3.out, hbn.grown HG3.out hbn.size (fun n e => (HOW.out.lt n e).1)⟩
      case measure => simp [intOf]; omega

theorem some_any (n : Nat) (k : Int) (w : World) (hn : n ≤ 60) :
    Calls Try.prog 11 #[.int .i64 n, .int .i64 k] w fun e w' => ∃ v l, e = .returned v ∧ OwnK .i64 3 w' w.heap.size v l ∧ l.length ≤ max n 1 ∧ (∀ x ∈ l, 0 ≤ x ∧ x ≤ 1000) ∧ Below w.heap.size w w' := by
  refine (some_sorted n k w hn).mono ?_
  rintro e w' ⟨v, l, rfl, h1, h2, h3, h4⟩
  exact ⟨v, l, rfl, h1, h2, h3.1, h4⟩
end

/-! VoF -/
section
set_option linter.unusedVariables false
set_option linter.unusedSimpArgs false
open Go.RowKit

set_option maxRecDepth 100000

/-- list: some list of validators. -/
def ListE (w : World) (e : Ending) (w' : World) : Prop := ∃ v l, e = .returned v ∧ IntsV w' v l ∧ New w.heap.size v ∧ l.length ≤ 8 ∧ Below w.heap.size w w'

theorem intsV_nil' (w : World) : IntsV w (.slice none 0 0) [] := ⟨⟨none, 0, 0, rfl, rfl, Nat.zero_le _, .inl rfl⟩, by simp⟩
end

/-! L8t -/
section
set_option linter.unusedVariables false
set_option linter.unusedSimpArgs false
open Go.RowKit

set_option maxRecDepth 100000

theorem voteV_zero (n : Nat) (i : Int) : voteV (List.replicate n zeV) i = zeV := by
  unfold voteV; split
  · rfl
  · simp [List.getD, List.getElem?_replicate]; split <;> rfl

theorem suppK_zero (n : Nat) (r : List Int) : ∀ k, suppK (List.replicate n zeV) r k = []
  | 0 => rfl
  | k + 1 => by
    have e : (List.replicate n zeV).getD k zeV = zeV := by have := voteV_zero n k; rw [voteV_nat] at this; exact this
    rw [suppK, suppK_zero n r k, e, if_neg (by intro h; cases h.1)]; rfl

theorem bz_root (u : World) : (Instr.build 28 #[]).run Try.prog u = .ok (.agg (bytesL zeroR).toArray) u := by kernel_rfl

theorem eq_zeV (w : World) : Sem.run Try.prog (Op.equalIn 10000 78 (.agg zeV.cells.toArray) (.agg zeV.cells.toArray)) w = .ok true w := by
  obtain ⟨r, h1, h2⟩ := eq_vo zeV_ok zeV_ok
  rw [h1 w, h2.2 rfl]

theorem votes_len (b g : Nat) (vs : List VoD) (n : Nat) (hn : vs.length = n) (w : World) (hV : VtI w b g vs) :
    Calls Try.prog 39 #[.pointer (some ⟨b, 0, none⟩)] w fun e w' => ∃ a c, e = .returned (.slice a n c) ∧ Below w.heap.size w w' := by
  refine (votes_any b g vs w hV).mono ?_
  rintro e w' ⟨v', rfl, h1, h2⟩
  obtain ⟨a, c, rfl, _⟩ := h1.shape
  exact ⟨a, c, by rw [hn], h2⟩
end

/-! L8c -/
section
set_option linter.unusedVariables false
set_option linter.unusedSimpArgs false
open Go.RowKit

set_option maxRecDepth 100000

def twoV (e : Int) (r : List Int) : List VoD := [⟨true, e, r⟩, ⟨true, e, r⟩]

theorem cast_two (e : Int) (r : List Int) : castR (List.replicate 2 zeV) e r [0, 1] = (twoV e r, 2) ∧ vlE [0, 1] (List.replicate 2 zeV).length = 0 := ⟨rfl, rfl⟩

theorem supp_two (e : Int) (r : List Int) : suppK (twoV e r) r (twoV e r).length = [0, 1] := by
  show suppK (twoV e r) r (1 + 1) = [0, 1]
  rw [suppK_yes (vs := twoV e r) (r := r) (k := 1) rfl rfl]
  show suppK (twoV e r) r (0 + 1) ++ _ = [0, 1]
  rw [suppK_yes (vs := twoV e r) (r := r) (k := 0) rfl rfl]; rfl

theorem votes_row (b g : Nat) (vs : List VoD) (h0 : 0 < vs.length) (w : World) (hV : VtI w b g vs) :
    Calls Try.prog 39 #[.pointer (some ⟨b, 0, none⟩)] w fun e w' => ∃ s c, e = .returned (.slice (some ⟨s, 0, none⟩) vs.length c) ∧ RowB w' s (vs.map VoD.cells) ∧ w.heap.size ≤ s ∧ Below w.heap.size w w' := by
  refine (votes_any b g vs w hV).mono ?_
  rintro e w' ⟨v', rfl, h1, h2⟩
  obtain ⟨a, c, rfl, _⟩ := h1.shape
  have hs : ∃ s, a = some ⟨s, 0, none⟩ := by
    obtain ⟨Xs, h3, _⟩ := h1
    rcases h3.2 with ⟨e, h⟩ | ⟨s, cap, cur, e, _⟩
    · omega
    · cases e; exact ⟨s, rfl⟩
  obtain ⟨s, rfl⟩ := hs
  obtain ⟨h3, h4, _⟩ := h1.rowB voOK (enc := VoD.cells) (fun h => h.1)
  exact ⟨s, c, rfl, h3, h4, h2⟩

theorem sints_yes (v1 v2 : Value) (l : List Int) (w : World) (h1 : IntsV w v1 l) (h2 : IntsV w v2 l) :
    Calls Try.prog 24 #[v1, v2] w fun e w' => e = .returned (.bool true) ∧ Below w.heap.size w w' :=
  (sints2 v1 v2 l l w h1 h2).mono fun _ _ h => tells_true h rfl
end

/-! VoH -/
section
set_option linter.unusedVariables false
set_option linter.unusedSimpArgs false
open Go.RowKit

set_option maxRecDepth 100000

theorem eq_vsame {v : VoD} (h : v.ok) (w : World) : Sem.run Try.prog (Op.equalIn 10000 78 (.agg v.cells.toArray) (.agg v.cells.toArray)) w = .ok true w := by
  obtain ⟨r, h1, h2⟩ := eq_vo h h
  rw [h1 w, h2.2 rfl]

set_option maxHeartbeats 4000000 in
theorem svotes_yes (v1 v2 : Value) (vs : List VoD) (w : World) (h1 : VotesV w v1 vs) (h2 : VotesV w v2 vs) (hm : vs.length ≤ 1000000) :
    Calls Try.prog 23 #[v1, v2] w fun e w' => e = .returned (.bool true) ∧ Below w.heap.size w w' := by
  obtain ⟨a1, c1, rfl, _⟩ := h1.shape
  obtain ⟨a2, c2, rfl, _⟩ := h2.shape
  have H1 := Lib.hid h1
  have H2 := Lib.hid h2
  obtain ⟨m, hml⟩ : ∃ m, vs.length = m := ⟨_, rfl⟩
  rw [hml] at hm H1 H2 ⊢
  have HM := Lib.hid hml
  have hne : ((m : Int) != (m : Int)) = false := by simp
  clear h1 h2 hml
  go_enter Try.func23, Try.ntmps23
  go_wp2_with fail
  go_loopw [5] (fun i wr => ∃ k : Nat, k ≤ m ∧ i = .int .i64 k ∧ Below w.heap.size w wr) (fun i _ => m - (intOf i).toNat)
  case atStart => exact ⟨0, Nat.zero_le _, rfl, Below.refl _ _⟩
  case round =>
    obtain ⟨k, hk, rfl, hbl⟩ := hrel
    have HBL := Lib.hid hbl
    clear hbl
    by_cases hlt : k < m
    case neg =>
      obtain rfl : k = m := by omega
      go_wp2_with fail
      go_ret
      exact ⟨rfl, HBL.out⟩
    have hlt' : (k : Int) < m := by omega
    obtain ⟨b1, o1, rfl, _, hl1, hr1, hok⟩ := (H1.out.call HBL.out).elem (i := k) (by rw [HM.out]; exact hlt)
    obtain ⟨b2, o2, rfl, _, hl2, hr2, _⟩ := (H2.out.call HBL.out).elem (i := k) (by rw [HM.out]; exact hlt)
    have EQ := fun u => eq_vsame hok u
    have hiL := infoVo hok
    obtain ⟨L, hL⟩ : ∃ L, (vs.getD k zeV).cells = L := ⟨_, rfl⟩
    rw [hL] at hr1 hr2 EQ hiL
    have HR1 := Lib.hid hr1
    have HR2 := Lib.hid hr2
    clear hr1 hr2 hok hL
    go_wp2_with fail
    refine wp_region_fam2 (by kernel_rfl) (by kernel_rfl) ?_
    intro T F hT hF hG
    have C1 := Lib.hid (show ∀ u, (∃ t, u = F t) → u.rangeAt b1 (o1 + k * 34) L by rintro _ ⟨t, rfl⟩; exact Below.rng (hF t) hl1 HR1.out)
    have C2 := Lib.hid (show ∀ u, (∃ t, u = F t) → u.rangeAt b2 (o2 + k * 34) L by rintro _ ⟨t, rfl⟩; exact Below.rng (hF t) hl2 HR2.out)
    repeat (first
      | ((with_reducible refine at_qload (.tmp 19) ?_); refine wpQuiet_load_midE 78 _ rfl b1 (o1 + k * 34) (by simp [Act.eval]) L C1.out Try.underlying78 rfl hiL (by kernel_rfl) ?_; simp only [Act.put, List.setIfInBounds_toArray, List.set_cons_succ, List.set_cons_zero])
      | ((with_reducible refine at_qload (.tmp 23) ?_); refine wpQuiet_load_midE 78 _ rfl b2 (o2 + k * 34) (by simp [Act.eval]) L C2.out Try.underlying78 rfl hiL (by kernel_rfl) ?_; simp only [Act.put, List.setIfInBounds_toArray, List.set_cons_succ, List.set_cons_zero])
      | (go_big_quiet_step (fail)))
    refine wpQuiet_nil ?_
    rintro _ ⟨t, rfl⟩
    have HF := Lib.hid (HBL.out.trans ((hF t).mono HBL.out.size))
    clear C1 C2 hG
    go_wp2_with fail
    go_roundw
    case rel => exact ⟨k + 1, by omega, by go_num, HF.out⟩
    case measure => simp [intOf]; omega

def SupI (w : World) (vs : List VoD) (r : List Int) (X : Array Value) (m : Nat) (v i : Value) (wr : World) : Prop :=
  ∃ k : Nat, k ≤ m ∧ i = .int .i64 k ∧ OwnK .i64 3 wr (w.heap.size + 1) v (suppK vs r k) ∧ Blk wr w.heap.size X ∧ Below w.heap.size w wr

theorem VotesV.grownOff {w w' : World} {v : Value} {vs : List VoD} {g : Nat} (h : VotesV w v vs) (hg : w.grownBy w' (some g)) (ho : Off g v) : VotesV w' v vs := by
  obtain ⟨a, cap, rfl, hl, hr⟩ := h
  refine ⟨a, cap, rfl, hl, ?_⟩
  rcases hr with h0 | ⟨b, off, rfl, hlt, Xs, h1, h2⟩
  · exact .inl h0
  · by_cases h0 : vs.length = 0
    · exact .inl h0
    have hne : some b ≠ some g := fun e => ho _ _ _ rfl (by omega) (by cases e; rfl)
    exact .inr ⟨b, off, rfl, Nat.lt_of_lt_of_le hlt hg.size, Xs, fun j u hj => by rw [hg.cell_far ⟨b, off + j, none⟩ hlt hne]; exact h1 j u hj, h2.imp fun X d hX => hX⟩
end

/-! EqA -/
section
set_option linter.unusedVariables false
set_option linter.unusedSimpArgs false
open Go.RowKit

set_option maxRecDepth 100000

def DblP (x y : ClD) : Prop := x.target = y.target ∧ (x.source ≠ y.source ∨ x.root ≠ y.root)
instance (x y : ClD) : Decidable (DblP x y) := by unfold DblP; infer_instance

def SurP (x y : ClD) : Prop := x.source < y.source ∧ y.target < x.target
instance (x y : ClD) : Decidable (SurP x y) := by unfold SurP; infer_instance

theorem sla_or (x y : ClD) : decide (SlaP x y) = (decide (DblP x y) || decide (SurP x y) || decide (SurP y x)) := by
  rw [Bool.eq_iff_iff]
  simp only [Bool.or_eq_true, decide_eq_true_eq]
  unfold SlaP DblP SurP
  constructor
  · rintro (h | h | h)
    · exact .inl (.inl h)
    · exact .inl (.inr h)
    · exact .inr h
  · rintro ((h | h) | h)
    · exact .inl h
    · exact .inr (.inl h)
    · exact .inr (.inr h)

theorem sla_symm (x y : ClD) : decide (SlaP y x) = decide (SlaP x y) := by
  rw [Bool.eq_iff_iff]
  simp only [decide_eq_true_eq]
  unfold SlaP
  constructor
  · rintro (⟨h1, h2⟩ | h | h)
    · exact .inl ⟨h1.symm, h2.imp Ne.symm Ne.symm⟩
    · exact .inr (.inr h)
    · exact .inr (.inl h)
  · rintro (⟨h1, h2⟩ | h | h)
    · exact .inl ⟨h1.symm, h2.imp Ne.symm Ne.symm⟩
    · exact .inr (.inr h)
    · exact .inr (.inl h)

theorem sla_self (x : ClD) : decide (SlaP x x) = false := by
  simp only [decide_eq_false_iff_not]
  unfold SlaP
  rintro (⟨_, h | h⟩ | h | h)
  · exact h rfl
  · exact h rfl
  · omega
  · omega
end

/-! EvE -/
section
set_option linter.unusedVariables false
set_option linter.unusedSimpArgs false
open Go.RowKit

set_option maxRecDepth 100000

/-- The error of a slashing. -/
def vsE (x y : ClD) (l m : List Int) (n : Int) : Int :=
  if vlE l n ≠ 0 then vlE l n else if vlE m n ≠ 0 then vlE m n else if x.target < x.source ∨ y.target < y.source then 2 else if ¬ SlaP x y ∨ culI l m = [] then 20 else 0

theorem beq_len_nil {C : List Int} {n : Nat} (h : C.length = n) (hc : C = []) : ((n : Int) == 0) = true := by subst hc; simp at h; subst h; rfl

theorem beq_len_ne {C : List Int} {n : Nat} (h : C.length = n) (hc : ¬ C = []) : ((n : Int) == 0) = false := by simp; intro h0; exact hc (List.eq_nil_of_length_eq_zero (by omega))

theorem fmt_sl {x y : ClD} (hx : x.ok) (hy : y.ok) : (flatP [x.cells, y.cells]).size = 70 := by rw [flatP_size]; simp [ClD.len hx, ClD.len hy]
end

/-! EvF -/
section
set_option linter.unusedVariables false
set_option linter.unusedSimpArgs false
open Go.RowKit

set_option maxRecDepth 100000

theorem ok_cl {s t : Int} {r : List Int} {v : Value} (h1 : 0 ≤ s ∧ s ≤ 18446744073709551615) (h2 : 0 ≤ t ∧ t ≤ 18446744073709551615) (hr : IsBytes 32 r) : (⟨s, t, r, v⟩ : ClD).ok := ⟨h1, h2, hr⟩

def zeClP : List (List Value) := [[.int .u64 0], [.int .u64 0], bytesL zeroR, [.slice none 0 0]]

theorem ClD.one {x : ClD} (hv : x.v.oneCell' = true) : ∀ v ∈ x.cells, v.oneCell' = true := by
  intro v hv'
  rw [ClD.cells_eq] at hv'
  simp only [List.mem_cons, List.mem_append, List.not_mem_nil, or_false] at hv'
  rcases hv' with rfl | rfl | hv' | rfl
  · rfl
  · rfl
  · exact bytesL_one _ _ hv'
  · exact hv

/-- A slashing that lies in a block, part by part. -/
def slP (x y : ClD) : List (List Value) := [[.int .u64 x.source], [.int .u64 x.target], bytesL x.root, [x.v], [.int .u64 y.source], [.int .u64 y.target], bytesL y.root, [y.v]]

theorem slP_flat (x y : ClD) : flatP (slP x y) = flatP [x.cells, y.cells] := by simp [flatP, slP, ClD.cells_eq]

theorem slP_off {x y : ClD} (hx : x.ok) : offP (slP x y) 4 = 35 ∧ offP (slP x y) 5 = 36 ∧ offP (slP x y) 6 = 37 := by
  simp [slP, offP, bytesL_len hx.2.2]

theorem sl_off {x y : ClD} (hx : x.ok) : offP [x.cells, y.cells] 0 = 0 ∧ offP [x.cells, y.cells] 1 = 35 := by simp [offP, ClD.len hx]

/-- What a built slashing is. -/
def SlaB (n : Nat) (w : World) (v : Value) : Prop :=
  ∃ (x y : ClD) (l m : List Int), v = .agg (flatP [x.cells, y.cells]) ∧ x.ok ∧ y.ok ∧ IntsV w x.v l ∧ IntsV w y.v m ∧ l.length ≤ max n 1 ∧ m.length ≤ max n 1

theorem one_sl {v : Value} {w : World} {l : List Int} (h : IntsV w v l) : v.cells = #[v] ∧ v.oneCell' = true := by
  obtain ⟨a, n, c, rfl⟩ := ints_shape' h.1
  exact ⟨rfl, rfl⟩

/-- What holds while the slashing is being built: b: the variable's block. -/
structure SlS (n : Nat) (w : World) (Z : Array Value) (b : Nat) (u : World) (x y : ClD) : Prop where
  okx : x.ok
  oky : y.ok
  blk : Blk u b (flatP [x.cells, y.cells])
  res : Blk u w.heap.size Z
  lx : ∃ l, IntsV u x.v l ∧ Off b x.v ∧ Off w.heap.size x.v ∧ l.length ≤ max n 1
  ly : ∃ l, IntsV u y.v l ∧ Off b y.v ∧ Off w.heap.size y.v ∧ l.length ≤ max n 1
  below : Below w.heap.size w u
  lt : w.heap.size < b

theorem ints_upd {u u' : World} {b : Nat} {v : Value} {l : List Int} (h : IntsV u v l) (U : Upd b u u') (ho : Off b v) : IntsV u' v l := ⟨h.1.grownOff (upd_grown U) (fun g e => by cases e; exact ho), h.2⟩

theorem SlS.put {n : Nat} {w : World} {Z : Array Value} {b : Nat} {u u' : World} {x y x' y' : ClD} (h : SlS n w Z b u x y) (U : Upd b u u') (B : Blk u' b (flatP [x'.cells, y'.cells])) (hx : x'.ok) (hy : y'.ok) (h1 : x'.v = x.v ∨ x'.v = y.v) (h2 : y'.v = x.v ∨ y'.v = y.v) : SlS n w Z b u' x' y' := by
  obtain ⟨l, a1, a2, a3, a4⟩ := h.lx
  obtain ⟨m, b1, b2, b3, b4⟩ := h.ly
  have hl := h.lt
  refine ⟨hx, hy, B, U.blk h.res (by omega), ?_, ?_, U.below h.below (by omega), h.lt⟩
  · rcases h1 with e | e <;> rw [e]
    · exact ⟨l, ints_upd a1 U a2, a2, a3, a4⟩
    · exact ⟨m, ints_upd b1 U b2, b2, b3, b4⟩
  · rcases h2 with e | e <;> rw [e]
    · exact ⟨l, ints_upd a1 U a2, a2, a3, a4⟩
    · exact ⟨m, ints_upd b1 U b2, b2, b3, b4⟩

theorem Upd.after {b : Nat} {w w1 w2 : World} (h1 : Upd b w w1) (h2 : Upd b w1 w2) : Upd b w w2 := ⟨h2.os.trans h1.os, h2.tape.trans h1.tape, h2.output.trans h1.output, h2.size.trans h1.size, fun k hk => (h2.block k hk).trans (h1.block k hk)⟩

theorem SlS.call {n : Nat} {w : World} {Z : Array Value} {b : Nat} {u u' : World} {x y : ClD} (h : SlS n w Z b u x y) (hb : Below u.heap.size u u') : SlS n w Z b u' x y := by
  obtain ⟨l, a1, a2, a3, a4⟩ := h.lx
  obtain ⟨m, b1, b2, b3, b4⟩ := h.ly
  exact ⟨h.okx, h.oky, h.blk.call hb, h.res.call hb, ⟨l, a1.below hb, a2, a3, a4⟩, ⟨m, b1.below hb, b2, b3, b4⟩, h.below.trans (hb.mono h.below.size), h.lt⟩

theorem SlS.one {n : Nat} {w : World} {Z : Array Value} {b : Nat} {u : World} {x y : ClD} (h : SlS n w Z b u x y) : (∀ v ∈ x.cells, v.oneCell' = true) ∧ ∀ v ∈ y.cells, v.oneCell' = true := by
  obtain ⟨l, a1, _⟩ := h.lx
  obtain ⟨m, b1, _⟩ := h.ly
  exact ⟨ClD.one (one_sl a1).2, ClD.one (one_sl b1).2⟩

theorem SlS.ones {n : Nat} {w : World} {Z : Array Value} {b : Nat} {u : World} {x y : ClD} (h : SlS n w Z b u x y) : ∀ v ∈ flatP [x.cells, y.cells], v.oneCell' = true := by
  refine flatP_one ?_
  intro p hp
  rcases List.mem_cons.1 hp with rfl | hp
  · exact h.one.1
  · rw [List.mem_singleton.1 hp]; exact h.one.2

theorem SlS.done {n : Nat} {w : World} {Z : Array Value} {b : Nat} {u u' : World} {x y : ClD} (h : SlS n w Z b u x y) (U : Upd w.heap.size u u') : SlaB n u' (.agg (flatP [x.cells, y.cells])) := by
  obtain ⟨l, a1, a2, a3, a4⟩ := h.lx
  obtain ⟨m, b1, b2, b3, b4⟩ := h.ly
  exact ⟨x, y, l, m, rfl, h.okx, h.oky, ints_upd a1 U a3, ints_upd b1 U b3, a4, b4⟩

theorem SlS.parts {n : Nat} {w : World} {Z : Array Value} {b : Nat} {u : World} {x y : ClD} (h : SlS n w Z b u x y) : Blk u b (flatP (slP x y)) := h.blk.to (slP_flat x y).symm
end

/-! EqB -/
section
set_option linter.unusedVariables false
set_option linter.unusedSimpArgs false
open Go.RowKit

set_option maxRecDepth 100000

/-- A claim without a root or validators. -/
def clN (s t : Int) : ClD := ⟨s, t, zeroR, .slice none 0 0⟩

theorem clN_ok {s t : Int} (hs : 0 ≤ s ∧ s ≤ 18446744073709551615) (ht : 0 ≤ t ∧ t ≤ 18446744073709551615) : (clN s t).ok := ⟨hs, ht, zeroR_is⟩

theorem clN_one (s t : Int) : ∀ v ∈ (clN s t).cells, v.oneCell' = true := ClD.one rfl
end

/-! L9r -/
section
set_option linter.unusedVariables false
set_option linter.unusedSimpArgs false
open Go.RowKit

set_option maxRecDepth 100000

theorem same_yes (v1 v2 : Value) (l : List Int) (w : World) (h1 : IntsV w v1 l) (h2 : IntsV w v2 l) :
    Calls Try.prog 24 #[v1, v2] w fun e w' => e = .returned (.bool true) ∧ Below w.heap.size w w' :=
  (sints2 v1 v2 l l w h1 h2).mono fun _ _ h => tells_true h rfl

theorem lit_one {w : World} {g : Nat} {x : Int} {k : Nat} (h : Blk w g #[.int .i64 x]) (hx : -9223372036854775808 ≤ x ∧ x ≤ 9223372036854775807) : IntsV w (.slice (some ⟨g, 0, none⟩) 1 k) [x] := by
  refine ⟨⟨_, 1, _, rfl, rfl, by unfold maxLen; omega, .inr ⟨g, 0, rfl, h.lt, fun i hi => ?_⟩⟩, fun z hz => by simp at hz; rcases hz with rfl; exact hx⟩
  rw [Nat.zero_add, h.cell]
  rcases i with _ | i
  · rfl
  · omega

theorem lit_off {g a l c : Nat} (h : a ≠ g) : Off g (.slice (some ⟨a, 0, none⟩) l c) := fun z l' c' e _ => by cases e; exact h

theorem below_rowS {N g : Nat} {w0 w w' : World} (h : Below N w0 w) (hg : w.grownBy w' (some g)) (hN : N ≤ g) (hs : N ≤ w.heap.size) : Below N w0 w' :=
  ⟨hg.os.trans h.os, hg.tape.trans h.tape, hg.output.trans h.output, Nat.le_trans h.size hg.size, fun k hk => (hg.block k (by omega) (by simp; omega)).trans (h.block k hk)⟩

theorem mem_rng (gs : List Bool) (h : gs.length ≤ 1024) : ∀ x ∈ memS gs, -9223372036854775808 ≤ x ∧ x ≤ 9223372036854775807 := fun x hx => by
  have := memK_mem.1 hx
  omega

/-- Members where the set is empty, and where it is not. -/
theorem members_nil (b g : Nat) (gs : List Bool) (h0 : memS gs = []) (w : World) (hV : SetI w b g gs) :
    Calls Try.prog 40 #[.pointer (some ⟨b, 0, none⟩)] w fun e w' => ∃ a c, e = .returned (.slice a 0 c) ∧ Below w.heap.size w w' := by
  refine (members_any b g gs w hV).mono ?_
  rintro e w' ⟨v', rfl, h1, h2⟩
  rw [h0] at h1
  obtain ⟨a, c, rfl, _⟩ := h1.cap
  exact ⟨a, c, rfl, h2⟩

theorem members_one (b g : Nat) (gs : List Bool) (x : Int) (h0 : memS gs = [x]) (w : World) (hV : SetI w b g gs) :
    Calls Try.prog 40 #[.pointer (some ⟨b, 0, none⟩)] w fun e w' => ∃ s c, e = .returned (.slice (some ⟨s, 0, none⟩) 1 c) ∧ IntsV w' (.slice (some ⟨s, 0, none⟩) 1 c) [x] ∧ w.heap.size ≤ s ∧ s < w'.heap.size ∧ w'.frozen? ⟨s, 0, none⟩ = false ∧ w'.cell? ⟨s, 0, none⟩ = some (.int .i64 x) ∧ Below w.heap.size w w' := by
  refine (members_any b g gs w hV).mono ?_
  rintro e w' ⟨v', rfl, h1, h2⟩
  have hm : ∀ y ∈ [x], -9223372036854775808 ≤ y ∧ y ≤ 9223372036854775807 := by rw [← h0]; exact mem_rng gs hV.len
  rw [h0] at h1
  have hin : Ints .i64 w' v' [x] := h1.ints (by unfold maxLen; simp)
  have hlt := h1.lt
  rcases h1.2 with ⟨rfl, h0'⟩ | ⟨s, cap, cur, rfl, hb, hc, _⟩
  · simp at h0'
  · refine ⟨s, cap, rfl, ⟨hin, hm⟩, hb, (hlt s rfl).2, by simp [World.frozen?, hc], ?_, h2⟩
    obtain ⟨a', n', c', e', _, _, h5⟩ := hin
    cases e'
    rcases h5 with h | ⟨b', o, e'', _, hcc⟩
    · exact absurd h (by simp)
    · cases e''
      have := hcc 0 (by simp)
      simpa using this

theorem first_set {n : Nat} (hn : 0 < n) : punR (List.replicate n false) [0] = ((List.replicate n false).set 0 true, 1) ∧ vlE [0] (List.replicate n false).length = 0 ∧ memS ((List.replicate n false).set 0 true) = [0] ∧ guiV ((List.replicate n false).set 0 true) 0 = true := by
  obtain ⟨m, rfl⟩ : ∃ m, n = m + 1 := ⟨n - 1, by omega⟩
  have hv : vlE [0] (List.replicate (m + 1) false).length = 0 := by
    refine vl_of ?_ ?_
    · simp
    · intro i hi
      obtain rfl : i = 0 := by simpa using hi
      simp
  refine ⟨?_, hv, ?_, ?_⟩
  · unfold punR; rw [if_pos hv]; rfl
  · refine sorted_ext (memK_sorted _ _) (by simp) (fun x => ?_)
    show x ∈ memS _ ↔ _
    rw [memS_mem]
    unfold guiV
    simp only [List.replicate_succ, List.set_cons_zero, Bool.and_eq_true, decide_eq_true_eq, List.mem_singleton]
    constructor
    · rintro ⟨h1, h2⟩
      obtain ⟨k, rfl⟩ : ∃ k : Nat, x = k := ⟨x.toNat, by omega⟩
      rcases k with _ | k
      · rfl
      · simp [List.getD, List.getElem?_replicate] at h2
        split at h2 <;> simp at h2
    · rintro rfl
      exact ⟨by omega, rfl⟩
  · rfl
end

/-! L9s -/
section
set_option linter.unusedVariables false
set_option linter.unusedSimpArgs false
open Go.RowKit

set_option maxRecDepth 100000

theorem guiV_set {T : List Bool} {j : Nat} (hj : j < T.length) (y : Int) : guiV (T.set j true) y = true ↔ y = j ∨ guiV T y = true := by
  unfold guiV
  simp only [Bool.and_eq_true, decide_eq_true_eq]
  constructor
  · rintro ⟨h1, h2⟩
    by_cases e : y.toNat = j
    · exact .inl (by omega)
    · refine .inr ⟨h1, ?_⟩
      simpa [List.getD, List.getElem?_set_ne (Ne.symm e)] using h2
  · rintro (rfl | ⟨h1, h2⟩)
    · exact ⟨by omega, by simp [List.getD, hj]⟩
    · refine ⟨h1, ?_⟩
      by_cases e : y.toNat = j
      · rw [e]; simp [List.getD, hj]
      · simpa [List.getD, List.getElem?_set_ne (Ne.symm e)] using h2

theorem memS_sorted (gs : List Bool) : (memS gs).Pairwise (· < ·) := memK_sorted gs _

theorem punL_mem {gs : List Bool} {l : List Int} (h : ∀ i, i < l.length → 0 ≤ l.getD i 0 ∧ l.getD i 0 < gs.length) : ∀ k, k ≤ l.length → memS (punL gs l k).1 = punK (memS gs) l k ∧ (punL gs l k).2 = ((punK (memS gs) l k).length : Int) - ((memS gs).length : Int)
  | 0, _ => ⟨rfl, by rw [punL_zero, punK_zero]; simp⟩
  | k + 1, hk => by
    obtain ⟨h1, h2⟩ := punL_mem h k (by omega)
    have hl := punL_len gs l k (by omega)
    obtain ⟨x0, x1⟩ := h k (by omega)
    rw [punL_succ (by omega), punK_succ (by omega), ← h1]
    rw [← h1] at h2
    obtain ⟨x, hx⟩ : ∃ x, l.getD k 0 = x := ⟨_, rfl⟩
    rw [hx] at x0 x1 ⊢
    obtain ⟨⟨T, n⟩, hT⟩ : ∃ P, punL gs l k = P := ⟨_, rfl⟩
    rw [hT] at h2 hl ⊢
    simp only at h2 hl ⊢
    obtain ⟨j, rfl⟩ : ∃ j : Nat, x = j := ⟨x.toNat, by omega⟩
    unfold punT
    simp only [Int.toNat_natCast]
    by_cases hg : T.getD j false = true
    · rw [if_pos hg]
      have hm : (j : Int) ∈ memS T := by rw [memS_mem, guiV_nat]; exact hg
      rw [insI_has (memS_sorted T) hm]
      exact ⟨rfl, h2⟩
    · rw [if_neg hg]
      have hm : (j : Int) ∉ memS T := by rw [memS_mem, guiV_nat]; exact hg
      have e : memS (T.set j true) = insI (memS T) j := by
        refine sorted_ext (memS_sorted _) (insI_sorted (memS_sorted T)) (fun y => ?_)
        rw [memS_mem, insI_mem, memS_mem, guiV_set (by omega)]
      refine ⟨e, ?_⟩
      show n + 1 = _
      rw [insI_new (memS_sorted T) hm, h2]
      push_cast
      omega

/-- What a punishment does to the members. -/
theorem punR_yes {gs : List Bool} {l : List Int} (hv : vlE l gs.length = 0) : ∃ (G : List Bool) (c : Int), punR gs l = (G, c) ∧ G.length = gs.length ∧ memS G = punI (memS gs) l ∧ c = ((punI (memS gs) l).length : Int) - ((memS gs).length : Int) ∧ ∀ y, guiV gs y = true → guiV G y = true := by
  have hg := vl_good hv
  obtain ⟨h1, h2⟩ := punL_mem (gs := gs) (l := l) (fun i hi => ⟨(hg.2 i hi).1, (hg.2 i hi).2.1⟩) l.length (Nat.le_refl _)
  rw [punK_all] at h1 h2
  have e : punR gs l = punL gs l l.length := by unfold punR; rw [if_pos hv]
  refine ⟨(punL gs l l.length).1, (punL gs l l.length).2, by rw [e], punL_len _ _ _ (Nat.le_refl _), h1, h2, fun y hy => ?_⟩
  rw [← memS_mem] at hy ⊢
  rw [h1]
  unfold punI
  exact foldl_insI_mem.2 (.inl hy)

theorem punR_no {gs : List Bool} {l : List Int} (hv : vlE l gs.length ≠ 0) : punR gs l = (gs, 0) := by unfold punR; rw [if_neg hv]

theorem has_mem (v : Value) (gs : List Bool) (y : Int) (w : World) (h : IntsV w v (memS gs)) :
    Calls Try.prog 46 #[v, .int .i64 y] w fun e w' => e = .returned (.bool (guiV gs y)) ∧ Below w.heap.size w w' := by
  have e : decide (y ∈ memS gs) = guiV gs y := by
    rw [Bool.eq_iff_iff]; simp only [decide_eq_true_eq]; exact memS_mem
  rw [← e]
  exact has_any v _ y w h

theorem members_ints (b g : Nat) (gs : List Bool) (w : World) (hV : SetI w b g gs) :
    Calls Try.prog 40 #[.pointer (some ⟨b, 0, none⟩)] w fun e w' => ∃ v', e = .returned v' ∧ IntsV w' v' (memS gs) ∧ Below w.heap.size w w' := by
  refine (members_any b g gs w hV).mono ?_
  rintro e w' ⟨v', rfl, h1, h2⟩
  have := memK_len gs gs.length
  have := hV.len
  exact ⟨v', rfl, ⟨h1.ints (by unfold memS maxLen; omega), mem_rng gs hV.len⟩, h2⟩

theorem IntsV.call {w w' : World} {v : Value} {l : List Int} (h : IntsV w v l) (hb : Below w.heap.size w w') : IntsV w' v l := ⟨h.1.below hb, h.2⟩

theorem IntsV.off {w w' : World} {v : Value} {l : List Int} {g : Nat} (h : IntsV w v l) (hg : w.grownBy w' (some g)) (ho : Off g v) : IntsV w' v l := ⟨h.1.grownOff hg (fun g e => by cases e; exact ho), h.2⟩

theorem memS_len {gs : List Bool} {n : Nat} (h : gs.length = n) : (memS gs).length ≤ n := by
  have := memK_len gs gs.length
  unfold memS; omega

/-- The set and the list hold the same. -/
def SetsI (w : World) (n : Nat) (v : Value) (wr : World) : Prop :=
  ∃ gs : List Bool, gs.length = n ∧ SetI wr (w.heap.size + 1) w.heap.size gs ∧ IntsV wr v (memS gs) ∧ New (w.heap.size + 2) v ∧ Below w.heap.size w wr
end

end Go.Proofs.Ytcbjjafjomdklaa
