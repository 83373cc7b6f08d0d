/- The walk of the reference's Sort. -/
import Derived.Test.YtjlfacdmfcbjfaaSortM
set_option linter.unusedVariables false
namespace Go.Proofs.Ytjlfacdmfcbjfaa
open Go.RowKit Go.Shelf Go.Sort Go.Lib

theorem there_of_own {w : World} {g c k : Nat} {l : List Rt} (h : OwnR w g c l) (hk : k < l.length) : w.there g (k * 32) 32 := by
  obtain ⟨⟨cur, hc, hs⟩, hH⟩ := h
  have hr := holds_range hH (k := k) (by simp only [List.size_toArray]; exact hk)
  intro j hj
  have hl : j < (encR (l.toArray[k]!)).length := by rw [encR_len]; exact hj
  refine ⟨?_, by simp [World.frozen?, hc]⟩
  rw [hr j _ (List.getElem?_eq_getElem hl)]
  rfl

theorem below_setCells {N : Nat} {w0 : World} {g : Nat} : ∀ {vs : List Value} {o : Nat} {w : World}, Below N w0 w → N ≤ g → Below N w0 (w.setCells g o vs)
  | [], o, w, h, _ => h
  | v :: r, o, w, h, hN => below_setCells (vs := r) (o := o + 1) (h.setCell (p := ⟨g, o, none⟩) hN v) hN

set_option maxRecDepth 1000000 in
set_option maxHeartbeats 16000000 in
theorem rsort_row (b0 o0 len cap : Nat) (d : List Rt) (w : World) (h : Rts w (.slice (some ⟨b0, o0, none⟩) len cap) d) (hp : 0 < len) (h60 : len ≤ 60) :
    Calls Try.prog 36 #[.slice (some ⟨b0, o0, none⟩) len cap] w fun e w' => ∃ v', e = .returned v' ∧ Rts w' v' (uniq d) ∧ Below w.heap.size w w' := by
  have hl := h.len
  obtain ⟨b', o', e, hlt, hr⟩ := h.row hp
  cases e
  have HR := Lib.hid hr
  have HL := Lib.hid hl
  clear h hr hl
  obtain ⟨i0, hi, hz0, hz1, hz2⟩ := infoR
  obtain ⟨Z, hZ⟩ : ∃ Z, (encR default).toArray = Z := ⟨_, rfl⟩
  rw [hZ] at hz0
  have hZs : Z.size = 32 := by rw [← hZ]; exact encR_size _
  clear hZ
  go_enter Try.func36, Try.ntmps36
  go_wp2_with fail
  go_loopg [3, 4] len (fun n v i wr => ∃ (k : Nat) (l : List Rt), k ≤ len ∧ len - k ≤ n ∧ i = .int .i64 k ∧ Hid (SrtI d k l) ∧ l.length ≤ k ∧ Hid (wr.ownsRow w.heap.size 25 32 v l.length (flatR l)) ∧ Hid (Below w.heap.size w wr) ∧ ∃ p n' c, v = .slice p n' c)
  case atStart => exact ⟨0, [], by omega, by omega, rfl, ⟨by simp, by simp, by simp⟩, by simp, ⟨by rw [flatR_len], .inl ⟨rfl, rfl⟩⟩, Below.refl _ _, _, _, _, rfl⟩
  case round =>
    obtain ⟨k, l, hk, hn, rfl, HI, hlk, HO, HBr, p3, n3, c3, rfl⟩ := hrel
    by_cases hltk : k < len
    · obtain ⟨x, hx⟩ : ∃ x, d[k]! = x := ⟨_, rfl⟩
      have HX := Lib.hid (show ∀ u, Below wr.heap.size wr u → u.rangeAt b0 (o0 + k * 32) (encR x) from fun u hu => (HR.out.below hlt (bel0 HBr.out hu)).get (by rw [HL.out]; exact hltk) hx)
      have IX := infoRs x
      have HC := Lib.hid (rcontains_any _ l x wr (rts_of_owns HO.out (by unfold maxLen; omega)))
      have HXd := Lib.hid hx
      obtain ⟨r, hr⟩ : ∃ r, decide (x ∈ l) = r := ⟨_, rfl⟩
      rw [hr] at HC
      have HRr := Lib.hid hr
      clear hr hx
      cases r
      case true =>
        go_wp2_with (first
          | ((with_reducible refine at_load (.tmp 15) ?_); refine wpList_load_mid rfl 25 _ rfl b0 (o0 + k * 32) rfl (encR x) _ (HX.out _ (Below.refl _ _)) Try.underlying25 rfl IX ?_)
          | (go_at_call 38; refine HC.out.mono ?_; rintro e w1 ⟨rfl, hb1⟩))
        go_roundg (len - (k + 1))
        case measure => omega
        case rel => exact ⟨k + 1, l, by omega, Nat.le_refl _, by go_num, HI.out.old HXd.out (of_decide_eq_true HRr.out), by omega, owns_kept HO.out hb1, bel0 HBr.out hb1, _, _, _, rfl⟩
      case false =>
        go_wp2_with (first
          | ((with_reducible refine at_load (.tmp 15) ?_); refine wpList_load_mid rfl 25 _ rfl b0 (o0 + k * 32) rfl (encR x) _ (HX.out _ (Below.refl _ _)) Try.underlying25 rfl IX ?_)
          | ((with_reducible refine at_load (.tmp 21) ?_); refine wpList_load_mid rfl 25 _ rfl b0 (o0 + k * 32) rfl (encR x) _ (HX.out _ hb1) Try.underlying25 rfl IX ?_)
          | (go_at_call 38; refine HC.out.mono ?_; rintro e w1 ⟨rfl, hb1⟩; have HO1 := Lib.hid (owns_kept HO.out hb1))
          | ((with_reducible refine at_buildSlice (some 23) ?_); refine wpList_buildSlice rfl 53 1 _ rfl #[(0, .agg (encR x).toArray)] (by simp [Act.eval, Act.put]) _ (buildR x _) ?_)
          | (at_builtin; refine wpList_append_own _ rfl _ _ 53 rfl w.heap.size 25 i0 (.agg Z) 32 32 Try.underlying53 hi hz0 hz1 hz2 hZs (by decide) _ _ _ rfl (HO1.out.alloc _) ⟨w1.heap.size, 0, none⟩ 1 1 (encR x) rfl (encR_len x) ?c1 ?c2 ?c3 ?c4 ?c5 ?_))
        case c1 =>
          intro j u hj
          rw [Go.WideShapes.add_plain, Nat.zero_add, (Blk.new (w := w1) (t := 25) (n := w1.heap.size) rfl).cell]
          simpa using hj
        case c2 => exact encR_one x
        case c3 => unfold maxLen; omega
        case c4 => omega
        case c5 => simp; have := HBr.out.size; have := hb1.size; omega
        intro v' w2 hown' hgrow hnil
        have HB2 := Lib.hid (show Below w.heap.size w w2 from by
          have hlt := HO1.out.lt
          have HG : Below w.heap.size w1 w2 := ((Below.refl w.heap.size w1).alloc (by have := HBr.out.size; have := hb1.size; omega) _).grown hgrow (by simp; have := HBr.out.size; have := hb1.size; omega) (fun k hk => (hlt k hk).1)
          exact (bel0 HBr.out hb1).trans HG)
        rw [← flatR_snoc] at hown'
        have hnn : v' ≠ .slice none 0 0 := by
          intro e
          rcases hown'.2 with ⟨_, h0⟩ | ⟨g, cap, cur, e', _⟩
          · exact absurd h0 (Nat.succ_ne_zero _)
          · rw [e] at e'; cases e'
        obtain ⟨g, c2, rfl, hg, hgl, hn2, hcm, hll, hOw⟩ := OwnR.of hown' hnn
        have HOw := Lib.hid hOw
        clear hown' hnn hOw hgrow hnil
        obtain ⟨m, hm⟩ : ∃ m, l.length = m := ⟨_, rfl⟩
        rw [hm] at hlk hn2 hll ⊢
        have HM := Lib.hid hm
        go_wp2_with fail
        go_loopg [5] m (fun n i wr' => ∃ kk, kk ≤ m ∧ kk ≤ n ∧ i = .int .i64 kk ∧ Hid (Below w.heap.size w wr') ∧ Hid (OwnR wr' g c2 (l.take kk ++ x :: l.drop kk)) ∧ Hid (∀ y ∈ l.drop kk, cfR x y < 0))
        case atStart => exact ⟨m, Nat.le_refl _, Nat.le_refl _, by go_num, HB2, by rw [List.take_of_length_le (by omega), List.drop_of_length_le (by omega)]; exact HOw, by rw [List.drop_of_length_le (by omega)]; exact fun y hy => by cases hy⟩
        case round =>
          obtain ⟨kk, hkk, hkn, rfl, HBi, HOi, HAi⟩ := hrel
          rcases Nat.eq_zero_or_pos kk with hk0 | hkp
          · subst hk0
            go_wp2_with fail
            refine wp_region_fam2 (by kernel_rfl) (by kernel_rfl) ?_
            intro T F hT hF hG
            repeat (go_big_quiet_step (fail))
            refine wpQuiet_nil ?_
            rintro _ ⟨t, rfl⟩
            go_wp2_with fail
            have hbt := hF t
            go_roundg (len - (k + 1))
            case measure => omega
            case rel =>
              have e := insert_len l x (k := 0) (by omega)
              have hO := (HOi.out.below hbt).owns hg (by rw [e, HM.out]; omega) hcm
              rw [e, HM.out] at hO
              exact ⟨k + 1, l.take 0 ++ x :: l.drop 0, by omega, Nat.le_refl _, by go_num, HI.out.new HXd.out (by omega) HAi.out (.inl rfl), by rw [e]; omega, by rw [e, HM.out]; exact hO, bel0 HBi.out hbt, _, _, _, rfl⟩
          · obtain ⟨q, rfl⟩ : ∃ q, kk = q + 1 := ⟨kk - 1, by omega⟩
            have hgi : g < wr.heap.size := by
              obtain ⟨⟨cur, hc, _⟩, _⟩ := HOi.out
              exact (Array.getElem?_eq_some_iff.1 hc).1
            obtain ⟨y, hy⟩ : ∃ y, l[q]! = y := ⟨_, rfl⟩
            have HX1 := Lib.hid (show ∀ u, Below wr.heap.size wr u → u.rangeAt g ((q + 1) * 32) (encR x) from fun u hu => by
              have := holds_range (holds_below HOi.out.2 hgi hu) (k := q + 1) (by have := insert_len l x (k := q + 1) (by omega); simp only [List.size_toArray]; omega)
              rwa [insert_at l x (by omega)] at this)
            have HX2 := Lib.hid (show ∀ u, Below wr.heap.size wr u → u.rangeAt g (q * 32) (encR y) from fun u hu => by
              have := holds_range (holds_below HOi.out.2 hgi hu) (k := q) (by have := insert_len l x (k := q + 1) (by omega); simp only [List.size_toArray]; omega)
              rwa [insert_before l x (by omega), hy] at this)
            have HYq := Lib.hid (show l[q]? = some y by rw [← hy, getElem!_pos l q (by omega), List.getElem?_eq_getElem (by omega)])
            have HCm := Lib.hid (fun u => cmpR_any x.1 y.1 x.2 y.2 u)
            have IY := infoRs y
            clear hy
            obtain ⟨c, hc⟩ : ∃ c, cmpB x.1 y.1 = c := ⟨_, rfl⟩
            rw [hc] at HCm
            have HCv := Lib.hid hc
            clear hc
            have hq1 : 0 < q + 1 := Nat.succ_pos q
            have hwp : (q : Int) + 1 - 1 = (q : Int) := by omega
            by_cases hcn : c < 0
            · go_wp2_with fail
              refine wp_region_fam2 (by kernel_rfl) (by kernel_rfl) ?_
              intro T F hT hF hG
              have C1 : ∀ z, (∃ t, z = F t) → z.rangeAt g ((q + 1) * 32) (encR x) := by rintro _ ⟨t, rfl⟩; exact HX1.out _ (hF t)
              have C2 : ∀ z, (∃ t, z = F t) → z.rangeAt g (q * 32) (encR y) := by rintro _ ⟨t, rfl⟩; exact HX2.out _ (hF t)
              repeat (first
                | ((with_reducible refine at_qload (.tmp 33) ?_); refine wpQuiet_load_mid 25 _ rfl g ((q + 1) * 32) rfl (encR x) C1 Try.underlying25 rfl IX (by kernel_rfl) ?_; simp only [Act.put, List.setIfInBounds_toArray, List.set_cons_succ, List.set_cons_zero])
                | ((with_reducible refine at_qload (.tmp 38) ?_); refine wpQuiet_load_mid 25 _ rfl g (q * 32) rfl (encR y) C2 Try.underlying25 rfl IY (by kernel_rfl) ?_; simp only [Act.put, List.setIfInBounds_toArray, List.set_cons_succ, List.set_cons_zero])
                | (go_big_quiet_step ((go_at_call 55; exact fam_call hF hG (Nat.le_refl _) (HCm.out _)))))
              refine wpQuiet_nil ?_
              rintro _ ⟨t, rfl⟩
              have hbt := hF t
              obtain ⟨wv, hwv⟩ : ∃ v, F t = v := ⟨_, rfl⟩
              rw [hwv] at hbt
              rw [hwv]
              have HBt := Lib.hid hbt
              clear C1 C2 hF hG hT hwv hbt
              clear t F T
              have HOv := Lib.hid (HOi.out.below HBt.out)
              have hln := insert_len l x (k := q + 1) (by omega)
              have HLN := Lib.hid hln; clear hln
              have mixed : Try.prog.follows .mixedOrders = true := by kernel_rfl
              have hwq : IntKind.i64.wrap (q : Int) = (q : Int) := by rw [IntKind.wrap_i64]; omega
              have hq0 : (0 : Int) ≤ (q : Int) := by omega
              have hqp : (0 : Int) ≤ (q : Int) + 1 := by omega
              have hqm : q < m := by omega
              have hqm2 : (q : Int) < (m : Int) + 1 := by omega
              have hwd : Below wr.heap.size wr wv.drew := Below.drewN (n := 1) HBt.out
              have RX := Lib.hid (HX1.out wv.drew hwd)
              have RY := Lib.hid (HX2.out wv.drew hwd)
              have hOd : OwnR wv.drew g c2 (l.take (q + 1) ++ x :: l.drop (q + 1)) := HOv.out
              have hin := insert_len l x (k := q + 1) (by omega)
              have TX : Hid (wv.drew.there g ((q + 1) * 32) (encR y).toArray.size) := by
                have := there_of_own hOd (k := q + 1) (by rw [hin]; omega)
                show World.there _ _ _ _
                rw [List.size_toArray, encR_len]
                exact this
              have hO1 := hOd.set y (k := q + 1) (by rw [hin]; omega)
              have TY : Hid ((wv.drew.setCells g ((q + 1) * 32) (encR y)).there g (q * 32) (encR x).toArray.size) := by
                have := there_of_own hO1 (k := q) (by rw [List.length_set, hin]; omega)
                show World.there _ _ _ _
                rw [List.size_toArray, encR_len]
                exact this
              have hO2 := hO1.set x (k := q) (by rw [List.length_set, hin]; omega)
              rw [insert_swap HYq.out] at hO2
              have HSW := Lib.hid hO2
              have HBW := Lib.hid (show Below w.heap.size w ((wv.drew.setCells g ((q + 1) * 32) (encR y)).setCells g (q * 32) (encR x)) from below_setCells (below_setCells (bel0 HBi.out hwd) hg) hg)
              clear hO1 hO2 hOd hin hwd
              have IXa : (Try.prog.info? 25).map (·.size) = some (encR x).toArray.size := by rw [List.size_toArray]; exact IX
              have IYa : (Try.prog.info? 25).map (·.size) = some (encR y).toArray.size := by rw [List.size_toArray]; exact IY
              have YO : Hid ((encR y).toArray.all (·.oneCell') = true) := by show _ = _; rw [Array.all_eq_true_iff_forall_mem]; simpa using encR_one y
              have XO : Hid ((encR x).toArray.all (·.oneCell') = true) := by show _ = _; rw [Array.all_eq_true_iff_forall_mem]; simpa using encR_one x
              have HAq : Hid (∀ z ∈ l.drop q, cfR x z < 0) := by
                intro z hz
                have hql : q < l.length := by rw [HM.out]; exact hqm
                rw [List.drop_eq_getElem_cons hql] at hz
                rcases List.mem_cons.1 hz with rfl | hz
                · have e : l[q] = y := by
                    have := HYq.out
                    rw [List.getElem?_eq_getElem hql] at this
                    exact Option.some.inj this
                  rw [e]
                  show cmpB x.1 y.1 < 0
                  rw [HCv.out]
                  exact hcn
                · exact HAi.out z hz
              go_wp2_with fail
              refine wp_region_any mixed ?_
              change wpAny _ _ _ _ _ _ _ (World.drew _)
              refine wpAny_take (i := 0) (oi := ({ dst := some 45, op := Op.move (Operand.tmp 3), type := 53, pos := "ref.go:298", after := #[], guard := none } : Oper)) (v := ?_) rfl (by kernel_rfl) (by kernel_rfl) (by kernel_rfl) (fun _ _ _ h => h) (Or.inl ⟨by rfl, ?_⟩) ?_
              rotate_left
              · (intro wz; go_simp)
                first | done | with_reducible rfl
              (try simp only [Act.put, List.setIfInBounds_toArray, List.set_cons_zero, List.set_cons_succ])
              refine wpAny_take (i := 1) (oi := ({ dst := some 46, op := Op.move (Operand.tmp 5), type := 3, pos := "ref.go:298", after := #[], guard := none } : Oper)) (v := ?_) rfl (by kernel_rfl) (by kernel_rfl) (by kernel_rfl) (fun _ _ _ h => h) (Or.inl ⟨by rfl, ?_⟩) ?_
              rotate_left
              · (intro wz; go_simp)
                first | done | with_reducible rfl
              (try simp only [Act.put, List.setIfInBounds_toArray, List.set_cons_zero, List.set_cons_succ])
              refine wpAny_take (i := 2) (oi := ({ dst := some 47, op := Op.move (Operand.tmp 3), type := 53, pos := "ref.go:298", after := #[{ on := 15, ground := Ground.gcOnly Departure.lateStores }], guard := none } : Oper)) (v := ?_) rfl (by kernel_rfl) (by kernel_rfl) (by kernel_rfl) (fun _ _ _ h => h) (Or.inl ⟨by rfl, ?_⟩) ?_
              rotate_left
              · (intro wz; go_simp)
                first | done | with_reducible rfl
              (try simp only [Act.put, List.setIfInBounds_toArray, List.set_cons_zero, List.set_cons_succ])
              refine wpAny_take (i := 3) (oi := ({ dst := some 48, op := Op.move (Operand.tmp 5), type := 3, pos := "ref.go:298", after := #[{ on := 15, ground := Ground.gcOnly Departure.lateStores }], guard := none } : Oper)) (v := ?_) rfl (by kernel_rfl) (by kernel_rfl) (by kernel_rfl) (fun _ _ _ h => h) (Or.inl ⟨by rfl, ?_⟩) ?_
              rotate_left
              · (intro wz; go_simp)
                first | done | with_reducible rfl
              (try simp only [Act.put, List.setIfInBounds_toArray, List.set_cons_zero, List.set_cons_succ])
              refine wpAny_take (i := 4) (oi := ({ dst := some 49, op := Op.binOp BinOp.sub 3 (Operand.tmp 48) (Operand.const (Value.int IntKind.i64 1)) 3, type := 3, pos := "ref.go:298", after := #[{ on := 3, ground := Ground.data }, { on := 15, ground := Ground.gcOnly Departure.lateStores }], guard := none } : Oper)) (v := ?_) rfl (by kernel_rfl) (by kernel_rfl) (by kernel_rfl) (fun _ _ _ h => h) (Or.inl ⟨by rfl, ?_⟩) ?_
              rotate_left
              · (intro wz; go_simp)
                first | done | with_reducible rfl
              (try simp only [Act.put, List.setIfInBounds_toArray, List.set_cons_zero, List.set_cons_succ])
              refine wpAny_take (i := 5) (oi := ({ dst := some 50, op := Op.move (Operand.tmp 3), type := 53, pos := "ref.go:298", after := #[], guard := none } : Oper)) (v := ?_) rfl (by kernel_rfl) (by kernel_rfl) (by kernel_rfl) (fun _ _ _ h => h) (Or.inl ⟨by rfl, ?_⟩) ?_
              rotate_left
              · (intro wz; go_simp)
                first | done | with_reducible rfl
              (try simp only [Act.put, List.setIfInBounds_toArray, List.set_cons_zero, List.set_cons_succ])
              refine wpAny_take (i := 6) (oi := ({ dst := some 51, op := Op.move (Operand.tmp 5), type := 3, pos := "ref.go:298", after := #[], guard := none } : Oper)) (v := ?_) rfl (by kernel_rfl) (by kernel_rfl) (by kernel_rfl) (fun _ _ _ h => h) (Or.inl ⟨by rfl, ?_⟩) ?_
              rotate_left
              · (intro wz; go_simp)
                first | done | with_reducible rfl
              (try simp only [Act.put, List.setIfInBounds_toArray, List.set_cons_zero, List.set_cons_succ])
              refine wpAny_take (i := 7) (oi := ({ dst := some 52, op := Op.binOp BinOp.sub 3 (Operand.tmp 51) (Operand.const (Value.int IntKind.i64 1)) 3, type := 3, pos := "ref.go:298", after := #[{ on := 6, ground := Ground.data }], guard := none } : Oper)) (v := ?_) rfl (by kernel_rfl) (by kernel_rfl) (by kernel_rfl) (fun _ _ _ h => h) (Or.inl ⟨by rfl, ?_⟩) ?_
              rotate_left
              · (intro wz; go_simp)
                first | done | with_reducible rfl
              (try simp only [Act.put, List.setIfInBounds_toArray, List.set_cons_zero, List.set_cons_succ])
              refine wpAny_take (i := 8) (oi := ({ dst := some 53, op := Op.indexAddr 53 (Operand.tmp 50) (Operand.tmp 52), type := 0, pos := "ref.go:298", after := #[{ on := 5, ground := Ground.data }, { on := 7, ground := Ground.data }], guard := none } : Oper)) (v := ?_) rfl (by kernel_rfl) (by kernel_rfl) (by kernel_rfl) (fun _ _ _ h => h) (Or.inl ⟨by rfl, ?_⟩) ?_
              rotate_left
              · (intro wz; go_simp)
                first | done | with_reducible rfl
              (try simp only [Act.put, List.setIfInBounds_toArray, List.set_cons_zero, List.set_cons_succ])
              refine wpAny_take (i := 10) (oi := ({ dst := some 55, op := Op.move (Operand.tmp 3), type := 53, pos := "ref.go:298", after := #[], guard := none } : Oper)) (v := ?_) rfl (by kernel_rfl) (by kernel_rfl) (by kernel_rfl) (fun _ _ _ h => h) (Or.inl ⟨by rfl, ?_⟩) ?_
              rotate_left
              · (intro wz; go_simp)
                first | done | with_reducible rfl
              (try simp only [Act.put, List.setIfInBounds_toArray, List.set_cons_zero, List.set_cons_succ])
              refine wpAny_take (i := 11) (oi := ({ dst := some 56, op := Op.move (Operand.tmp 5), type := 3, pos := "ref.go:298", after := #[], guard := none } : Oper)) (v := ?_) rfl (by kernel_rfl) (by kernel_rfl) (by kernel_rfl) (fun _ _ _ h => h) (Or.inl ⟨by rfl, ?_⟩) ?_
              rotate_left
              · (intro wz; go_simp)
                first | done | with_reducible rfl
              (try simp only [Act.put, List.setIfInBounds_toArray, List.set_cons_zero, List.set_cons_succ])
              refine wpAny_take (i := 12) (oi := ({ dst := some 57, op := Op.indexAddr 53 (Operand.tmp 55) (Operand.tmp 56), type := 0, pos := "ref.go:298", after := #[{ on := 10, ground := Ground.data }, { on := 11, ground := Ground.data }], guard := none } : Oper)) (v := ?_) rfl (by kernel_rfl) (by kernel_rfl) (by kernel_rfl) (fun _ _ _ h => h) (Or.inl ⟨by rfl, ?_⟩) ?_
              rotate_left
              · (intro wz; go_simp)
                first | done | with_reducible rfl
              (try simp only [Act.put, List.setIfInBounds_toArray, List.set_cons_zero, List.set_cons_succ])
              refine wpAny_ready (rs := [9, 13]) (by kernel_rfl) (by simp) ?_
              refine AllReady.cons (o := ({ dst := some 54, op := Op.load 25 (Operand.tmp 53), type := 25, pos := "ref.go:298", after := #[{ on := 8, ground := Ground.data }], guard := none } : Oper)) rfl (fun K hK => ?_) ?_
              · rw [if_pos (by rfl)]
                refine wp_load_mid 25 _ rfl g (q * 32) rfl (encR y) _ RY.out Try.underlying25 rfl IY ?_
                refine hK _ _ ?_
                clear hK K
                (try simp only [Act.put, List.setIfInBounds_toArray, List.set_cons_zero, List.set_cons_succ])
                refine wpAny_ready (rs := [13]) (by kernel_rfl) (by simp) ?_
                refine AllReady.cons (o := ({ dst := some 58, op := Op.load 25 (Operand.tmp 57), type := 25, pos := "ref.go:298", after := #[{ on := 12, ground := Ground.data }], guard := none } : Oper)) rfl (fun K hK => ?_) ?_
                · rw [if_pos (by rfl)]
                  refine wp_load_mid 25 _ rfl g ((q + 1) * 32) rfl (encR x) _ RX.out Try.underlying25 rfl IX ?_
                  refine hK _ _ ?_
                  clear hK K
                  (try simp only [Act.put, List.setIfInBounds_toArray, List.set_cons_zero, List.set_cons_succ])
                  refine wpAny_take (i := 14) (oi := ({ dst := some 59, op := Op.indexAddr 53 (Operand.tmp 45) (Operand.tmp 46), type := 0, pos := "ref.go:298", after := #[{ on := 0, ground := Ground.data }, { on := 1, ground := Ground.data }, { on := 0, ground := Ground.phase }, { on := 1, ground := Ground.phase }, { on := 2, ground := Ground.textOnly Departure.lateStores }, { on := 3, ground := Ground.textOnly Departure.lateStores }, { on := 4, ground := Ground.textOnly Departure.lateStores }, { on := 5, ground := Ground.phase }, { on := 6, ground := Ground.phase }, { on := 7, ground := Ground.phase }, { on := 8, ground := Ground.phase }, { on := 9, ground := Ground.phase }, { on := 10, ground := Ground.textOnly Departure.lateStores }, { on := 11, ground := Ground.textOnly Departure.lateStores }, { on := 12, ground := Ground.textOnly Departure.lateStoresUnsure }, { on := 13, ground := Ground.phase }], guard := none } : Oper)) (v := ?_) rfl (by kernel_rfl) (by kernel_rfl) (by kernel_rfl) (fun _ _ _ h => h) (Or.inl ⟨by rfl, ?_⟩) ?_
                  rotate_left
                  · (intro wz; go_simp)
                    first | done | with_reducible rfl
                  (try simp only [Act.put, List.setIfInBounds_toArray, List.set_cons_zero, List.set_cons_succ])
                  refine wpAny_ready (rs := [15]) (by kernel_rfl) (by simp) ?_
                  refine AllReady.cons (o := ({ dst := none, op := Op.store 25 (Operand.tmp 59) (Operand.tmp 54), type := 0, pos := "ref.go:298", after := #[{ on := 14, ground := Ground.data }, { on := 9, ground := Ground.data }, { on := 0, ground := Ground.phase }, { on := 1, ground := Ground.phase }, { on := 2, ground := Ground.textOnly Departure.lateStores }, { on := 3, ground := Ground.textOnly Departure.lateStores }, { on := 4, ground := Ground.textOnly Departure.lateStores }, { on := 5, ground := Ground.phase }, { on := 6, ground := Ground.phase }, { on := 7, ground := Ground.phase }, { on := 8, ground := Ground.phase }, { on := 9, ground := Ground.phase }, { on := 10, ground := Ground.textOnly Departure.lateStores }, { on := 11, ground := Ground.textOnly Departure.lateStores }, { on := 12, ground := Ground.textOnly Departure.lateStoresUnsure }, { on := 13, ground := Ground.phase }], guard := none } : Oper)) rfl (fun K hK => ?_) ?_
                  · rw [if_pos (by rfl)]
                    refine wp_store_mid 25 _ _ rfl g ((q + 1) * 32) (encR y).toArray rfl rfl TX.out IYa YO.out ?_
                    rw [List.toList_toArray]
                    refine hK _ _ ?_
                    clear hK K
                    (try simp only [Act.put, List.setIfInBounds_toArray, List.set_cons_zero, List.set_cons_succ])
                    refine wpAny_take (i := 16) (oi := ({ dst := some 60, op := Op.indexAddr 53 (Operand.tmp 47) (Operand.tmp 49), type := 0, pos := "ref.go:298", after := #[{ on := 2, ground := Ground.data }, { on := 4, ground := Ground.data }, { on := 0, ground := Ground.phase }, { on := 1, ground := Ground.phase }, { on := 2, ground := Ground.phase }, { on := 3, ground := Ground.phase }, { on := 4, ground := Ground.phase }, { on := 5, ground := Ground.phase }, { on := 6, ground := Ground.phase }, { on := 7, ground := Ground.phase }, { on := 8, ground := Ground.phase }, { on := 9, ground := Ground.phase }, { on := 10, ground := Ground.phase }, { on := 11, ground := Ground.phase }, { on := 12, ground := Ground.phase }, { on := 13, ground := Ground.phase }, { on := 14, ground := Ground.phase }, { on := 15, ground := Ground.phase }], guard := none } : Oper)) (v := ?_) rfl (by kernel_rfl) (by kernel_rfl) (by kernel_rfl) (fun _ _ _ h => h) (Or.inl ⟨by rfl, ?_⟩) ?_
                    rotate_left
                    · (intro wz; go_simp)
                      first | done | with_reducible rfl
                    (try simp only [Act.put, List.setIfInBounds_toArray, List.set_cons_zero, List.set_cons_succ])
                    refine wpAny_ready (rs := [17]) (by kernel_rfl) (by simp) ?_
                    refine AllReady.cons (o := ({ dst := none, op := Op.store 25 (Operand.tmp 60) (Operand.tmp 58), type := 0, pos := "ref.go:298", after := #[{ on := 16, ground := Ground.data }, { on := 13, ground := Ground.data }, { on := 15, ground := Ground.chain }, { on := 0, ground := Ground.phase }, { on := 1, ground := Ground.phase }, { on := 2, ground := Ground.phase }, { on := 3, ground := Ground.phase }, { on := 4, ground := Ground.phase }, { on := 5, ground := Ground.phase }, { on := 6, ground := Ground.phase }, { on := 7, ground := Ground.phase }, { on := 8, ground := Ground.phase }, { on := 9, ground := Ground.phase }, { on := 10, ground := Ground.phase }, { on := 11, ground := Ground.phase }, { on := 12, ground := Ground.phase }, { on := 13, ground := Ground.phase }, { on := 14, ground := Ground.phase }, { on := 15, ground := Ground.phase }], guard := none } : Oper)) rfl (fun K hK => ?_) ?_
                    · rw [if_pos (by rfl)]
                      refine wp_store_mid 25 _ _ rfl g (q * 32) (encR x).toArray rfl rfl TY.out IXa XO.out ?_
                      rw [List.toList_toArray]
                      refine hK _ _ ?_
                      clear hK K
                      (try simp only [Act.put, List.setIfInBounds_toArray, List.set_cons_zero, List.set_cons_succ])
                      refine wpAny_done (by kernel_rfl) ?_ _
                      generalize ((wv.drew.setCells g ((q + 1) * 32) (encR y)).setCells g (q * 32) (encR x)) = WN at HSW HBW ⊢
                      go_wp2_with fail
                      go_roundg q
                      case measure => omega
                      case rel => exact ⟨q, by omega, Nat.le_refl _, by go_num, HBW, HSW, HAq⟩
                    · exact AllReady.nil
                  · exact AllReady.nil
                · exact AllReady.nil
              refine AllReady.cons (o := ({ dst := some 58, op := Op.load 25 (Operand.tmp 57), type := 25, pos := "ref.go:298", after := #[{ on := 12, ground := Ground.data }], guard := none } : Oper)) rfl (fun K hK => ?_) ?_
              · rw [if_pos (by rfl)]
                refine wp_load_mid 25 _ rfl g ((q + 1) * 32) rfl (encR x) _ RX.out Try.underlying25 rfl IX ?_
                refine hK _ _ ?_
                clear hK K
                (try simp only [Act.put, List.setIfInBounds_toArray, List.set_cons_zero, List.set_cons_succ])
                refine wpAny_ready (rs := [9]) (by kernel_rfl) (by simp) ?_
                refine AllReady.cons (o := ({ dst := some 54, op := Op.load 25 (Operand.tmp 53), type := 25, pos := "ref.go:298", after := #[{ on := 8, ground := Ground.data }], guard := none } : Oper)) rfl (fun K hK => ?_) ?_
                · rw [if_pos (by rfl)]
                  refine wp_load_mid 25 _ rfl g (q * 32) rfl (encR y) _ RY.out Try.underlying25 rfl IY ?_
                  refine hK _ _ ?_
                  clear hK K
                  (try simp only [Act.put, List.setIfInBounds_toArray, List.set_cons_zero, List.set_cons_succ])
                  refine wpAny_take (i := 14) (oi := ({ dst := some 59, op := Op.indexAddr 53 (Operand.tmp 45) (Operand.tmp 46), type := 0, pos := "ref.go:298", after := #[{ on := 0, ground := Ground.data }, { on := 1, ground := Ground.data }, { on := 0, ground := Ground.phase }, { on := 1, ground := Ground.phase }, { on := 2, ground := Ground.textOnly Departure.lateStores }, { on := 3, ground := Ground.textOnly Departure.lateStores }, { on := 4, ground := Ground.textOnly Departure.lateStores }, { on := 5, ground := Ground.phase }, { on := 6, ground := Ground.phase }, { on := 7, ground := Ground.phase }, { on := 8, ground := Ground.phase }, { on := 9, ground := Ground.phase }, { on := 10, ground := Ground.textOnly Departure.lateStores }, { on := 11, ground := Ground.textOnly Departure.lateStores }, { on := 12, ground := Ground.textOnly Departure.lateStoresUnsure }, { on := 13, ground := Ground.phase }], guard := none } : Oper)) (v := ?_) rfl (by kernel_rfl) (by kernel_rfl) (by kernel_rfl) (fun _ _ _ h => h) (Or.inl ⟨by rfl, ?_⟩) ?_
                  rotate_left
                  · (intro wz; go_simp)
                    first | done | with_reducible rfl
                  (try simp only [Act.put, List.setIfInBounds_toArray, List.set_cons_zero, List.set_cons_succ])
                  refine wpAny_ready (rs := [15]) (by kernel_rfl) (by simp) ?_
                  refine AllReady.cons (o := ({ dst := none, op := Op.store 25 (Operand.tmp 59) (Operand.tmp 54), type := 0, pos := "ref.go:298", after := #[{ on := 14, ground := Ground.data }, { on := 9, ground := Ground.data }, { on := 0, ground := Ground.phase }, { on := 1, ground := Ground.phase }, { on := 2, ground := Ground.textOnly Departure.lateStores }, { on := 3, ground := Ground.textOnly Departure.lateStores }, { on := 4, ground := Ground.textOnly Departure.lateStores }, { on := 5, ground := Ground.phase }, { on := 6, ground := Ground.phase }, { on := 7, ground := Ground.phase }, { on := 8, ground := Ground.phase }, { on := 9, ground := Ground.phase }, { on := 10, ground := Ground.textOnly Departure.lateStores }, { on := 11, ground := Ground.textOnly Departure.lateStores }, { on := 12, ground := Ground.textOnly Departure.lateStoresUnsure }, { on := 13, ground := Ground.phase }], guard := none } : Oper)) rfl (fun K hK => ?_) ?_
                  · rw [if_pos (by rfl)]
                    refine wp_store_mid 25 _ _ rfl g ((q + 1) * 32) (encR y).toArray rfl rfl TX.out IYa YO.out ?_
                    rw [List.toList_toArray]
                    refine hK _ _ ?_
                    clear hK K
                    (try simp only [Act.put, List.setIfInBounds_toArray, List.set_cons_zero, List.set_cons_succ])
                    refine wpAny_take (i := 16) (oi := ({ dst := some 60, op := Op.indexAddr 53 (Operand.tmp 47) (Operand.tmp 49), type := 0, pos := "ref.go:298", after := #[{ on := 2, ground := Ground.data }, { on := 4, ground := Ground.data }, { on := 0, ground := Ground.phase }, { on := 1, ground := Ground.phase }, { on := 2, ground := Ground.phase }, { on := 3, ground := Ground.phase }, { on := 4, ground := Ground.phase }, { on := 5, ground := Ground.phase }, { on := 6, ground := Ground.phase }, { on := 7, ground := Ground.phase }, { on := 8, ground := Ground.phase }, { on := 9, ground := Ground.phase }, { on := 10, ground := Ground.phase }, { on := 11, ground := Ground.phase }, { on := 12, ground := Ground.phase }, { on := 13, ground := Ground.phase }, { on := 14, ground := Ground.phase }, { on := 15, ground := Ground.phase }], guard := none } : Oper)) (v := ?_) rfl (by kernel_rfl) (by kernel_rfl) (by kernel_rfl) (fun _ _ _ h => h) (Or.inl ⟨by rfl, ?_⟩) ?_
                    rotate_left
                    · (intro wz; go_simp)
                      first | done | with_reducible rfl
                    (try simp only [Act.put, List.setIfInBounds_toArray, List.set_cons_zero, List.set_cons_succ])
                    refine wpAny_ready (rs := [17]) (by kernel_rfl) (by simp) ?_
                    refine AllReady.cons (o := ({ dst := none, op := Op.store 25 (Operand.tmp 60) (Operand.tmp 58), type := 0, pos := "ref.go:298", after := #[{ on := 16, ground := Ground.data }, { on := 13, ground := Ground.data }, { on := 15, ground := Ground.chain }, { on := 0, ground := Ground.phase }, { on := 1, ground := Ground.phase }, { on := 2, ground := Ground.phase }, { on := 3, ground := Ground.phase }, { on := 4, ground := Ground.phase }, { on := 5, ground := Ground.phase }, { on := 6, ground := Ground.phase }, { on := 7, ground := Ground.phase }, { on := 8, ground := Ground.phase }, { on := 9, ground := Ground.phase }, { on := 10, ground := Ground.phase }, { on := 11, ground := Ground.phase }, { on := 12, ground := Ground.phase }, { on := 13, ground := Ground.phase }, { on := 14, ground := Ground.phase }, { on := 15, ground := Ground.phase }], guard := none } : Oper)) rfl (fun K hK => ?_) ?_
                    · rw [if_pos (by rfl)]
                      refine wp_store_mid 25 _ _ rfl g (q * 32) (encR x).toArray rfl rfl TY.out IXa XO.out ?_
                      rw [List.toList_toArray]
                      refine hK _ _ ?_
                      clear hK K
                      (try simp only [Act.put, List.setIfInBounds_toArray, List.set_cons_zero, List.set_cons_succ])
                      refine wpAny_done (by kernel_rfl) ?_ _
                      generalize ((wv.drew.setCells g ((q + 1) * 32) (encR y)).setCells g (q * 32) (encR x)) = WN at HSW HBW ⊢
                      go_wp2_with fail
                      go_roundg q
                      case measure => omega
                      case rel => exact ⟨q, by omega, Nat.le_refl _, by go_num, HBW, HSW, HAq⟩
                    · exact AllReady.nil
                  · exact AllReady.nil
                · exact AllReady.nil
              exact AllReady.nil
            · have hnc : ¬ c < 0 := hcn
              go_wp2_with fail
              refine wp_region_fam2 (by kernel_rfl) (by kernel_rfl) ?_
              intro T F hT hF hG
              have C1 : ∀ z, (∃ t, z = F t) → z.rangeAt g ((q + 1) * 32) (encR x) := by rintro _ ⟨t, rfl⟩; exact HX1.out _ (hF t)
              have C2 : ∀ z, (∃ t, z = F t) → z.rangeAt g (q * 32) (encR y) := by rintro _ ⟨t, rfl⟩; exact HX2.out _ (hF t)
              repeat (first
                | ((with_reducible refine at_qload (.tmp 33) ?_); refine wpQuiet_load_mid 25 _ rfl g ((q + 1) * 32) rfl (encR x) C1 Try.underlying25 rfl IX (by kernel_rfl) ?_; simp only [Act.put, List.setIfInBounds_toArray, List.set_cons_succ, List.set_cons_zero])
                | ((with_reducible refine at_qload (.tmp 38) ?_); refine wpQuiet_load_mid 25 _ rfl g (q * 32) rfl (encR y) C2 Try.underlying25 rfl IY (by kernel_rfl) ?_; simp only [Act.put, List.setIfInBounds_toArray, List.set_cons_succ, List.set_cons_zero])
                | (go_big_quiet_step ((go_at_call 55; exact fam_call hF hG (Nat.le_refl _) (HCm.out _)))))
              refine wpQuiet_nil ?_
              rintro _ ⟨t, rfl⟩
              go_wp2_with fail
              have hbt := hF t
              go_roundg (len - (k + 1))
              case measure => omega
              case rel =>
                have e := insert_len l x (k := q + 1) (by rw [HM.out]; omega)
                have hO := (HOi.out.below hbt).owns hg (by rw [e, HM.out]; omega) hcm
                rw [e, HM.out] at hO
                have hyx : cfR y x < 0 := by
                  apply Classical.byContradiction
                  intro hn
                  have hxy : ¬ cmpB x.1 y.1 < 0 := by rw [HCv.out]; omega
                  have exy := cfR_total x y (ltR_false.2 hxy) (ltR_false.2 hn)
                  have hmem : x ∈ l := by rw [exy]; exact List.mem_of_getElem? HYq.out
                  exact of_decide_eq_false HRr.out hmem
                exact ⟨k + 1, l.take (q + 1) ++ x :: l.drop (q + 1), by omega, Nat.le_refl _, by go_num, HI.out.new HXd.out (by rw [HM.out]; omega) HAi.out (.inr ⟨y, HYq.out, hyx⟩), by rw [e, HM.out]; omega, by rw [e, HM.out]; exact hO, bel0 HBi.out hbt, _, _, _, rfl⟩
    · go_wp2_with fail
      go_ret
      obtain rfl : k = len := by omega
      have hI := HI.out
      rw [← HL.out] at hI
      exact ⟨_, rfl, by rw [← hI.done]; exact rts_of_owns HO.out (by unfold maxLen; omega), HBr.out⟩

end Go.Proofs.Ytjlfacdmfcbjfaa
