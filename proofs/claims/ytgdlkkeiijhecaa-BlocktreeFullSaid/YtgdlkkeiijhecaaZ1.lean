/- Several texts as one: BtA, BtB, BtC, BtD, BtV, BtW, BtE, BtF. -/
import Derived.Test.YtgdlkkeiijhecaaZ0
import Derived.Test.YtgdlkkeiijhecaaGrN
import Derived.OwnWalk
import Derived.Test.YtgdlkkeiijhecaaOwM
import Derived.Test.YtgdlkkeiijhecaaRm
import Derived.Test.YtgdlkkeiijhecaaPas
import Derived.Test.YtgdlkkeiijhecaaHeld4
import Derived.Deep.CutRange
import Derived.Deep.RegionHeld3
namespace Go.Proofs.Ytgdlkkeiijhecaa

/-! BtA -/
section
set_option linter.unusedVariables false
set_option linter.unusedSimpArgs false
open Go.RowKit

set_option maxRecDepth 100000

theorem cstatus_any (n : Int) (w : World) :
    Calls Try.prog 31 #[.int .i64 n] w fun e w' => e = .returned (.bool (decide (0 ≤ n ∧ n ≤ 2))) ∧ Below w.heap.size w w' := by
  by_cases h0 : 0 ≤ n
  · by_cases h1 : n ≤ 2
    · have hq : decide (0 ≤ n ∧ n ≤ 2) = true := decide_eq_true ⟨h0, h1⟩
      rw [hq]
      clear hq
      go_enter Try.func31, Try.ntmps31
      go_wp2_with fail
      go_ret
      exact ⟨rfl, Below.refl _ _⟩
    · have hq : decide (0 ≤ n ∧ n ≤ 2) = false := decide_eq_false (fun h => h1 h.2)
      rw [hq]
      have h1' : (n ≤ 2) = False := eq_false h1
      clear hq h1
      go_enter Try.func31, Try.ntmps31
      go_wp2_with fail
      go_ret
      exact ⟨rfl, Below.refl _ _⟩
  · have hq : decide (0 ≤ n ∧ n ≤ 2) = false := decide_eq_false (fun h => h0 h.1)
    rw [hq]
    have h0' : (0 ≤ n) = False := eq_false h0
    clear hq h0
    go_enter Try.func31, Try.ntmps31
    go_wp2_with fail
    go_ret
    exact ⟨rfl, Below.refl _ _⟩

set_option maxHeartbeats 4000000 in
theorem cisn_any (v : Value) (ns : List NdD) (i : Int) (w : World) (hN : NodesV w v ns) :
    Calls Try.prog 33 #[.agg #[v], .int .i64 i] w fun e w' => e = .returned (.bool (decide (0 ≤ i ∧ i < ns.length))) ∧ Below w.heap.size w w' := by
  obtain ⟨a, cap, rfl, hmx⟩ := hN.shape
  unfold maxLen at hmx
  obtain ⟨m, hm⟩ : ∃ m, Hid (ns.length = m) := ⟨_, Lib.hid rfl⟩
  rw [hm.out] at hmx ⊢
  obtain ⟨q, hq⟩ : ∃ q : Bool, decide (0 ≤ i ∧ i < (m : Int)) = q := ⟨_, rfl⟩
  rw [hq]
  have HBA := Lib.hid ((Below.refl w.heap.size w).alloc (Nat.le_refl _) (.cells #[.slice a m cap] 24))
  have HC0 : Hid ((w.alloc (.cells #[.slice a m cap] 24)).cell? ⟨w.heap.size, 0, none⟩ = some (.slice a m cap)) := (Blk.new rfl).cell 0
  clear hN
  by_cases h0 : 0 ≤ i
  · have hge : ¬ i < 0 := by omega
    by_cases h1 : i < (m : Int)
    · have hqv : q = true := by rw [← hq]; exact decide_eq_true ⟨h0, h1⟩
      subst hqv
      go_enter Try.func33, Try.ntmps33
      go_wp2_with (first
        | ((with_reducible refine at_load (.tmp 9) ?_); refine wpList_load_1 22 (.tmp 9) rfl w.heap.size 0 (.slice a m cap) HC0.out rfl _ Try.underlying22 rfl rfl ?_))
      go_ret
      exact ⟨rfl, HBA.out⟩
    · have hqv : q = false := by rw [← hq]; exact decide_eq_false (fun h => h1 h.2)
      subst hqv
      go_enter Try.func33, Try.ntmps33
      go_wp2_with (first
        | ((with_reducible refine at_load (.tmp 9) ?_); refine wpList_load_1 22 (.tmp 9) rfl w.heap.size 0 (.slice a m cap) HC0.out rfl _ Try.underlying22 rfl rfl ?_))
      go_ret
      exact ⟨rfl, HBA.out⟩
  · have hqv : q = false := by rw [← hq]; exact decide_eq_false (fun h => h0 h.1)
    subst hqv
    have h0' : (0 ≤ i) = False := eq_false h0
    clear h0
    go_enter Try.func33, Try.ntmps33
    go_wp2_with fail
    go_ret
    exact ⟨rfl, HBA.out⟩

def upOK (up : Int) (k : Nat) : Prop := (k = 0 ∧ up = -1) ∨ (0 < k ∧ 0 ≤ up ∧ up < k)
instance (up : Int) (k : Nat) : Decidable (upOK up k) := by unfold upOK; exact inferInstance

theorem cup_any (up : Int) (k : Nat) (w : World) :
    Calls Try.prog 35 #[.int .i64 up, .int .i64 (k : Int)] w fun e w' => e = .returned (.bool (decide (upOK up k))) ∧ Below w.heap.size w w' := by
  by_cases h0 : k = 0
  · subst h0
    obtain ⟨q, hq⟩ : ∃ q : Bool, (up == -1) = q := ⟨_, rfl⟩
    have hd : decide (upOK up 0) = q := by
      rw [← hq, Bool.eq_iff_iff, decide_eq_true_iff]
      unfold upOK
      simp
    rw [hd]
    clear hd
    go_enter Try.func35, Try.ntmps35
    go_wp2_with fail
    go_ret
    exact ⟨rfl, Below.refl _ _⟩
  · have hz : ((k : Int) == 0) = false := by simp; omega
    by_cases h1 : 0 ≤ up
    · obtain ⟨q, hq⟩ : ∃ q : Bool, decide (up < (k : Int)) = q := ⟨_, rfl⟩
      have hd : decide (upOK up k) = q := by
        rw [← hq, Bool.eq_iff_iff, decide_eq_true_iff, decide_eq_true_iff]
        unfold upOK
        omega
      rw [hd]
      clear hd
      go_enter Try.func35, Try.ntmps35
      go_wp2_with fail
      go_ret
      exact ⟨rfl, Below.refl _ _⟩
    · have h1' : (0 ≤ up) = False := eq_false h1
      have hd : decide (upOK up k) = false := by
        refine decide_eq_false ?_
        unfold upOK
        omega
      rw [hd]
      clear hd h1
      go_enter Try.func35, Try.ntmps35
      go_wp2_with fail
      go_ret
      exact ⟨rfl, Below.refl _ _⟩

set_option maxHeartbeats 4000000 in
theorem cfind_any (v : Value) (ns : List NdD) (r : List Int) (w : World) (hN : NodesV w v ns) (hr : IsBytes 32 r) :
    Calls Try.prog 22 #[.agg #[v], .agg (bytesL r).toArray] w fun e w' => e = .returned (.int .i64 (findN ns r)) ∧ Below w.heap.size w w' := by
  obtain ⟨a, cap, rfl, hmx⟩ := hN.shape
  unfold maxLen at hmx
  have HN := Lib.hid hN
  have HR := Lib.hid hr
  obtain ⟨q, hq⟩ : ∃ q, Hid (findN ns r = q) := ⟨_, Lib.hid rfl⟩
  rw [hq.out]
  obtain ⟨X, hX⟩ : ∃ X, Hid ((bytesL r).toArray = X) := ⟨_, Lib.hid rfl⟩
  rw [hX.out]
  have hsX : X.size = 32 := by rw [← hX.out, List.size_toArray, bytesL_len hr]
  have hiX : (Try.prog.info? 34).map (·.size) = some X.size := by rw [hsX]; kernel_rfl
  obtain ⟨m, hm⟩ : ∃ m, Hid (ns.length = m) := ⟨_, Lib.hid rfl⟩
  rw [hm.out] at hmx ⊢
  have HBA := Lib.hid (((Below.refl w.heap.size w).alloc (Nat.le_refl _) (.cells #[.slice a m cap] 24)).alloc (by simp) (.cells X 34))
  have HT : Hid (Blk ((w.alloc (.cells #[.slice a m cap] 24)).alloc (.cells X 34)) w.heap.size #[.slice a m cap]) := (Blk.new rfl).alloc _
  have HX : Hid (Blk ((w.alloc (.cells #[.slice a m cap] 24)).alloc (.cells X 34)) (w.heap.size + 1) X) := Blk.new (by simp)
  clear hN hr
  go_enter Try.func22, Try.ntmps22
  go_wp2_with (first
    | ((with_reducible refine at_load (.tmp 6) ?_); refine wpList_load_1 22 (.tmp 6) rfl w.heap.size 0 (.slice a m cap) (HT.out.cell 0) rfl _ Try.underlying22 rfl rfl ?_))
  go_loopw [9] (fun i wr => FindI w ns r #[.slice a m cap] X i wr) (fun i _ => m - (intOf i).toNat)
  case atStart => exact ⟨0, Nat.zero_le _, rfl, rfl, HT.out, HX.out, HBA.out⟩
  case round =>
    obtain ⟨k, hk, rfl, hf, ht, hx, hbl⟩ := hrel
    have HF := Lib.hid hf
    have HTr := Lib.hid ht
    have HXr := Lib.hid hx
    have HBL := Lib.hid hbl
    have hlt0 := ht.lt
    have HC0 : Hid (wr.cell? ⟨w.heap.size, 0, none⟩ = some (.slice a m cap)) := ht.cell 0
    rw [hm.out] at hk
    clear hf ht hx hbl
    by_cases hlt : k < m
    case neg =>
      obtain rfl : k = m := by omega
      have hqv : q = -1 := by rw [← hq.out, ← HF.out, hm.out, Nat.sub_self]; rfl
      have HQ := Lib.hid hqv
      clear hqv
      go_wp2_with fail
      go_ret
      exact ⟨by rw [HQ.out]; rfl, HBL.out⟩
    have hlt' : (k : Int) < m := by omega
    have hkn : k < ns.length := by rw [hm.out]; exact hlt
    obtain ⟨b, off, rfl, hlm, hbb, hna, hok⟩ := HN.out.elem (i := k) hkn
    have hrt := Below.rng HBL.out hbb hna.bk.root
    have HRT := Lib.hid hrt
    have hbw : b < wr.heap.size := Nat.lt_of_lt_of_le hbb HBL.out.size
    have hst := findGo_step (r := r) hkn
    have HEQ := fun u => eq_root hok.1.2.2.2.1 HR.out u
    have hiY : (Try.prog.info? 34).map (·.size) = some (bytesL ns[k].b.root).length := by rw [bytesL_len hok.1.2.2.2.1]; kernel_rfl
    obtain ⟨qr, hqr⟩ : ∃ q : Bool, decide (ns[k].b.root = r) = q := ⟨_, rfl⟩
    rw [hqr] at HEQ
    have HQR : Hid (qr = true ↔ ns[k].b.root = r) := by show _ ↔ _; rw [← hqr]; exact decide_eq_true_iff
    simp only [bytesL_V] at HEQ
    rw [hX.out] at HEQ
    obtain ⟨R, hR⟩ : ∃ R, bytesL ns[k].b.root = R := ⟨_, rfl⟩
    rw [hR] at HRT HEQ hiY
    have HST := Lib.hid hst
    clear hna hok hrt hst hqr hR hlm
    go_wp2_with fail
    refine wp_region_fam2 (by kernel_rfl) (by kernel_rfl) ?_
    intro T F hT hF hG
    have c0 : ∀ t, (F t).cell? ⟨w.heap.size, 0, none⟩ = some (.slice (some ⟨b, off, none⟩) m cap) := fun t => ((hF t).cell (p := ⟨w.heap.size, 0, none⟩) hlt0).trans HC0.out
    have CR := Lib.hid (show ∀ u, (∃ t, u = F t) → u.rangeAt b (off + k * 240 + 67) R by rintro _ ⟨t, rfl⟩; exact Below.rng (hF t) hbw HRT.out)
    have CX := Lib.hid (show ∀ u, (∃ t, u = F t) → Blk u (w.heap.size + 1) X by rintro _ ⟨t, rfl⟩; exact HXr.out.call (hF t))
    repeat (first
      | ((with_reducible refine at_qload (.tmp 17) ?_); refine wpQuiet_load_midE 34 _ rfl b (off + k * 240 + 67) (by simp [Act.eval]) R CR.out Try.underlying34 rfl hiY (by kernel_rfl) ?_; simp only [Act.put, List.setIfInBounds_toArray, List.set_cons_succ, List.set_cons_zero])
      | ((with_reducible refine at_qload (.tmp 3) ?_); refine wpQuiet_load 34 _ rfl (w.heap.size + 1) rfl X CX.out Try.underlying34 rfl hiX (by kernel_rfl) ?_; simp only [Act.put, List.setIfInBounds_toArray, List.set_cons_succ, List.set_cons_zero])
      | (go_big_quiet_step (fail)))
    refine wpQuiet_nil ?_
    rintro _ ⟨t, rfl⟩
    have hft := hF t
    obtain ⟨u, hu⟩ : ∃ u, F t = u := ⟨_, rfl⟩
    rw [hu] at hft ⊢
    have HB1 := Lib.hid (HBL.out.trans (hft.mono HBL.out.size))
    have HT1 := Lib.hid (HTr.out.call hft)
    have HX1 := Lib.hid (HXr.out.call hft)
    clear c0 CR CX hG hu hft hF hT
    clear t F T
    cases qr
    case false =>
      have hne : ¬ ns[k].b.root = r := fun h => by have := HQR.out.2 h; cases this
      rw [if_neg hne] at HST
      go_wp2_with fail
      go_roundw
      case rel => exact ⟨k + 1, by rw [hm.out]; omega, by go_num, by rw [← HST.out]; exact HF.out, HT1.out, HX1.out, HB1.out⟩
      case measure => simp [intOf]; omega
    case true =>
      rw [if_pos (HQR.out.1 rfl)] at HST
      have hqv : q = (k : Int) := by rw [← hq.out, ← HF.out]; exact HST.out
      have HQ := Lib.hid hqv
      clear hqv
      go_wp2_with fail
      go_ret
      exact ⟨by rw [HQ.out]; rfl, HB1.out⟩
end

/-! BtB -/
section
set_option linter.unusedVariables false
set_option linter.unusedSimpArgs false
open Go.RowKit

set_option maxRecDepth 100000

theorem flatN_len {α : Type} (ds : List (List α)) (k : Nat) : (ds.take k).flatten.length ≤ ds.flatten.length := by
  have h : ds.flatten = (ds.take k).flatten ++ (ds.drop k).flatten := by rw [← List.flatten_append, List.take_append_drop]
  rw [h, List.length_append]; omega

theorem flatN_take {α : Type} {ds : List (List α)} {k : Nat} (h : k < ds.length) : (ds.take (k + 1)).flatten = (ds.take k).flatten ++ ds.getD k [] := by
  rw [List.take_succ_eq_append_getElem h, List.flatten_append]
  simp only [List.flatten_cons, List.flatten_nil, List.append_nil, List.getD, List.getElem?_eq_getElem h, Option.getD_some]

/-- Several structs are appended, in a walk. -/
theorem wpList_appEls {α : Type} {sz : Nat} {El : (Value → Prop) → World → Array Value → α → Prop} (E : ElOK sz El) {t e : TypeId} {z : Value} {bytes : Nat} (ht : Try.prog.underlying t = some (.slice e)) (hinfo : (Try.prog.info? e).map (fun i => (i.zero, i.size, i.bytes)) = some (some z, sz, bytes)) (hzs : z.cells.size = sz) (hsz : 0 < sz)
    {ops : Array Oper} {rest : List Oper} {o : Oper} {a : Act} {w : World} {Q : Exit → Act → World → Prop} (s x : Operand)
    (ho : o.op = .call { callee := .builtin .append, args := #[s, x], argTypes := #[t, t] }) (hw : Region.wanted o (yielded ops a.tmps) = true)
    (B : Nat) (v : Value) (ds : List α) (hs : a.eval s = v) (hown : OwnEl El e sz w B v ds) (ad : Option Addr) (n c : Nat) (es : List α) (Ys : List (Array Value)) (hx : a.eval x = .slice ad n c) (hn : es.length = n) (hy : es.length = 0 ∨ ∃ b off, ad = some ⟨b, off, none⟩ ∧ w.rangeAt b off (rowsL Ys)) (hA : AllEl El (OffB v) w Ys es)
    (h47 : (ds.length + es.length) * bytes ≤ 140737488355328) (hm : ds.length + es.length ≤ maxLen) (hB : B ≤ w.heap.size)
    (h : ∀ v' w', OwnEl El e sz w' B v' (ds ++ es) → w.grownBy w' v.ownBlock → (v'.ownBlock = v.ownBlock ∨ v'.ownBlock = some w.heap.size) → wpList Try.prog ops Q rest (a.put o.dst v') w') : wpList Try.prog ops Q (o :: rest) a w :=
  BigFrame.wpList_want hw fun _ hK => by
    subst hn
    obtain ⟨v', w', h1, h2, h3, h4⟩ := run_appEls E (ty := o.type) ht hinfo hzs hsz w B v ds hown ad c es Ys hy hA h47 hm hB
    unfold Oper.wp execOp
    simp only [ho, resolve, invoke, builtin, Sem.run_bind, Sem.run_pure, Result.andThen_ok, List.map_toArray, List.map_cons, List.map_nil, hs, hx, h1]
    exact hK _ _ (h v' w' h2 h3 h4)

/-- slices.Grow(nil, n). -/
theorem grow_nilN (n : Nat) (w : World) (hn : n ≤ 100000000000) :
    Calls Try.prog 36 #[.slice none 0 0, .int .i64 n] w fun e w' => ∃ v', e = .returned v' ∧ OwnEl NdEl 44 240 w' w.heap.size v' [] ∧ Below w.heap.size w w' := by
  obtain ⟨i0, hi, hz0, hz1, hz2⟩ := info_parts info_node
  rcases Nat.eq_zero_or_pos n with rfl | hp
  · exact (Any8.slices_Grow_room Try.growN none 0 0 0 w (Nat.le_refl _) (by omega) (by omega) (by omega)).mono fun e w' ⟨he, hw⟩ => ⟨_, he, OwnEl.nil _ _, Below.same_world hw.symm⟩
  · refine (Any8.slices_Grow_grow Try.growN i0 _ hi hz0 (by omega) none 0 0 n [] w (Nat.le_refl _) (by omega) (by rw [hz2]; omega) (by omega) (by simp) (fun _ => rfl) (fun a h => by cases h)).mono fun e w' ⟨he, hw⟩ => ⟨_, he, ?_, ?_⟩
    · rw [hw]
      refine ⟨[], World.ownsRow_made w.drew _ _ (Nat.le_refl _) (grownCap_le_maxLen w _ _ _ (by unfold maxLen; omega)) ?_, AllEl.nil _ _⟩
      have := grownCap_ge w (0 + n) 0 44
      have hz : (Value.agg (flatP (zeBkP ++ [[.int .i64 0], [.int .i64 0]]))).cells.size = 240 := rfl
      simp only [Array.size_append, size_zeroCells, hz, List.size_toArray, List.length_nil]
      show 0 + (0 + n - 0) * 240 + (grownCap w (0 + n) 0 44 - (0 + n)) * 240 = grownCap w (0 + n) 0 44 * 240
      omega
    · rw [hw]
      exact Below.alloc (w := w.drewN 1) (Below.drewN (n := 1) (Below.refl _ w)) (Nat.le_refl _) _

/-- The slices that are to be joined. -/
def PartsN (w : World) (g m : Nat) (vs : Array Value) (ds : List (List NdD)) : Prop := Blk w g vs ∧ vs.size = m ∧ ds.length = m ∧ ∀ k, k < m → NodesV w (vs.getD k undef) (ds.getD k [])

theorem PartsN.below {w w' : World} {g m : Nat} {vs : Array Value} {ds : List (List NdD)} (h : PartsN w g m vs ds) (hb : Below w.heap.size w w') : PartsN w' g m vs ds :=
  ⟨h.1.call hb, h.2.1, h.2.2.1, fun k hk => (h.2.2.2 k hk).call hb⟩

theorem PartsN.cell {w : World} {g m : Nat} {vs : Array Value} {ds : List (List NdD)} (h : PartsN w g m vs ds) {k : Nat} (hk : k < m) : w.cell? ⟨g, k, none⟩ = some (vs.getD k undef) := by
  rw [h.1.cell]
  simp [Array.getD, h.2.1, hk]

theorem ownN_below {N B : Nat} {w0 w w' : World} {v : Value} {xs : List NdD} (hb : Below N w0 w) (hg : w.grownBy w' v.ownBlock) (ho : OwnEl NdEl 44 240 w B v xs) (hN : N ≤ B) (hB : B ≤ w.heap.size) : Below N w0 w' :=
  hb.grown hg (by omega) (fun k hk => by have := (ho.lt k hk).1; omega)

set_option maxHeartbeats 4000000 in
theorem concatN (g m : Nat) (vs : Array Value) (ds : List (List NdD)) (w : World) (h : PartsN w g m vs ds) (hm : m ≤ 1000) (hb : ds.flatten.length ≤ 100000000000) :
    Calls Try.prog 32 #[.slice (some ⟨g, 0, none⟩) m m] w fun e w' => ∃ v', e = .returned v' ∧ OwnEl NdEl 44 240 w' w.heap.size v' ds.flatten ∧ Below w.heap.size w w' := by
  have hfl := fun k => flatN_len ds k
  have HF := Lib.hid hfl; clear hfl
  have HFT := Lib.hid (fun k (hk : k < m) => flatN_take (ds := ds) (k := k) (by rw [h.2.2.1]; exact hk))
  have HT := Lib.hid (show (ds.take m).flatten = ds.flatten by rw [List.take_of_length_le (by rw [h.2.2.1]; exact Nat.le_refl _)])
  have HP := Lib.hid h; clear h
  obtain ⟨L, HL⟩ : ∃ L : Nat, Hid (L = ds.flatten.length) := ⟨_, rfl⟩
  have hL : L ≤ 100000000000 := by rw [HL.out]; exact hb
  clear hb
  go_enter Try.func32, Try.ntmps32
  go_wp2_with fail
  go_loop [3, 11] (fun s i => ∃ k : Nat, k ≤ m ∧ i = .int .i64 k ∧ s = .int .i64 ((ds.take k).flatten.length : Nat)) (fun _ i => m - (intOf i).toNat)
  case atStart => exact ⟨0, Nat.zero_le _, rfl, rfl⟩
  case round =>
    obtain ⟨k, hk, rfl, rfl⟩ := hrel
    by_cases hlt : k < m
    · have hcell := HP.out.cell hlt
      obtain ⟨a, cap, hv, _⟩ := (HP.out.2.2.2 k hlt).shape
      obtain ⟨len, hl⟩ : ∃ len, (ds.getD k []).length = len := ⟨_, rfl⟩
      rw [hv, hl] at hcell
      have e1 := HFT.out k hlt
      have l1 := HF.out (k + 1)
      rw [e1] at l1
      rw [List.length_append, hl, ← HL.out] at l1
      have E1 := Lib.hid (show (ds.take (k + 1)).flatten.length = (ds.take k).flatten.length + len by rw [e1, List.length_append, hl])
      clear e1 hl hv
      obtain ⟨s, HS⟩ : ∃ s : Nat, Hid (s = (ds.take k).flatten.length) := ⟨_, rfl⟩
      rw [← HS.out] at l1 E1 ⊢
      go_wp2_with fail
      go_round
      case rel => exact ⟨k + 1, by omega, by go_num, by rw [E1.out]; go_num⟩
      case measure => simp [intOf]; omega
    · obtain rfl : k = m := by omega
      rw [HT.out, ← HL.out]
      go_wp2_with (go_at_call 36; refine (grow_nilN L _ hL).mono ?_; rintro e w1 ⟨v1, rfl, ho1, hb1⟩)
      have HP1 := Lib.hid (HP.out.below hb1)
      go_loopw [6, 27] (fun v i wr => ∃ j : Nat, j ≤ k ∧ i = .int .i64 j ∧ OwnEl NdEl 44 240 wr w.heap.size v (ds.take j).flatten ∧ Below w.heap.size w wr) (fun _ i _ => k - (intOf i).toNat)
      case atStart => exact ⟨0, Nat.zero_le _, rfl, by simpa using ho1, hb1⟩
      case round =>
        obtain ⟨j, hj, rfl, ho, hbl⟩ := hrel
        by_cases hlt : j < k
        · have HPj := HP.out.below hbl
          have hcell := HPj.cell hlt
          have hy := HPj.2.2.2 j hlt
          have E1 := Lib.hid (HFT.out j hlt)
          have l1 := HF.out (j + 1)
          rw [E1.out, List.length_append, ← HL.out] at l1
          obtain ⟨y, hye⟩ : ∃ y, vs.getD j undef = y := ⟨_, rfl⟩
          rw [hye] at hcell hy
          obtain ⟨a, cap, rfl, _⟩ := hy.shape
          obtain ⟨Ys, hA, hrow⟩ := hy.row
          obtain ⟨es, hes⟩ : ∃ es, Hid (ds.getD j [] = es) := ⟨_, Lib.hid rfl⟩
          rw [hes.out] at hcell hA hrow l1 E1
          obtain ⟨n, hn⟩ : ∃ n, Hid (es.length = n) := ⟨_, Lib.hid rfl⟩
          rw [hn.out] at hcell l1
          clear hye HPj hy
          have HRW := Lib.hid hrow; clear hrow
          have HA := Lib.hid hA; clear hA
          have HO := Lib.hid ho; clear ho
          go_wp2_with ((with_reducible refine at_app _ _ ?_); refine wpList_appEls ndOK Try.underlying22 info_node (by rfl) (by omega) _ _ rfl rfl w.heap.size _ _ rfl HO.out a n cap es Ys rfl hn.out (by rcases HRW.out with h | ⟨b, off, e, _, hr⟩; exact .inl h; exact .inr ⟨b, off, e, hr⟩) (HA.out _ _) (by rw [hn.out]; omega) (by rw [hn.out]; unfold maxLen; omega) hbl.size ?_; intro v2 w2 ho2 hg2 _)
          rw [← E1.out] at ho2
          go_roundw
          case rel => exact ⟨j + 1, by omega, by go_num, ho2, ownN_below hbl hg2 HO.out (Nat.le_refl _) hbl.size⟩
          case measure => simp [intOf]; omega
        · obtain rfl : j = k := by omega
          rw [HT.out] at ho
          go_wp2_with fail
          go_ret
          exact ⟨_, rfl, ho, hbl⟩

set_option maxHeartbeats 4000000 in
theorem cnewt_any (x : BkD) (st : Int) (w : World) (hx : x.ok) (hst : -9223372036854775808 ≤ st ∧ st ≤ 9223372036854775807) :
    Calls Try.prog 26 #[.agg (flatP x.parts), .int .i64 st] w fun e w' => ∃ v, e = .returned (.agg #[v]) ∧ NodesV w' v [⟨x, -1, st⟩] ∧ New w.heap.size v ∧ CapOK v ∧ Below w.heap.size w w' := by
  have hok : (⟨x, -1, st⟩ : NdD).ok := ⟨hx, by show (-9223372036854775808 : Int) ≤ -1 ∧ (-1 : Int) ≤ _; omega, hst⟩
  have HN := Lib.hid (fun u => build_nd x (-1) st hx u)
  obtain ⟨d, hd⟩ : ∃ d : NdD, Hid ((⟨x, -1, st⟩ : NdD) = d) := ⟨_, Lib.hid rfl⟩
  rw [hd.out] at HN hok ⊢
  obtain ⟨Y, hY⟩ : ∃ Y, Hid (d.cells.toArray = Y) := ⟨_, Lib.hid rfl⟩
  have hsY : Hid (Y.size = 240) := by show Y.size = 240; rw [← hY.out, List.size_toArray, NdD.len hok]
  have hsX : (flatP x.parts).size = 238 := by rw [flatP_size, BkD.flen hx]
  have HOK := Lib.hid hok
  rw [hY.out] at HN
  obtain ⟨X, hX⟩ : ∃ X, flatP x.parts = X := ⟨_, rfl⟩
  rw [hX] at HN hsX ⊢
  have hiX : (Try.prog.info? 42).map (·.size) = some X.size := by rw [hsX]; kernel_rfl
  have hi1 : (Try.prog.info? 24).map (·.size) = some 1 := by kernel_rfl
  obtain ⟨hz1, hst1⟩ := zero_array (P := Try.prog) (t := 24) (n := 1) #[.slice none 0 0] (by kernel_rfl) rfl (by kernel_rfl)
  have HBA := Lib.hid (((Below.refl w.heap.size w).alloc (Nat.le_refl _) (.cells X 42)).alloc (by simp) (.cells #[.slice none 0 0] 24))
  have HX : Hid (Blk ((w.alloc (.cells X 42)).alloc (.cells #[.slice none 0 0] 24)) w.heap.size X) := (Blk.new rfl).alloc _
  have HZ : Hid (Blk ((w.alloc (.cells X 42)).alloc (.cells #[.slice none 0 0] 24)) (w.heap.size + 1) #[.slice none 0 0]) := Blk.new (by simp)
  clear hX hx hok hst1
  go_enter Try.func26, Try.ntmps26
  go_wp2_with (first
    | ((with_reducible refine at_load (.tmp 2) ?_); refine wpList_load_g 42 (.tmp 2) rfl w.heap.size rfl X _ HX.out Try.underlying42 rfl hiX rfl ?_)
    | ((with_reducible refine at_build (some 7) ?_); refine wpList_build_g 44 _ rfl #[(0, .agg X), (1, .int .i64 (-1)), (2, .int .i64 st)] (by simp [Act.eval, Act.put]) (.agg Y) (HN.out _) rfl ?_)
    | ((with_reducible refine at_buildSliceE (some 8) ?_); refine wpList_buildSliceE rfl 22 1 _ rfl #[(0, .agg Y)] (by simp [Act.eval, Act.put]) _ (bel_node hsY.out _) ?_)
    | ((with_reducible refine at_build (some 9) ?_); refine wpList_build_g 24 _ rfl #[(0, .slice (some ⟨((w.alloc (.cells X 42)).alloc (.cells #[.slice none 0 0] 24)).heap.size, 0, none⟩) 1 1)] (by simp [Act.eval, Act.put]) (.agg #[.slice (some ⟨((w.alloc (.cells X 42)).alloc (.cells #[.slice none 0 0] 24)).heap.size, 0, none⟩) 1 1]) (b_tree _ _ _ _) rfl ?_)
    | ((with_reducible refine at_store (.tmp 4) ?_); refine wpList_store_blk rfl 24 (.tmp 4) _ rfl (w.heap.size + 1) #[.slice (some ⟨((w.alloc (.cells X 42)).alloc (.cells #[.slice none 0 0] 24)).heap.size, 0, none⟩) 1 1] rfl rfl #[.slice none 0 0] (HZ.out.alloc _) rfl hi1 (by simp [Value.oneCell']) ?_; intro w5 U5 B5; have HR5 := Lib.hid B5; have HU5 := Lib.hid U5; clear U5 B5))
  have hb5 : Below w.heap.size w w5 := HU5.out.below (HBA.out.alloc HBA.out.size (.cells Y 44)) (by omega)
  have hYb : Blk w5 ((w.alloc (.cells X 42)).alloc (.cells #[.slice none 0 0] 24)).heap.size d.cells.toArray := by
    rw [hY.out]
    exact HU5.out.blk (Blk.new rfl) (by simp)
  refine bodyPost_ret (res_cellB rfl rfl HR5.out Try.underlying24 rfl hi1) rfl ⟨_, rfl, nodes_one hYb HOK.out, ?_, (fun a n c e => by cases e; omega), hb5⟩
  intro z l c e _
  cases e
  simp
  omega
end

/-! BtC -/
section
set_option linter.unusedVariables false
set_option linter.unusedSimpArgs false
open Go.RowKit

set_option maxRecDepth 100000

theorem bs_nodes2 (a : Option Addr) (n c : Nat) (a' : Option Addr) (n' c' : Nat) (u : World) : (Instr.buildSlice 69 2 #[(0, .slice a n c), (1, .slice a' n' c')]).run Try.prog u = .ok (.slice (some ⟨u.heap.size, 0, none⟩) 2 2) (u.alloc (.cells #[.slice a n c, .slice a' n' c'] 22)) := by kernel_rfl

theorem al2 (u : World) (x y : Obj) : Below u.heap.size u ((u.alloc x).alloc y) := ((Below.refl _ u).alloc (Nat.le_refl _) x).alloc (by simp) y

set_option maxHeartbeats 16000000 in
theorem cinsn_any (v : Value) (ns : List NdD) (x : BkD) (st : Int) (w : World) (hN : NodesV w v ns) (hx : x.ok) (hst : -9223372036854775808 ≤ st ∧ st ≤ 9223372036854775807) :
    Calls Try.prog 14 #[.agg #[v], .agg (flatP x.parts), .int .i64 st] w (InsTE ns x st w) := by
  obtain ⟨a, cap, rfl, hmx⟩ := hN.shape
  unfold maxLen at hmx
  have HN := Lib.hid hN
  have HX := Lib.hid hx
  have HST := Lib.hid hst
  have HFR := Lib.hid (fun u (hu : Below w.heap.size w u) => cfind_any _ ns x.root u (hN.call hu) hx.2.2.2.1)
  have HFP := Lib.hid (fun u (hu : Below w.heap.size w u) => cfind_any _ ns x.parent u (hN.call hu) hx.2.2.2.2.1)
  have HSS := Lib.hid (fun u => cstatus_any st u)
  have hsX : (flatP x.parts).size = 238 := by rw [flatP_size, BkD.flen hx]
  have HBK : Hid (∀ u b, Blk u b (flatP x.parts) → BkAt u b 0 x) := fun u b hu => bk_at (Blk.rng hu) hx
  obtain ⟨X, hX⟩ : ∃ X, flatP x.parts = X := ⟨_, rfl⟩
  rw [hX] at HBK hsX ⊢
  have HXE := Lib.hid hX
  have hiX : (Try.prog.info? 42).map (·.size) = some X.size := by rw [hsX]; kernel_rfl
  have hi1 : (Try.prog.info? 24).map (·.size) = some 1 := by kernel_rfl
  have hir : (Try.prog.info? 34).map (·.size) = some (bytesL x.root).length := by rw [bytesL_len hx.2.2.2.1]; kernel_rfl
  have hip : (Try.prog.info? 34).map (·.size) = some (bytesL x.parent).length := by rw [bytesL_len hx.2.2.2.2.1]; kernel_rfl
  obtain ⟨hz1, hst1⟩ := zero_array (P := Try.prog) (t := 24) (n := 1) #[.slice none 0 0] (by kernel_rfl) rfl (by kernel_rfl)
  obtain ⟨m, hm⟩ : ∃ m, Hid (ns.length = m) := ⟨_, Lib.hid rfl⟩
  rw [hm.out] at hmx HFR HFP HN ⊢
  have S0 : Hid (InsS w #[.slice a m cap] X #[.slice none 0 0] (((w.alloc (.cells #[.slice a m cap] 24)).alloc (.cells X 42)).alloc (.cells #[.slice none 0 0] 24))) :=
    ⟨((Blk.new rfl).alloc _).alloc _, (Blk.new (by simp)).alloc _, Blk.new (by simp), (((Below.refl w.heap.size w).alloc (Nat.le_refl _) (.cells #[.slice a m cap] 24)).alloc (by simp) (.cells X 42)).alloc (by simp; omega) (.cells #[.slice none 0 0] 24)⟩
  obtain ⟨fr, hfr⟩ : ∃ z, findN ns x.root = z := ⟨_, rfl⟩
  obtain ⟨fp, hfp⟩ : ∃ z, findN ns x.parent = z := ⟨_, rfl⟩
  have hfpr := findN_rng ns x.parent
  rw [hfr] at HFR
  have HFRE := Lib.hid hfr
  rw [hfp] at HFP hfpr
  rw [hm.out] at hfpr
  obtain ⟨R1, h1⟩ : ∃ z, bytesL x.root = z := ⟨_, rfl⟩
  obtain ⟨R2, h2⟩ : ∃ z, bytesL x.parent = z := ⟨_, rfl⟩
  have HB1 := Lib.hid h1
  have HB2 := Lib.hid h2
  rw [h1] at HFR hir
  rw [h2] at HFP hip
  clear hN hx hX hst1 h1 h2
  unfold InsTE
  obtain ⟨res, hres⟩ : ∃ z, insT ns x st = z := ⟨_, rfl⟩
  rw [hres]
  unfold insT at hres
  rw [hfr, hfp, hm.out] at hres
  by_cases hs : ¬ (0 ≤ st ∧ st ≤ 2)
  · rw [if_pos hs] at hres
    have hqs : Hid (decide (0 ≤ st ∧ st ≤ 2) = false) := decide_eq_false hs
    clear hs
    go_enter Try.func14, Try.ntmps14
    go_wp2_with (first
      | ((with_reducible refine at_build (some 13) ?_); refine wpList_build_g 24 _ rfl #[] (by simp) (.agg #[.slice none 0 0]) (bz_tree _) rfl ?_)
      | ((with_reducible refine at_store (.tmp 6) ?_); refine wpList_store_blk rfl 24 (.tmp 6) _ rfl (w.heap.size + 2) #[.slice none 0 0] rfl rfl #[.slice none 0 0] S1.out.z rfl hi1 (by simp [Value.oneCell']) ?_; intro w9 U9 B9; have HR9 := Lib.hid B9; have HB9 := Lib.hid (U9.below S1.out.b (by omega)); clear U9 B9)
      | (go_at_call 31; refine (HSS.out _).mono ?_; rintro e w1 ⟨rfl, hb1⟩; rw [hqs.out]; have S1 := Lib.hid (S0.out.call hb1); clear hb1)
      | fail)
    exact bodyPost_ret (res_cell_tmp rfl rfl rfl HR9.out Try.underlying24 rfl hi1) rfl ⟨_, by rw [← hres]; rfl, by rw [← hres]; exact nodes_nil _, New.nil _, CapOK.nil, HB9.out⟩
  rw [if_neg hs] at hres
  have hqs : Hid (decide (0 ≤ st ∧ st ≤ 2) = true) := decide_eq_true (Classical.not_not.1 hs)
  clear hs
  by_cases h9 : 0 ≤ fr
  · rw [if_pos h9] at hres
    have h9' : (fr != -1) = true := by simp; omega
    go_enter Try.func14, Try.ntmps14
    go_wp2_with (first
      | ((with_reducible refine at_build (some 19) ?_); refine wpList_build_g 24 _ rfl #[] (by simp) (.agg #[.slice none 0 0]) (bz_tree _) rfl ?_)
      | ((with_reducible refine at_store (.tmp 6) ?_); refine wpList_store_blk rfl 24 (.tmp 6) _ rfl (w.heap.size + 2) #[.slice none 0 0] rfl rfl #[.slice none 0 0] S2.out.z rfl hi1 (by simp [Value.oneCell']) ?_; intro w9 U9 B9; have HR9 := Lib.hid B9; have HB9 := Lib.hid (U9.below S2.out.b (by omega)); clear U9 B9)
      | (go_at_call 22; refine (HFR.out _ S1.out.b).mono ?_; rintro e w2 ⟨rfl, hb2⟩; have S2 := Lib.hid (S1.out.call hb2); clear hb2)
      | (go_at_call 31; refine (HSS.out _).mono ?_; rintro e w1 ⟨rfl, hb1⟩; rw [hqs.out]; have S1 := Lib.hid (S0.out.call hb1); clear hb1)
      | ((with_reducible refine at_load (.tmp 15) ?_); refine wpList_load_rng 34 (.tmp 15) rfl (w.heap.size + 1) 67 R1 (by have := (HBK.out _ _ S1.out.x).root; rw [Nat.zero_add, HB1.out] at this; exact this) rfl _ Try.underlying34 rfl hir rfl ?_)
      | ((with_reducible refine at_load (.tmp 3) ?_); refine wpList_load_g 24 (.tmp 3) rfl w.heap.size rfl #[.slice a m cap] _ S1.out.t Try.underlying24 rfl hi1 rfl ?_)
      | fail)
    exact bodyPost_ret (res_cell_tmp rfl rfl rfl HR9.out Try.underlying24 rfl hi1) rfl ⟨_, by rw [← hres]; rfl, by rw [← hres]; exact nodes_nil _, New.nil _, CapOK.nil, HB9.out⟩
  rw [if_neg h9] at hres
  have hfrr := findN_rng ns x.root
  rw [HFRE.out] at hfrr
  obtain rfl : fr = -1 := by omega
  have h9' : ((-1 : Int) != -1) = false := by simp
  clear h9 hfrr
  by_cases h10 : fp < 0
  · rw [if_pos h10] at hres
    obtain rfl : fp = -1 := by omega
    have h10' : ((-1 : Int) == -1) = true := by simp
    clear h10
    go_enter Try.func14, Try.ntmps14
    go_wp2_with (first
      | ((with_reducible refine at_load (.tmp 21) ?_); refine wpList_load_rng 34 (.tmp 21) rfl (w.heap.size + 1) 99 R2 (by have := (HBK.out _ _ S2.out.x).parent; rw [Nat.zero_add, HB2.out] at this; exact this) rfl _ Try.underlying34 rfl hip rfl ?_)
      | ((with_reducible refine at_load (.tmp 3) ?_); refine wpList_load_g 24 (.tmp 3) rfl w.heap.size rfl #[.slice a m cap] _ S2.out.t Try.underlying24 rfl hi1 rfl ?_)
      | ((with_reducible refine at_build (some 26) ?_); refine wpList_build_g 24 _ rfl #[] (by simp) (.agg #[.slice none 0 0]) (bz_tree _) rfl ?_)
      | ((with_reducible refine at_store (.tmp 6) ?_); refine wpList_store_blk rfl 24 (.tmp 6) _ rfl (w.heap.size + 2) #[.slice none 0 0] rfl rfl #[.slice none 0 0] S3.out.z rfl hi1 (by simp [Value.oneCell']) ?_; intro w9 U9 B9; have HR9 := Lib.hid B9; have HB9 := Lib.hid (U9.below S3.out.b (by omega)); clear U9 B9)
      | (go_at_call 22; refine (HFP.out _ S2.out.b).mono ?_; rintro e w3 ⟨rfl, hb3⟩; have S3 := Lib.hid (S2.out.call hb3); clear hb3)
      | (go_at_call 22; refine (HFR.out _ S1.out.b).mono ?_; rintro e w2 ⟨rfl, hb2⟩; have S2 := Lib.hid (S1.out.call hb2); clear hb2)
      | (go_at_call 31; refine (HSS.out _).mono ?_; rintro e w1 ⟨rfl, hb1⟩; rw [hqs.out]; have S1 := Lib.hid (S0.out.call hb1); clear hb1)
      | ((with_reducible refine at_load (.tmp 15) ?_); refine wpList_load_rng 34 (.tmp 15) rfl (w.heap.size + 1) 67 R1 (by have := (HBK.out _ _ S1.out.x).root; rw [Nat.zero_add, HB1.out] at this; exact this) rfl _ Try.underlying34 rfl hir rfl ?_)
      | ((with_reducible refine at_load (.tmp 3) ?_); refine wpList_load_g 24 (.tmp 3) rfl w.heap.size rfl #[.slice a m cap] _ S1.out.t Try.underlying24 rfl hi1 rfl ?_)
      | fail)
    exact bodyPost_ret (res_cell_tmp rfl rfl rfl HR9.out Try.underlying24 rfl hi1) rfl ⟨_, by rw [← hres]; rfl, by rw [← hres]; exact nodes_nil _, New.nil _, CapOK.nil, HB9.out⟩
  rw [if_neg h10] at hres
  obtain ⟨k, rfl⟩ : ∃ k : Nat, fp = k := ⟨fp.toNat, by omega⟩
  have h10' : ((k : Int) == -1) = false := by simp
  clear h10
  have hk : k < m := by omega
  have hk' : (k : Int) < m := by omega
  have hkn : k < ns.length := by rw [hm.out]; exact hk
  obtain ⟨b, off, rfl, hlm, hbb, hna, hok⟩ := HN.out.elem hkn
  have hsl : slotAt ns (k : Int) = ns[k].b.slot := by simp [slotAt, List.getElem?_eq_getElem hkn]
  rw [hsl] at hres
  have HSL := Lib.hid hna.bk.slot
  obtain ⟨s1, hs1⟩ : ∃ z, ns[k].b.slot = z := ⟨_, rfl⟩
  obtain ⟨s0, hs0⟩ : ∃ z, x.slot = z := ⟨_, rfl⟩
  rw [hs1] at HSL hres
  rw [hs0] at hres
  have HS0 := Lib.hid hs0
  clear hna hok hsl hs1 hs0 hlm
  by_cases h14 : s0 ≤ s1
  · rw [if_pos h14] at hres
    go_enter Try.func14, Try.ntmps14
    go_wp2_with (first
      | ((with_reducible refine at_load (.tmp 21) ?_); refine wpList_load_rng 34 (.tmp 21) rfl (w.heap.size + 1) 99 R2 (by have := (HBK.out _ _ S2.out.x).parent; rw [Nat.zero_add, HB2.out] at this; exact this) rfl _ Try.underlying34 rfl hip rfl ?_)
      | ((with_reducible refine at_load (.tmp 3) ?_); refine wpList_load_g 24 (.tmp 3) rfl w.heap.size rfl #[.slice (some ⟨b, off, none⟩) m cap] _ S2.out.t Try.underlying24 rfl hi1 rfl ?_)
      | (go_at_call 22; refine (HFP.out _ S2.out.b).mono ?_; rintro e w3 ⟨rfl, hb3⟩; have S3 := Lib.hid (S2.out.call hb3); clear hb3)
      | (go_at_call 22; refine (HFR.out _ S1.out.b).mono ?_; rintro e w2 ⟨rfl, hb2⟩; have S2 := Lib.hid (S1.out.call hb2); clear hb2)
      | (go_at_call 31; refine (HSS.out _).mono ?_; rintro e w1 ⟨rfl, hb1⟩; rw [hqs.out]; have S1 := Lib.hid (S0.out.call hb1); clear hb1)
      | ((with_reducible refine at_load (.tmp 15) ?_); refine wpList_load_rng 34 (.tmp 15) rfl (w.heap.size + 1) 67 R1 (by have := (HBK.out _ _ S1.out.x).root; rw [Nat.zero_add, HB1.out] at this; exact this) rfl _ Try.underlying34 rfl hir rfl ?_)
      | ((with_reducible refine at_load (.tmp 3) ?_); refine wpList_load_g 24 (.tmp 3) rfl w.heap.size rfl #[.slice (some ⟨b, off, none⟩) m cap] _ S1.out.t Try.underlying24 rfl hi1 rfl ?_)
      | fail)
    refine wp_region_fam2 (by kernel_rfl) (by kernel_rfl) ?_
    intro T F hT hF hG
    have c0 : ∀ t, (F t).cell? ⟨w.heap.size, 0, none⟩ = some (.slice (some ⟨b, off, none⟩) m cap) := fun t => (S3.out.call (hF t)).t.cell 0
    have c1 : ∀ t, (F t).cell? ⟨w.heap.size + 1, 66, none⟩ = some (.int .u64 s0) := fun t => by
      have := (HBK.out _ _ (S3.out.call (hF t)).x).slot
      rw [Nat.zero_add, HS0.out] at this
      exact this
    have c2 : ∀ t, (F t).cell? ⟨b, off + k * 240 + 66, none⟩ = some (.int .u64 s1) := fun t => ((S3.out.call (hF t)).b.cell (p := ⟨b, off + k * 240 + 66, none⟩) hbb).trans HSL.out
    repeat (go_big_quiet_step (fail))
    refine wpQuiet_nil ?_
    rintro _ ⟨t, rfl⟩
    have S4 := Lib.hid (S3.out.call (hF t))
    obtain ⟨w4, hw4⟩ : ∃ u, F t = u := ⟨_, rfl⟩
    rw [hw4] at S4 ⊢
    clear c0 c1 c2 hG hw4 hF hT
    clear t F T
    go_wp2_with (first
      | ((with_reducible refine at_build (some 37) ?_); refine wpList_build_g 24 _ rfl #[] (by simp) (.agg #[.slice none 0 0]) (bz_tree _) rfl ?_)
      | ((with_reducible refine at_store (.tmp 6) ?_); refine wpList_store_blk rfl 24 (.tmp 6) _ rfl (w.heap.size + 2) #[.slice none 0 0] rfl rfl #[.slice none 0 0] S4.out.z rfl hi1 (by simp [Value.oneCell']) ?_; intro w9 U9 B9; have HR9 := Lib.hid B9; have HB9 := Lib.hid (U9.below S4.out.b (by omega)); clear U9 B9)
      | fail)
    exact bodyPost_ret (res_cell_tmp rfl rfl rfl HR9.out Try.underlying24 rfl hi1) rfl ⟨_, by rw [← hres]; rfl, by rw [← hres]; exact nodes_nil _, New.nil _, CapOK.nil, HB9.out⟩
  rw [if_neg h14] at hres
  have h14' : (s0 ≤ s1) = False := eq_false h14
  clear h14
  by_cases h11 : 4096 ≤ m
  · rw [if_pos h11] at hres
    have h11' : (4096 : Int) ≤ m := by omega
    go_enter Try.func14, Try.ntmps14
    go_wp2_with (first
      | ((with_reducible refine at_load (.tmp 21) ?_); refine wpList_load_rng 34 (.tmp 21) rfl (w.heap.size + 1) 99 R2 (by have := (HBK.out _ _ S2.out.x).parent; rw [Nat.zero_add, HB2.out] at this; exact this) rfl _ Try.underlying34 rfl hip rfl ?_)
      | ((with_reducible refine at_load (.tmp 3) ?_); refine wpList_load_g 24 (.tmp 3) rfl w.heap.size rfl #[.slice (some ⟨b, off, none⟩) m cap] _ S2.out.t Try.underlying24 rfl hi1 rfl ?_)
      | (go_at_call 22; refine (HFP.out _ S2.out.b).mono ?_; rintro e w3 ⟨rfl, hb3⟩; have S3 := Lib.hid (S2.out.call hb3); clear hb3)
      | (go_at_call 22; refine (HFR.out _ S1.out.b).mono ?_; rintro e w2 ⟨rfl, hb2⟩; have S2 := Lib.hid (S1.out.call hb2); clear hb2)
      | (go_at_call 31; refine (HSS.out _).mono ?_; rintro e w1 ⟨rfl, hb1⟩; rw [hqs.out]; have S1 := Lib.hid (S0.out.call hb1); clear hb1)
      | ((with_reducible refine at_load (.tmp 15) ?_); refine wpList_load_rng 34 (.tmp 15) rfl (w.heap.size + 1) 67 R1 (by have := (HBK.out _ _ S1.out.x).root; rw [Nat.zero_add, HB1.out] at this; exact this) rfl _ Try.underlying34 rfl hir rfl ?_)
      | ((with_reducible refine at_load (.tmp 3) ?_); refine wpList_load_g 24 (.tmp 3) rfl w.heap.size rfl #[.slice (some ⟨b, off, none⟩) m cap] _ S1.out.t Try.underlying24 rfl hi1 rfl ?_)
      | fail)
    refine wp_region_fam2 (by kernel_rfl) (by kernel_rfl) ?_
    intro T F hT hF hG
    have c0 : ∀ t, (F t).cell? ⟨w.heap.size, 0, none⟩ = some (.slice (some ⟨b, off, none⟩) m cap) := fun t => (S3.out.call (hF t)).t.cell 0
    have c1 : ∀ t, (F t).cell? ⟨w.heap.size + 1, 66, none⟩ = some (.int .u64 s0) := fun t => by
      have := (HBK.out _ _ (S3.out.call (hF t)).x).slot
      rw [Nat.zero_add, HS0.out] at this
      exact this
    have c2 : ∀ t, (F t).cell? ⟨b, off + k * 240 + 66, none⟩ = some (.int .u64 s1) := fun t => ((S3.out.call (hF t)).b.cell (p := ⟨b, off + k * 240 + 66, none⟩) hbb).trans HSL.out
    repeat (go_big_quiet_step (fail))
    refine wpQuiet_nil ?_
    rintro _ ⟨t, rfl⟩
    have S4 := Lib.hid (S3.out.call (hF t))
    obtain ⟨w4, hw4⟩ : ∃ u, F t = u := ⟨_, rfl⟩
    rw [hw4] at S4 ⊢
    clear c0 c1 c2 hG hw4 hF hT
    clear t F T
    go_wp2_with (first
      | ((with_reducible refine at_load (.tmp 38) ?_); refine wpList_load_1 22 (.tmp 38) rfl w.heap.size 0 (.slice (some ⟨b, off, none⟩) m cap) (S4.out.t.cell 0) rfl _ Try.underlying22 rfl rfl ?_)
      | ((with_reducible refine at_build (some 42) ?_); refine wpList_build_g 24 _ rfl #[] (by simp) (.agg #[.slice none 0 0]) (bz_tree _) rfl ?_)
      | ((with_reducible refine at_store (.tmp 6) ?_); refine wpList_store_blk rfl 24 (.tmp 6) _ rfl (w.heap.size + 2) #[.slice none 0 0] rfl rfl #[.slice none 0 0] S4.out.z rfl hi1 (by simp [Value.oneCell']) ?_; intro w9 U9 B9; have HR9 := Lib.hid B9; have HB9 := Lib.hid (U9.below S4.out.b (by omega)); clear U9 B9)
      | fail)
    exact bodyPost_ret (res_cell_tmp rfl rfl rfl HR9.out Try.underlying24 rfl hi1) rfl ⟨_, by rw [← hres]; rfl, by rw [← hres]; exact nodes_nil _, New.nil _, CapOK.nil, HB9.out⟩
  rw [if_neg h11] at hres
  have h11' : ((4096 : Int) ≤ m) = False := eq_false (by omega)
  have hdok : (⟨x, (k : Int), st⟩ : NdD).ok := ⟨HX.out, by show -9223372036854775808 ≤ (k : Int) ∧ (k : Int) ≤ 9223372036854775807; omega, HST.out⟩
  have HND := Lib.hid (fun u => build_nd x (k : Int) st HX.out u)
  obtain ⟨d, hd⟩ : ∃ d : NdD, Hid ((⟨x, (k : Int), st⟩ : NdD) = d) := ⟨_, Lib.hid rfl⟩
  rw [hd.out] at HND hdok hres
  obtain ⟨Y, hY⟩ : ∃ Y, Hid (d.cells.toArray = Y) := ⟨_, Lib.hid rfl⟩
  have hsY : Y.size = 240 := by rw [← hY.out, List.size_toArray, NdD.len hdok]
  have HYO : Hid (∀ v ∈ Y, v.oneCell' = true) := by show ∀ v ∈ Y, v.oneCell' = true; rw [← hY.out]; exact fun v hv => NdD.one d v (by simpa using hv)
  have hiY : (Try.prog.info? 44).map (·.size) = some Y.size := by rw [hsY]; kernel_rfl
  have HSY := Lib.hid hsY
  rw [hY.out, HXE.out] at HND
  have HDOK := Lib.hid hdok
  obtain ⟨Z, hZ⟩ : ∃ Z, flatP (zeBkP ++ [[.int .i64 0], [.int .i64 0]]) = Z := ⟨_, rfl⟩
  have hsz : Z.size = 240 := by rw [← hZ]; rfl
  obtain ⟨hz240, hst240⟩ := zero_array (P := Try.prog) (t := 44) (n := 240) Z (by rw [← hZ]; kernel_rfl) hsz (by rw [← hZ]; kernel_rfl)
  have HSZ := Lib.hid hsz
  have HFL : Hid ([ns, [d]].flatten = ns ++ [d]) := by show _ = _; simp
  have HLA : Hid ((ns ++ [d]).length = m + 1) := by show _ = _; rw [List.length_append, hm.out]; rfl
  have HMM : Hid (m < 4096) := by show m < 4096; omega
  clear hdok hst240 hZ hsY hsz
  have HPF : Hid (∀ u, Below w.heap.size w u → PartsN ((u.alloc (.cells Y 44)).alloc (.cells #[.slice (some ⟨b, off, none⟩) m cap, .slice (some ⟨u.heap.size, 0, none⟩) 1 1] 22)) (u.heap.size + 1) 2 #[.slice (some ⟨b, off, none⟩) m cap, .slice (some ⟨u.heap.size, 0, none⟩) 1 1] [ns, [d]]) := fun u hu => by
    refine ⟨Blk.new (by simp), rfl, rfl, fun j hj => ?_⟩
    have hal : Below u.heap.size u ((u.alloc (.cells Y 44)).alloc (.cells #[.slice (some ⟨b, off, none⟩) m cap, .slice (some ⟨u.heap.size, 0, none⟩) 1 1] 22)) := al2 u _ _
    rcases (show j = 0 ∨ j = 1 by omega) with rfl | rfl
    · exact (HN.out.call hu).call hal
    · refine nodes_one ?_ HDOK.out
      rw [hY.out]
      exact (Blk.new rfl).alloc _
  go_enter Try.func14, Try.ntmps14
  go_wp2_with (first
    | ((with_reducible refine at_load (.tmp 21) ?_); refine wpList_load_rng 34 (.tmp 21) rfl (w.heap.size + 1) 99 R2 (by have := (HBK.out _ _ S2.out.x).parent; rw [Nat.zero_add, HB2.out] at this; exact this) rfl _ Try.underlying34 rfl hip rfl ?_)
    | ((with_reducible refine at_load (.tmp 3) ?_); refine wpList_load_g 24 (.tmp 3) rfl w.heap.size rfl #[.slice (some ⟨b, off, none⟩) m cap] _ S2.out.t Try.underlying24 rfl hi1 rfl ?_)
    | (go_at_call 22; refine (HFP.out _ S2.out.b).mono ?_; rintro e w3 ⟨rfl, hb3⟩; have S3 := Lib.hid (S2.out.call hb3); clear hb3)
    | (go_at_call 22; refine (HFR.out _ S1.out.b).mono ?_; rintro e w2 ⟨rfl, hb2⟩; have S2 := Lib.hid (S1.out.call hb2); clear hb2)
    | (go_at_call 31; refine (HSS.out _).mono ?_; rintro e w1 ⟨rfl, hb1⟩; rw [hqs.out]; have S1 := Lib.hid (S0.out.call hb1); clear hb1)
    | ((with_reducible refine at_load (.tmp 15) ?_); refine wpList_load_rng 34 (.tmp 15) rfl (w.heap.size + 1) 67 R1 (by have := (HBK.out _ _ S1.out.x).root; rw [Nat.zero_add, HB1.out] at this; exact this) rfl _ Try.underlying34 rfl hir rfl ?_)
    | ((with_reducible refine at_load (.tmp 3) ?_); refine wpList_load_g 24 (.tmp 3) rfl w.heap.size rfl #[.slice (some ⟨b, off, none⟩) m cap] _ S1.out.t Try.underlying24 rfl hi1 rfl ?_)
    | fail)
  refine wp_region_fam2 (by kernel_rfl) (by kernel_rfl) ?_
  intro T F hT hF hG
  have c0 : ∀ t, (F t).cell? ⟨w.heap.size, 0, none⟩ = some (.slice (some ⟨b, off, none⟩) m cap) := fun t => (S3.out.call (hF t)).t.cell 0
  have c1 : ∀ t, (F t).cell? ⟨w.heap.size + 1, 66, none⟩ = some (.int .u64 s0) := fun t => by
    have := (HBK.out _ _ (S3.out.call (hF t)).x).slot
    rw [Nat.zero_add, HS0.out] at this
    exact this
  have c2 : ∀ t, (F t).cell? ⟨b, off + k * 240 + 66, none⟩ = some (.int .u64 s1) := fun t => ((S3.out.call (hF t)).b.cell (p := ⟨b, off + k * 240 + 66, none⟩) hbb).trans HSL.out
  repeat (go_big_quiet_step (fail))
  refine wpQuiet_nil ?_
  rintro _ ⟨t, rfl⟩
  have S4 := Lib.hid (S3.out.call (hF t))
  obtain ⟨w4, hw4⟩ : ∃ u, F t = u := ⟨_, rfl⟩
  rw [hw4] at S4 ⊢
  clear c0 c1 c2 hG hw4 hF hT
  clear t F T
  go_wp2_with (first
    | ((with_reducible refine at_load (.tmp 38) ?_); refine wpList_load_1 22 (.tmp 38) rfl w.heap.size 0 (.slice (some ⟨b, off, none⟩) m cap) (S4.out.t.cell 0) rfl _ Try.underlying22 rfl rfl ?_)
    | ((with_reducible refine at_load (.tmp 4) ?_); refine wpList_load_g 42 (.tmp 4) rfl (w.heap.size + 1) rfl X _ S4.out.x Try.underlying42 rfl hiX rfl ?_)
    | ((with_reducible refine at_build (some 46) ?_); refine wpList_build_g 44 _ rfl #[(0, .agg X), (1, .int .i64 (k : Int)), (2, .int .i64 st)] (by simp [Act.eval, Act.put]) (.agg Y) (HND.out _) rfl ?_)
    | ((with_reducible refine at_store (.tmp 9) ?_); refine wpList_store_blk rfl 44 (.tmp 9) _ rfl w4.heap.size Y rfl rfl Z (Blk.new rfl) (by rw [HSZ.out, HSY.out]) hiY HYO.out ?_; intro w5 U5 B5; have hb5 := U5.below ((Below.refl w4.heap.size w4).alloc (Nat.le_refl _) (.cells Z 44)) (Nat.le_refl _); have S5 := Lib.hid (S4.out.call hb5); have BY5 := Lib.hid B5; clear U5 B5 hb5)
    | ((with_reducible refine at_load (.tmp 47) ?_); refine wpList_load_1 22 (.tmp 47) rfl w.heap.size 0 (.slice (some ⟨b, off, none⟩) m cap) (S5.out.t.cell 0) rfl _ Try.underlying22 rfl rfl ?_)
    | ((with_reducible refine at_load (.tmp 9) ?_); refine wpList_load_g 44 (.tmp 9) rfl w4.heap.size rfl Y _ BY5.out Try.underlying44 rfl hiY rfl ?_)
    | ((with_reducible refine at_buildSliceE (some 50) ?_); refine wpList_buildSliceE rfl 22 1 _ rfl #[(0, .agg Y)] (by simp [Act.eval, Act.put]) _ (bel_node HSY.out _) ?_)
    | ((with_reducible refine at_buildSliceE (some 51) ?_); refine wpList_buildSliceE rfl 69 2 _ rfl #[(0, .slice (some ⟨b, off, none⟩) m cap), (1, .slice (some ⟨w5.heap.size, 0, none⟩) 1 1)] (by simp [Act.eval, Act.put]) _ (bs_nodes2 _ _ _ _ _ _ _) ?_; have HPN := Lib.hid (HPF.out w5 S5.out.b); have S7 := Lib.hid (S5.out.call (al2 w5 (.cells Y 44) (.cells #[.slice (some ⟨b, off, none⟩) m cap, .slice (some ⟨w5.heap.size, 0, none⟩) 1 1] 22))))
    | (go_at_call 32; refine (concatN _ 2 _ [ns, [d]] _ HPN.out (by omega) (by have := HMM.out; simp [hm.out]; omega)).mono ?_; rintro e w8 ⟨v8, rfl, ho8, hb8⟩; rw [HFL.out] at ho8; have hnd8 := ho8.elV ndOK; obtain ⟨va, vc, hv8, _, hcap8, _⟩ := ho8.shape; rw [HLA.out] at hv8 hcap8; subst hv8; have HC8 := Lib.hid hcap8; clear hcap8; have HN8 := Lib.hid hnd8; have HO8 := Lib.hid ho8; have S8 := Lib.hid (S7.out.call hb8); clear hb8 ho8 hnd8)
    | ((with_reducible refine at_build (some 53) ?_); refine wpList_build_g 24 _ rfl #[(0, .slice va (m + 1) vc)] (by simp [Act.eval, Act.put]) (.agg #[.slice va (m + 1) vc]) (b_tree _ _ _ _) rfl ?_)
    | ((with_reducible refine at_store (.tmp 6) ?_); refine wpList_store_blk rfl 24 (.tmp 6) _ rfl (w.heap.size + 2) #[.slice va (m + 1) vc] rfl rfl #[.slice none 0 0] S8.out.z rfl hi1 (by simp [Value.oneCell']) ?_; intro w9 U9 B9; have HR9 := Lib.hid B9; have HB9 := Lib.hid (U9.below S8.out.b (by omega)); have HU9 := Lib.hid U9; clear U9 B9)
    | fail)
  refine bodyPost_ret (res_cell_tmp rfl rfl rfl HR9.out Try.underlying24 rfl hi1) rfl ⟨_, by rw [← hres]; rfl, ?_, ?_, ?_, HB9.out⟩
  · rw [← hres]
    have hO := HO8.out.newEl
    exact NodesV.grownOff (w := w8) HN8.out (upd_grown HU9.out) (HO8.out.newEl.off (by have := S5.out.z.lt; simp; omega))
  · exact HO8.out.newEl.mono (by have := S5.out.z.lt; simp; omega)
  · intro a n c e
    cases e
    exact HC8.out
end

/-! BtD -/
section
set_option linter.unusedVariables false
set_option linter.unusedSimpArgs false
open Go.RowKit

set_option maxRecDepth 100000

/-- '[]int{}'. -/
theorem bs_int0 (u : World) : (Instr.buildSlice 29 0 #[]).run Try.prog u = .ok (.slice (some ⟨u.heap.size, 0, none⟩) 0 0) (u.alloc (.cells #[] 3)) := by kernel_rfl

theorem own_int0 {u : World} {B : Nat} (hB : B ≤ u.heap.size) : OwnK .i64 3 (u.alloc (.cells #[] 3)) B (.slice (some ⟨u.heap.size, 0, none⟩) 0 0) [] :=
  World.ownsRow_made u #[] 0 hB (Nat.zero_le _) (by simp)

/-- Truth values as cells of a row. -/
def bolL (xs : List Bool) : List (List Value) := xs.map fun x => [Value.bool x]

theorem bolL_sz (xs : List Bool) : ∀ L ∈ bolL xs, L.length = 1 := fun L hL => by
  obtain ⟨x, _, rfl⟩ := List.mem_map.1 hL
  rfl

theorem bolL_flat (xs : List Bool) : (bolL xs).flatten = xs.map Value.bool := by
  induction xs with
  | nil => rfl
  | cons x r ih => simp only [bolL, List.map_cons, List.flatten_cons] at *; rw [ih]; rfl

theorem bolL_len (xs : List Bool) : (bolL xs).length = xs.length := by simp [bolL]

theorem RowB.bol {w : World} {g : Nat} {xs : List Bool} (h : RowB w g (bolL xs)) {i : Nat} (hi : i < xs.length) : w.cell? ⟨g, i, none⟩ = some (.bool (xs.getD i false)) := by
  have h1 := h.cell (bolL_sz xs) (k := i) (j := 0) (L := [.bool (xs.getD i false)]) (v := .bool (xs.getD i false)) (by simp [bolL, List.getD, List.getElem?_eq_getElem hi]) rfl
  rw [Nat.mul_one, Nat.add_zero] at h1
  exact h1

theorem wpList_store_bol {P : Program} {ops : Array Oper} {rest : List Oper} {op : Oper} {a : Act} {w : World} {Q : Exit → Act → World → Prop} (hgd : op.guard = none) (ty : TypeId) (x y : Operand) (ho : op.op = .store ty x y)
    (g i : Nat) (xs : List Bool) (n : Bool) (hB : RowB w g (bolL xs)) (hk : i < xs.length) (hx : a.eval x = .pointer (some ⟨g, i, none⟩)) (hy : a.eval y = .bool n) (hi : (P.info? ty).map (·.size) = some 1)
    (h : ∀ w', Upd g w w' → RowB w' g (bolL (xs.set i n)) → wpList P ops Q rest (a.put op.dst undef) w') : wpList P ops Q (op :: rest) a w := by
  obtain ⟨sp, hB⟩ := hB
  have hl : i < (bolL xs).length := by rw [bolL_len]; exact hk
  refine wpList_store_part1 hgd ty x y ho g (bolL xs ++ [sp]) i (.bool (xs.getD i false)) (.bool n) hB (by rw [List.getElem?_append_left hl]; simp [bolL, List.getD, List.getElem?_eq_getElem hk]) (by rw [offP_row (bolL_sz xs) sp hl, Nat.mul_one]; exact hx) hy hi rfl rfl ?_
  intro w' U B
  refine h w' U ⟨sp, ?_⟩
  rw [List.set_append_left _ _ hl] at B
  rw [show bolL (xs.set i n) = (bolL xs).set i [.bool n] from by simp [bolL, List.map_set]]
  exact B

/-- make([]bool, n). -/
theorem wpList_make_bol {ops : Array Oper} {rest : List Oper} {o : Oper} {a : Act} {w : World} {Q : Exit → Act → World → Prop} (hg : o.guard = none) (l : Operand) (hop : o.op = Op.makeSlice 66 l l)
    (kl : IntKind) (n : Nat) (hl : a.eval l = .int kl (n : Int)) (hn : n ≤ 1000000)
    (hK : ∀ w', Below w.heap.size w w' → RowB w' w.heap.size (bolL (List.replicate n false)) → wpList Try.prog ops Q rest (a.put o.dst (.slice (some ⟨w.heap.size, 0, none⟩) n n)) w') : wpList Try.prog ops Q (o :: rest) a w := by
  obtain ⟨i0, hi0, hz0, hz1, hz2⟩ := info_parts (show (Try.prog.info? 4).map (fun i => (i.zero, i.size, i.bytes)) = some (some (.bool false), 1, 1) by kernel_rfl)
  refine wpList_plain hg fun _ hK' => ?_
  have hr := run_make (P := Try.prog) w 66 4 i0 (.bool false) Try.underlying66 hi0 hz0 kl kl n n (by omega) (by omega) (by rw [hz2]; omega) (by omega)
  simp only [Int.toNat_natCast, hz1, Nat.mul_one] at hr
  have hm : madeCells (Value.bool false).cells n = flatP (bolL (List.replicate n false) ++ [[]]) := by
    apply Array.toList_inj.1
    rw [show (Value.bool false).cells = #[Value.bool false] from rfl, toList_madeCells_one]
    unfold flatP
    rw [List.flatten_append, bolL_flat]
    simp
  rw [hm] at hr
  unfold Oper.wp
  simp only [execOp, hop, hl, Sem.run_bind, hr, Result.andThen, Sem.run_pure]
  exact hK' _ _ (hK _ ((Below.refl _ w).alloc (Nat.le_refl _) _) ⟨[], Blk.new rfl⟩)

set_option maxHeartbeats 8000000 in
theorem cchild_out (ns : List NdD) (i : Int) (v : Value) (w : World) (hN : NodesV w v ns) (hi : ¬ (0 ≤ i ∧ i < ns.length)) :
    Calls Try.prog 18 #[.agg #[v], .int .i64 i] w (SelE (childN ns i) w) := by
  obtain ⟨a, cap, rfl, hmx⟩ := hN.shape
  unfold maxLen at hmx
  have HIS := Lib.hid (fun u (hu : Below w.heap.size w u) => cisn_any _ ns i u (hN.call hu))
  have HD : Hid (decide (0 ≤ i ∧ i < (ns.length : Int)) = false) := decide_eq_false hi
  have HRES : Hid (childN ns i = []) := by show childN ns i = []; unfold childN; rw [if_neg hi]
  have hi1 : (Try.prog.info? 24).map (·.size) = some 1 := by kernel_rfl
  obtain ⟨m, hm⟩ : ∃ m, ns.length = m := ⟨_, rfl⟩
  rw [hm] at hmx HIS HD ⊢
  have S0 := Lib.hid (pas_new w #[.slice a m cap] 24)
  clear hN hi hm
  go_enter Try.func18, Try.ntmps18
  go_wp2_with (first
    | ((with_reducible refine at_load (.tmp 2) ?_); refine wpList_load_g 24 (.tmp 2) rfl w.heap.size rfl #[.slice a m cap] _ S0.out.t Try.underlying24 rfl hi1 rfl ?_)
    | (go_at_call 33; refine (HIS.out _ S0.out.b).mono ?_; rintro e w2 ⟨rfl, hb2⟩; rw [HD.out]; have S2 := Lib.hid (S0.out.call hb2); clear hb2))
  go_ret
  exact ⟨_, rfl, by rw [HRES.out]; exact OwnK.nil _ _ _ _, S2.out.b⟩

set_option maxHeartbeats 8000000 in
theorem cchild_in (ns : List NdD) (i : Int) (v : Value) (w : World) (hN : NodesV w v ns) (hi : 0 ≤ i ∧ i < ns.length) (hlen : ns.length ≤ 100000) :
    Calls Try.prog 18 #[.agg #[v], .int .i64 i] w (SelE (childN ns i) w) := by
  obtain ⟨a, cap, rfl, hmx⟩ := hN.shape
  unfold maxLen at hmx
  have HIS := Lib.hid (fun u (hu : Below w.heap.size w u) => cisn_any _ ns i u (hN.call hu))
  have HD : Hid (decide (0 ≤ i ∧ i < (ns.length : Int)) = true) := decide_eq_true hi
  have HII := Lib.hid info_int
  have HN := Lib.hid hN
  have hi1 : (Try.prog.info? 24).map (·.size) = some 1 := by kernel_rfl
  unfold childN
  rw [if_pos hi]
  obtain ⟨p, hp⟩ : ∃ p : Nat → Bool, (fun (k : Nat) => decide (upI ns k = i)) = p := ⟨_, rfl⟩
  have HPP : Hid (∀ k : Nat, decide (upI ns k = i) = p k) := fun k => by rw [← hp]
  rw [hp]
  obtain ⟨m, hm⟩ : ∃ m, Hid (ns.length = m) := ⟨_, Lib.hid rfl⟩
  rw [hm.out] at hmx HIS HD hlen HN ⊢
  have S0 := Lib.hid (pas_new w #[.slice a m cap] 24)
  clear hN hi hp
  go_enter Try.func18, Try.ntmps18
  go_wp2_with (first
    | ((with_reducible refine at_load (.tmp 2) ?_); refine wpList_load_g 24 (.tmp 2) rfl w.heap.size rfl #[.slice a m cap] _ S0.out.t Try.underlying24 rfl hi1 rfl ?_)
    | (go_at_call 33; refine (HIS.out _ S0.out.b).mono ?_; rintro e w2 ⟨rfl, hb2⟩; rw [HD.out]; have S2 := Lib.hid (S0.out.call hb2); clear hb2)
    | ((with_reducible refine at_buildSliceE (some 11) ?_); refine wpList_buildSliceE rfl 29 0 _ rfl #[] (by simp) _ (bs_int0 _) ?_; have S3 := Lib.hid (S2.out.call ((Below.refl w2.heap.size w2).alloc (Nat.le_refl _) (.cells #[] 3))); have HO3 : Hid (OwnK .i64 3 (w2.alloc (.cells #[] 3)) (w.heap.size + 1) (.slice (some ⟨w2.heap.size, 0, none⟩) 0 0) []) := own_int0 S2.out.t.lt)
    | ((with_reducible refine at_load (.tmp 12) ?_); refine wpList_load_1 22 (.tmp 12) rfl w.heap.size 0 (.slice a m cap) (S3.out.t.cell 0) rfl _ Try.underlying22 rfl rfl ?_))
  go_loopw [5, 15] (fun v i wr => SelI w #[.slice a m cap] p m v i wr) (fun _ i _ => m - (intOf i).toNat)
  case atStart => exact ⟨0, Nat.zero_le _, rfl, HO3.out, S3.out⟩
  case round =>
    obtain ⟨k, hk, rfl, hown, hs⟩ := hrel
    have HOW := Lib.hid hown
    have S4 := Lib.hid hs
    have HXL := Lib.hid (selK_len p k)
    clear hown hs
    by_cases hlt : k < m
    case neg =>
      obtain rfl : k = m := by omega
      go_wp2_with fail
      go_ret
      exact ⟨_, rfl, HOW.out.lower (by omega), S4.out.b⟩
    have hlt' : (k : Int) < m := by omega
    have hkn : k < ns.length := by rw [hm.out]; exact hlt
    obtain ⟨b, off, rfl, hlm, hbb, hna, _⟩ := HN.out.elem hkn
    have HUP := Lib.hid hna.up
    have hpk := HPP.out k
    rw [upI_at hkn] at hpk
    obtain ⟨u, hu⟩ : ∃ u, ns[k].up = u := ⟨_, rfl⟩
    rw [hu] at HUP hpk
    have HU2 := Lib.hid ((S4.out.b.cell (p := ⟨b, off + k * 240 + 238, none⟩) hbb).trans HUP.out)
    clear hlm hna hu
    cases hpk2 : p k
    case false =>
      have HNX := Lib.hid (selK_no hpk2)
      rw [hpk2] at hpk
      have hbe : (u == i) = false := by simpa using hpk
      clear hpk hpk2
      go_wp2_with (first
        | ((with_reducible refine at_load (.tmp 18) ?_); refine wpList_load_1 22 (.tmp 18) rfl w.heap.size 0 (.slice (some ⟨b, off, none⟩) m cap) (S4.out.t.cell 0) rfl _ Try.underlying22 rfl rfl ?_)
        | ((with_reducible refine at_load (.tmp 22) ?_); refine wpList_load_1 3 (.tmp 22) rfl b (off + k * 240 + 238) (.int .i64 u) HU2.out rfl _ Try.underlying3 rfl rfl ?_))
      go_roundw
      case rel => exact ⟨k + 1, by omega, by go_num, by rw [HNX.out]; exact HOW.out, S4.out⟩
      case measure => simp [intOf]; omega
    case true =>
      have HNX := Lib.hid (selK_yes hpk2)
      rw [hpk2] at hpk
      have hbe : (u == i) = true := by simpa using hpk
      clear hpk hpk2
      go_wp2_with (first
        | ((with_reducible refine at_load (.tmp 18) ?_); refine wpList_load_1 22 (.tmp 18) rfl w.heap.size 0 (.slice (some ⟨b, off, none⟩) m cap) (S4.out.t.cell 0) rfl _ Try.underlying22 rfl rfl ?_)
        | ((with_reducible refine at_load (.tmp 22) ?_); refine wpList_load_1 3 (.tmp 22) rfl b (off + k * 240 + 238) (.int .i64 u) HU2.out rfl _ Try.underlying3 rfl rfl ?_)
        | ((with_reducible refine at_app (.tmp 26) (.tmp 28) ?_); refine wpList_app1 HII.out (by omega) Try.underlying29 (.tmp 26) (.tmp 28) rfl rfl (w.heap.size + 1) _ _ rfl (HOW.out.grown (World.grownBy_alloc _ (.cells #[.int .i64 (k : Int)] 3) none) (fun n _ => by simp)) wr.heap.size 1 (k : Int) rfl ((Blk.new rfl).cell 0) (by have := HXL.out; omega) (by have := S4.out.t.lt; simp; omega) ?_; intro v3 w3 h3 g3 o3; rw [← HNX.out] at h3; have HO5 := Lib.hid h3; have S5 := Lib.hid ((S4.out.call ((Below.refl wr.heap.size wr).alloc (Nat.le_refl _) (.cells #[.int .i64 (k : Int)] 3))).grown g3 HOW.out.off1); clear h3 g3 o3))
      go_roundw
      case rel => exact ⟨k + 1, by omega, by go_num, HO5.out, S5.out⟩
      case measure => simp [intOf]; omega

theorem cchild_any (ns : List NdD) (i : Int) (v : Value) (w : World) (hN : NodesV w v ns) (hlen : ns.length ≤ 100000) :
    Calls Try.prog 18 #[.agg #[v], .int .i64 i] w (SelE (childN ns i) w) := by
  by_cases h : 0 ≤ i ∧ i < ns.length
  · exact cchild_in ns i v w hN h hlen
  · exact cchild_out ns i v w hN h
/-! ### Depth -/

def DepI (w : World) (T : Array Value) (ns : List NdD) (L : Nat) (i d : Value) (wr : World) : Prop :=
  ∃ iv dv : Int, i = .int .i64 iv ∧ d = .int .i64 dv ∧ 0 ≤ dv ∧ dv + (pathN ns iv).length = L ∧ (-9223372036854775808 ≤ iv ∧ iv ≤ 9223372036854775807) ∧ PaS w T wr

theorem up_step {ns : List NdD} (h : TrOK ns) {k : Nat} (hk : k < ns.length) : ∃ u : Int, ns[k].up = u ∧ -1 ≤ u ∧ u < k ∧ (pathN ns (k : Int)).length = (pathN ns u).length + 1 := by
  by_cases h0 : k = 0
  · subst h0
    refine ⟨-1, h.root hk, by omega, by omega, ?_⟩
    rw [show ((0 : Nat) : Int) = 0 from rfl, pathN_zero hk, pathN_out (by omega)]
    rfl
  · obtain ⟨h1, h2, h3⟩ := h.upAt hk (by omega)
    refine ⟨_, h3, by omega, by omega, ?_⟩
    rw [pathN_step h hk (by omega), List.length_append]
    rfl

set_option maxHeartbeats 8000000 in
theorem cdepth_any (ns : List NdD) (hok : TrOK ns) (hlen : ns.length ≤ 100000) (i : Int) (hir : -9223372036854775808 ≤ i ∧ i ≤ 9223372036854775807) (v : Value) (w : World) (hN : NodesV w v ns) :
    Calls Try.prog 20 #[.agg #[v], .int .i64 i] w fun e w' => e = .returned (.int .i64 ((pathN ns i).length : Nat)) ∧ Below w.heap.size w w' := by
  obtain ⟨a, cap, rfl, hmx⟩ := hN.shape
  unfold maxLen at hmx
  have HIS := Lib.hid (fun (k : Int) u (hu : Below w.heap.size w u) => cisn_any _ ns k u (hN.call hu))
  have HN := Lib.hid hN
  have HOK := Lib.hid hok
  have HLE := Lib.hid (pathN_len ns i)
  have hi1 : (Try.prog.info? 24).map (·.size) = some 1 := by kernel_rfl
  obtain ⟨m, hm⟩ : ∃ m, Hid (ns.length = m) := ⟨_, Lib.hid rfl⟩
  rw [hm.out] at hmx HIS hlen HN HLE ⊢
  have S0 := Lib.hid (pas_new w #[.slice a m cap] 24)
  obtain ⟨L, hL⟩ : ∃ L, (pathN ns i).length = L := ⟨_, rfl⟩
  have HL := Lib.hid hL
  rw [hL] at HLE ⊢
  clear hN hok hL
  go_enter Try.func20, Try.ntmps20
  go_wp2_with fail
  go_loopw [1, 5] (fun i d wr => DepI w #[.slice a m cap] ns L i d wr) (fun i _ _ => (intOf i + 1).toNat)
  case atStart => exact ⟨i, 0, rfl, rfl, by omega, by rw [HL.out]; omega, hir, S0.out⟩
  case round =>
    obtain ⟨iv, dv, rfl, rfl, hd0, hdl, hir, hs⟩ := hrel
    have S1 := Lib.hid hs
    have HIR := Lib.hid hir
    have HDL := Lib.hid hdl
    have hdm : dv ≤ 100000 := by have := HLE.out; omega
    clear hs hir hdl
    by_cases hin : 0 ≤ iv ∧ iv < m
    case neg =>
      have HD : Hid (decide (0 ≤ iv ∧ iv < (m : Int)) = false) := decide_eq_false hin
      have hp : pathN ns iv = [] := pathN_out (by rw [hm.out]; exact hin)
      have HQ : Hid (dv = L) := by have := HDL.out; rw [hp] at this; show dv = L; simpa using this
      clear hin hp
      go_wp2_with (first
        | ((with_reducible refine at_load (.tmp 2) ?_); refine wpList_load_g 24 (.tmp 2) rfl w.heap.size rfl #[.slice a m cap] _ S1.out.t Try.underlying24 rfl hi1 rfl ?_)
        | (go_at_call 33; refine (HIS.out _ _ S1.out.b).mono ?_; rintro e w2 ⟨rfl, hb2⟩; rw [HD.out]; have S2 := Lib.hid (S1.out.call hb2); clear hb2))
      go_ret
      exact ⟨by first | rfl | (rw [HQ.out]; rfl), S2.out.b⟩
    obtain ⟨k, rfl⟩ : ∃ k : Nat, iv = k := ⟨iv.toNat, by omega⟩
    have HD : Hid (decide (0 ≤ (k : Int) ∧ (k : Int) < (m : Int)) = true) := decide_eq_true hin
    have hkn : k < ns.length := by rw [hm.out]; omega
    have hlt' : (k : Int) < m := by omega
    obtain ⟨b, off, rfl, hlm, hbb, hna, _⟩ := HN.out.elem hkn
    have HUP := Lib.hid hna.up
    obtain ⟨u, hu, hu0, hu1, hul⟩ := up_step HOK.out hkn
    rw [hu] at HUP
    have HUL := Lib.hid hul
    clear hin hlm hna hu hul
    go_wp2_with (first
      | ((with_reducible refine at_load (.tmp 2) ?_); refine wpList_load_g 24 (.tmp 2) rfl w.heap.size rfl #[.slice (some ⟨b, off, none⟩) m cap] _ S1.out.t Try.underlying24 rfl hi1 rfl ?_)
      | (go_at_call 33; refine (HIS.out _ _ S1.out.b).mono ?_; rintro e w2 ⟨rfl, hb2⟩; rw [HD.out]; have S2 := Lib.hid (S1.out.call hb2); have HU2 := Lib.hid ((S2.out.b.cell (p := ⟨b, off + k * 240 + 238, none⟩) hbb).trans HUP.out); clear hb2)
      | ((with_reducible refine at_load (.tmp 11) ?_); refine wpList_load_1 22 (.tmp 11) rfl w.heap.size 0 (.slice (some ⟨b, off, none⟩) m cap) (S2.out.t.cell 0) rfl _ Try.underlying22 rfl rfl ?_)
      | ((with_reducible refine at_load (.tmp 15) ?_); refine wpList_load_1 3 (.tmp 15) rfl b (off + k * 240 + 238) (.int .i64 u) HU2.out rfl _ Try.underlying3 rfl rfl ?_))
    go_roundw
    case rel => exact ⟨u, dv + 1, by go_num, by go_num, by omega, by have h1 := HDL.out; have h2 := HUL.out; omega, by omega, S2.out⟩
    case measure => simp [intOf]; omega
/-! ### Leaves -/

def markB (ns : List NdD) (k j : Nat) : Bool := (List.range k).any fun i => decide (upI ns i = (j : Int))

def markL (ns : List NdD) (m k : Nat) : List Bool := (List.range m).map (markB ns k)

theorem markL_len (ns : List NdD) (m k : Nat) : (markL ns m k).length = m := by simp [markL]

theorem markL_zero (ns : List NdD) (m : Nat) : List.replicate m false = markL ns m 0 := by
  apply List.ext_getElem?
  intro j
  simp only [markL, List.getElem?_replicate, List.getElem?_map, List.getElem?_range']
  by_cases h : j < m
  · simp [h, markB]
  · simp [h]

theorem markB_succ (ns : List NdD) (k j : Nat) : markB ns (k + 1) j = (markB ns k j || decide (upI ns k = (j : Int))) := by
  simp [markB, List.range_succ]

theorem markL_get (ns : List NdD) (m k j : Nat) (h : j < m) : (markL ns m k).getD j false = markB ns k j := by
  simp [markL, List.getD, h]

theorem markL_skip {ns : List NdD} {m k : Nat} (h : ¬ (0 ≤ upI ns k ∧ upI ns k < m)) : markL ns m (k + 1) = markL ns m k := by
  refine List.map_congr_left fun j hj => ?_
  rw [markB_succ]
  have : decide (upI ns k = (j : Int)) = false := decide_eq_false (fun e => h (by have := List.mem_range.1 hj; omega))
  rw [this, Bool.or_false]

theorem markL_set {ns : List NdD} {m k u : Nat} (h : upI ns k = (u : Int)) : (markL ns m k).set u true = markL ns m (k + 1) := by
  apply List.ext_getElem?
  intro j
  rw [List.getElem?_set, markL_len]
  by_cases hj : j < m
  · have e1 : (markL ns m (k + 1))[j]? = some (markB ns (k + 1) j) := by simp [markL, hj]
    have e2 : (markL ns m k)[j]? = some (markB ns k j) := by simp [markL, hj]
    rw [e1, e2, markB_succ, h]
    by_cases e : u = j
    · subst e; simp [hj]
    · have : decide ((u : Int) = (j : Int)) = false := decide_eq_false (by omega)
      rw [this, if_neg e, Bool.or_false]
  · have e1 : (markL ns m (k + 1))[j]? = none := List.getElem?_eq_none (by rw [markL_len]; omega)
    have e2 : (markL ns m k)[j]? = none := List.getElem?_eq_none (by rw [markL_len]; omega)
    rw [e1, e2]
    by_cases e : u = j
    · subst e; simp [hj]
    · simp [e]

theorem selK_congr {p q : Nat → Bool} : ∀ {k : Nat}, (∀ j, j < k → p j = q j) → selK p k = selK q k
  | 0, _ => rfl
  | k + 1, h => by
    have ih := selK_congr (k := k) (fun j hj => h j (by omega))
    have hk := h k (by omega)
    cases e : p k
    · rw [selK_no e, selK_no (hk ▸ e), ih]
    · rw [selK_yes e, selK_yes (hk ▸ e), ih]

theorem leaf_mark (ns : List NdD) : leafN ns = selK (fun j => !markB ns ns.length j) ns.length := by
  refine selK_congr fun j hj => ?_
  have hc : childN ns (j : Int) = selK (fun k => decide (upI ns k = (j : Int))) ns.length := by unfold childN; rw [if_pos (by omega)]
  rw [hc]
  cases hm : markB ns ns.length j
  · refine decide_eq_true (Nat.eq_zero_of_not_pos fun h => ?_)
    obtain ⟨x, hx⟩ := List.exists_mem_of_length_pos h
    obtain ⟨i, h1, _, h3⟩ := selK_mem.1 hx
    have : markB ns ns.length j = true := List.any_eq_true.2 ⟨i, List.mem_range.2 h1, h3⟩
    rw [hm] at this; cases this
  · refine decide_eq_false fun h => ?_
    obtain ⟨i, h1, h2⟩ := List.any_eq_true.1 hm
    have hx : (i : Int) ∈ selK (fun k => decide (upI ns k = (j : Int))) ns.length := selK_mem.2 ⟨i, List.mem_range.1 h1, rfl, h2⟩
    rw [List.eq_nil_of_length_eq_zero h] at hx; cases hx

/-- The tree's variable, and the marks. -/
structure LeS (w : World) (T : Array Value) (xs : List Bool) (u : World) : Prop where
  p : PaS w T u
  r : RowB u (w.heap.size + 1) (bolL xs)

theorem LeS.call {w u u' : World} {T : Array Value} {xs : List Bool} (h : LeS w T xs u) (hb : Below u.heap.size u u') : LeS w T xs u' := ⟨h.p.call hb, h.r.call hb⟩

theorem LeS.grown {w u u' : World} {T : Array Value} {xs : List Bool} {row : Option Nat} (h : LeS w T xs u) (hg : u.grownBy u' row) (hr : ∀ j, row = some j → w.heap.size + 1 < j) : LeS w T xs u' := ⟨h.p.grown hg (fun j hj => by have := hr j hj; omega), h.r.grown hg (fun e => by have := hr _ e.symm; omega)⟩

def LeI (w : World) (T : Array Value) (ns : List NdD) (m : Nat) (i : Value) (wr : World) : Prop :=
  ∃ k : Nat, k ≤ m ∧ i = .int .i64 k ∧ LeS w T (markL ns m k) wr

def LeJ (w : World) (T : Array Value) (xs : List Bool) (p : Nat → Bool) (m : Nat) (v i : Value) (wr : World) : Prop :=
  ∃ k : Nat, k ≤ m ∧ i = .int .i64 k ∧ OwnK .i64 3 wr (w.heap.size + 2) v (selK p k) ∧ LeS w T xs wr

theorem OwnK.off2 {w wr : World} {v : Value} {xs : List Int} (h : OwnK .i64 3 wr (w.heap.size + 2) v xs) : ∀ j, v.ownBlock = some j → w.heap.size + 1 < j := fun j hj => by have := (h.lt j hj).1; omega

set_option maxHeartbeats 8000000 in
theorem cleaves_any (ns : List NdD) (v : Value) (w : World) (hN : NodesV w v ns) (hlen : ns.length ≤ 100000) :
    Calls Try.prog 24 #[.agg #[v]] w (SelE (leafN ns) w) := by
  rw [leaf_mark]
  obtain ⟨a, cap, rfl, hmx⟩ := hN.shape
  unfold maxLen at hmx
  have HIS := Lib.hid (fun (k : Int) u (hu : Below w.heap.size w u) => cisn_any _ ns k u (hN.call hu))
  have HN := Lib.hid hN
  have HII := Lib.hid info_int
  have hi1 : (Try.prog.info? 24).map (·.size) = some 1 := by kernel_rfl
  obtain ⟨m, hm⟩ : ∃ m, Hid (ns.length = m) := ⟨_, Lib.hid rfl⟩
  rw [hm.out] at hmx HIS hlen HN ⊢
  obtain ⟨p, hp⟩ : ∃ p : Nat → Bool, (fun (j : Nat) => !markB ns m j) = p := ⟨_, rfl⟩
  have HPP : Hid (∀ j : Nat, (!markB ns m j) = p j) := fun j => by rw [← hp]
  rw [hp]
  have S0 := Lib.hid (pas_new w #[.slice a m cap] 24)
  clear hN hp
  go_enter Try.func24, Try.ntmps24
  go_wp2_with (first
    | ((with_reducible refine at_load (.tmp 8) ?_); refine wpList_load_1 22 (.tmp 8) rfl w.heap.size 0 (.slice a m cap) (S0.out.t.cell 0) rfl _ Try.underlying22 rfl rfl ?_)
    | ((with_reducible refine at_makeEl (.tmp 10) ?_); refine wpList_make_bol rfl (.tmp 10) rfl .i64 m rfl (by omega) ?_; intro w1 hb1 hr1; have S1 : Hid (LeS w #[.slice a m cap] (markL ns m 0) w1) := ⟨S0.out.call hb1, (by rw [← markL_zero]; simpa using hr1)⟩; clear hb1 hr1)
    | ((with_reducible refine at_load (.tmp 12) ?_); refine wpList_load_1 22 (.tmp 12) rfl w.heap.size 0 (.slice a m cap) (S1.out.p.t.cell 0) rfl _ Try.underlying22 rfl rfl ?_))
  go_loopw [15] (fun i wr => LeI w #[.slice a m cap] ns m i wr) (fun i _ => m - (intOf i).toNat)
  case atStart => exact ⟨0, Nat.zero_le _, rfl, S1.out⟩
  case round =>
    obtain ⟨k, hk, rfl, hs⟩ := hrel
    have S2 := Lib.hid hs
    clear hs
    by_cases hlt : k < m
    case pos =>
      have hlt' : (k : Int) < m := by omega
      have hkn : k < ns.length := by rw [hm.out]; exact hlt
      obtain ⟨b, off, rfl, hlm, hbb, hna, _⟩ := HN.out.elem hkn
      have HUP := Lib.hid hna.up
      have HUI := Lib.hid (upI_at hkn)
      obtain ⟨u, hu⟩ : ∃ u, ns[k].up = u := ⟨_, rfl⟩
      rw [hu] at HUP HUI
      have HU2 := Lib.hid ((S2.out.p.b.cell (p := ⟨b, off + k * 240 + 238, none⟩) hbb).trans HUP.out)
      clear hlm hna hu
      by_cases hin : 0 ≤ u ∧ u < m
      · obtain ⟨z, rfl⟩ : ∃ z : Nat, u = z := ⟨u.toNat, by omega⟩
        have HD : Hid (decide (0 ≤ (z : Int) ∧ (z : Int) < (m : Int)) = true) := decide_eq_true hin
        have HNX := Lib.hid (markL_set (m := m) HUI.out)
        have hzm : z < m := by omega
        have hzm' : (z : Int) < m := by omega
        clear hin
        go_wp2_with (first
          | ((with_reducible refine at_load (.tmp 18) ?_); refine wpList_load_1 22 (.tmp 18) rfl w.heap.size 0 (.slice (some ⟨b, off, none⟩) m cap) (S2.out.p.t.cell 0) rfl _ Try.underlying22 rfl rfl ?_)
          | ((with_reducible refine at_load (.tmp 22) ?_); refine wpList_load_1 3 (.tmp 22) rfl b (off + k * 240 + 238) (.int .i64 (z : Int)) HU2.out rfl _ Try.underlying3 rfl rfl ?_)
          | ((with_reducible refine at_load (.tmp 1) ?_); refine wpList_load_g 24 (.tmp 1) rfl w.heap.size rfl #[.slice (some ⟨b, off, none⟩) m cap] _ S2.out.p.t Try.underlying24 rfl hi1 rfl ?_)
          | (go_at_call 33; refine (HIS.out _ _ S2.out.p.b).mono ?_; rintro e w3 ⟨rfl, hb3⟩; rw [HD.out]; have S3 := Lib.hid (S2.out.call hb3); clear hb3)
          | ((with_reducible refine at_store (.tmp 29) ?_); refine wpList_store_bol rfl 4 (.tmp 29) _ rfl (w.heap.size + 1) z (markL ns m k) true S3.out.r (by rw [markL_len]; exact hzm) rfl rfl rfl ?_; intro w4 U4 B4; rw [HNX.out] at B4; have S4 : Hid (LeS w #[.slice (some ⟨b, off, none⟩) m cap] (markL ns m (k + 1)) w4) := ⟨⟨U4.blk S3.out.p.t (by omega), U4.below S3.out.p.b (by omega)⟩, B4⟩; clear U4 B4))
        go_roundw
        case rel => exact ⟨k + 1, by omega, by go_num, S4.out⟩
        case measure => simp [intOf]; omega
      · have HD : Hid (decide (0 ≤ u ∧ u < (m : Int)) = false) := decide_eq_false hin
        have HNX := Lib.hid (markL_skip (m := m) (by rw [HUI.out]; exact hin))
        clear hin
        go_wp2_with (first
          | ((with_reducible refine at_load (.tmp 18) ?_); refine wpList_load_1 22 (.tmp 18) rfl w.heap.size 0 (.slice (some ⟨b, off, none⟩) m cap) (S2.out.p.t.cell 0) rfl _ Try.underlying22 rfl rfl ?_)
          | ((with_reducible refine at_load (.tmp 22) ?_); refine wpList_load_1 3 (.tmp 22) rfl b (off + k * 240 + 238) (.int .i64 u) HU2.out rfl _ Try.underlying3 rfl rfl ?_)
          | ((with_reducible refine at_load (.tmp 1) ?_); refine wpList_load_g 24 (.tmp 1) rfl w.heap.size rfl #[.slice (some ⟨b, off, none⟩) m cap] _ S2.out.p.t Try.underlying24 rfl hi1 rfl ?_)
          | (go_at_call 33; refine (HIS.out _ _ S2.out.p.b).mono ?_; rintro e w3 ⟨rfl, hb3⟩; rw [HD.out]; have S3 := Lib.hid (S2.out.call hb3); clear hb3))
        go_roundw
        case rel => exact ⟨k + 1, by omega, by go_num, by rw [HNX.out]; exact S3.out⟩
        case measure => simp [intOf]; omega
    case neg =>
      obtain rfl : k = m := by omega
      obtain ⟨xs, hxs⟩ : ∃ xs, Hid (markL ns k k = xs) := ⟨_, Lib.hid rfl⟩
      have HXN : Hid (xs.length = k) := by show xs.length = k; rw [← hxs.out, markL_len]
      have HXG : Hid (∀ j, j < k → xs.getD j false = !p j) := fun j hj => by rw [← hxs.out, markL_get _ _ _ _ hj, ← HPP.out j, Bool.not_not]
      rw [hxs.out] at S2
      go_wp2_with (first
        | ((with_reducible refine at_buildSliceE (some 31) ?_); refine wpList_buildSliceE rfl 29 0 _ rfl #[] (by simp) _ (bs_int0 _) ?_; have S3 := Lib.hid (S2.out.call ((Below.refl wr.heap.size wr).alloc (Nat.le_refl _) (.cells #[] 3))); have HO3 : Hid (OwnK .i64 3 (wr.alloc (.cells #[] 3)) (w.heap.size + 2) (.slice (some ⟨wr.heap.size, 0, none⟩) 0 0) []) := own_int0 (by have := S2.out.r.lt; omega)))
      go_loopw [6, 34] (fun v i wr => LeJ w #[.slice a k cap] xs p k v i wr) (fun _ i _ => k - (intOf i).toNat)
      case atStart => exact ⟨0, Nat.zero_le _, rfl, HO3.out, S3.out⟩
      case round =>
        obtain ⟨j, hj, rfl, hown, hs⟩ := hrel
        have HOW := Lib.hid hown
        have S4 := Lib.hid hs
        have HXL := Lib.hid (selK_len p j)
        clear hown hs
        by_cases hlt : j < k
        case neg =>
          obtain rfl : j = k := by omega
          go_wp2_with fail
          go_ret
          exact ⟨_, rfl, HOW.out.lower (by omega), S4.out.p.b⟩
        have hlt' : (j : Int) < k := by omega
        have hxg := HXG.out j hlt
        have HBC := Lib.hid (S4.out.r.bol (i := j) (by rw [HXN.out]; exact hlt))
        rw [hxg] at HBC
        clear hxg
        cases hpk2 : p j
        case false =>
          have HNX := Lib.hid (selK_no hpk2)
          rw [hpk2] at HBC
          clear hpk2
          go_wp2_with (first
            | ((with_reducible refine at_load (.tmp 39) ?_); refine wpList_load_1 4 (.tmp 39) rfl (w.heap.size + 1) j (.bool true) HBC.out rfl _ Try.underlying4 rfl rfl ?_))
          go_roundw
          case rel => exact ⟨j + 1, by omega, by go_num, by rw [HNX.out]; exact HOW.out, S4.out⟩
          case measure => simp [intOf]; omega
        case true =>
          have HNX := Lib.hid (selK_yes hpk2)
          rw [hpk2] at HBC
          clear hpk2
          go_wp2_with (first
            | ((with_reducible refine at_load (.tmp 39) ?_); refine wpList_load_1 4 (.tmp 39) rfl (w.heap.size + 1) j (.bool false) HBC.out rfl _ Try.underlying4 rfl rfl ?_)
            | ((with_reducible refine at_app (.tmp 42) (.tmp 44) ?_); refine wpList_app1 HII.out (by omega) Try.underlying29 (.tmp 42) (.tmp 44) rfl rfl (w.heap.size + 2) _ _ rfl (HOW.out.grown (World.grownBy_alloc _ (.cells #[.int .i64 (j : Int)] 3) none) (fun n _ => by simp)) wr.heap.size 1 (j : Int) rfl ((Blk.new rfl).cell 0) (by have := HXL.out; omega) (by have := S4.out.r.lt; simp; omega) ?_; intro v5 w5 h5 g5 o5; rw [← HNX.out] at h5; have HO5 := Lib.hid h5; have S5 := Lib.hid ((S4.out.call ((Below.refl wr.heap.size wr).alloc (Nat.le_refl _) (.cells #[.int .i64 (j : Int)] 3))).grown g5 HOW.out.off2); clear h5 g5 o5))
          go_roundw
          case rel => exact ⟨j + 1, by omega, by go_num, HO5.out, S5.out⟩
          case measure => simp [intOf]; omega
end

/-! BtV -/
section
set_option linter.unusedVariables false
set_option linter.unusedSimpArgs false
open Go.RowKit

set_option maxRecDepth 100000

theorem at_mlook {P : Program} {ops : Array Oper} {Q : Exit → Act → World → Prop} {dst : Option Tmp} {t ty' : TypeId} (m x : Operand) {ok : Bool} {pos : String} {aft : Array Edge} {g : Option (Nat × Bool)} {rest : List Oper} {a : Act} {w : World}
    (h : wpList P ops Q (⟨dst, .lookup t m x ok, ty', pos, aft, g⟩ :: rest) a w) : wpList P ops Q (⟨dst, .lookup t m x ok, ty', pos, aft, g⟩ :: rest) a w := h

theorem wpList_mlook {P : Program} {ops : Array Oper} {rest : List Oper} {o : Oper} {a : Act} {w : World} {Q : Exit → Act → World → Prop} (hg : o.guard = none) (t : TypeId) (m x : Operand) (ok : Bool) (ho : o.op = .lookup t m x ok) (mv xv v : Value) (hm : a.eval m = mv) (hx : a.eval x = xv)
    (hr : (Instr.lookup t mv xv ok).run P w = .ok v w) (h : wpList P ops Q rest (a.put o.dst v) w) : wpList P ops Q (o :: rest) a w :=
  wpList_plain hg fun _ hK => by
    unfold Oper.wp execOp
    simp only [ho, hm, hx, Sem.run_bind, hr, Result.andThen_ok, Sem.run_pure]
    exact hK _ _ h

theorem at_mput {P : Program} {ops : Array Oper} {Q : Exit → Act → World → Prop} {dst : Option Tmp} {t ty' : TypeId} (m x v : Operand) {pos : String} {aft : Array Edge} {g : Option (Nat × Bool)} {rest : List Oper} {a : Act} {w : World}
    (h : wpList P ops Q (⟨dst, .mapUpdate t m x v, ty', pos, aft, g⟩ :: rest) a w) : wpList P ops Q (⟨dst, .mapUpdate t m x v, ty', pos, aft, g⟩ :: rest) a w := h

theorem wpList_mput {P : Program} {ops : Array Oper} {rest : List Oper} {o : Oper} {a : Act} {w w' : World} {Q : Exit → Act → World → Prop} (hg : o.guard = none) (t : TypeId) (m x v : Operand) (ho : o.op = .mapUpdate t m x v) (mv xv vv : Value) (hm : a.eval m = mv) (hx : a.eval x = xv) (hv : a.eval v = vv)
    (hr : (Instr.mapUpdate t mv xv vv).run P w = .ok () w') (h : wpList P ops Q rest (a.put o.dst undef) w') : wpList P ops Q (o :: rest) a w :=
  wpList_plain hg fun _ hK => by
    unfold Oper.wp execOp
    simp only [ho, hm, hx, hv, Sem.run_bind, hr, Result.andThen_ok, Sem.run_pure]
    exact hK _ _ h

theorem at_mmake {P : Program} {ops : Array Oper} {Q : Exit → Act → World → Prop} {dst : Option Tmp} {t ty' : TypeId} (r : Option Operand) {pos : String} {aft : Array Edge} {g : Option (Nat × Bool)} {rest : List Oper} {a : Act} {w : World}
    (h : wpList P ops Q (⟨dst, .makeMap t r, ty', pos, aft, g⟩ :: rest) a w) : wpList P ops Q (⟨dst, .makeMap t r, ty', pos, aft, g⟩ :: rest) a w := h

theorem wpList_mmake {P : Program} {ops : Array Oper} {rest : List Oper} {o : Oper} {a : Act} {w : World} {Q : Exit → Act → World → Prop} (hg : o.guard = none) (t k e : TypeId) (x : Operand) (ho : o.op = .makeMap t (some x)) (ht : P.underlying t = some (.map k e)) (ik : IntKind) (n : Int) (hx : a.eval x = .int ik n)
    (h : wpList P ops Q rest (a.put o.dst (.map (some w.heap.size))) (w.alloc (.map #[] 0))) : wpList P ops Q (o :: rest) a w :=
  wpList_plain hg fun _ hK => by
    have hr : (Instr.makeMap t (some (.int ik n))).run P w = .ok (.map (some w.heap.size)) (w.alloc (.map #[] 0)) := by
      simp [Instr.makeMap, run_underlying ht, asInt, newObj, go_sem]
      rfl
    unfold Oper.wp execOp
    simp only [ho, hx, Option.map_some, Sem.run_bind, hr, Result.andThen_ok, Sem.run_pure]
    exact hK _ _ h
/-! ### The index of a root, grown by a node -/

theorem findN_snoc (xs : List NdD) (d : NdD) (r : List Int) : findN (xs ++ [d]) r = if 0 ≤ findN xs r then findN xs r else if d.b.root = r then (xs.length : Int) else -1 := by
  rcases findN_spec xs r with ⟨h1, h2⟩ | ⟨k, hk, h1, h2, h3⟩
  · rw [if_neg (by omega)]
    by_cases e : d.b.root = r
    · rw [if_pos e]
      rcases findN_spec (xs ++ [d]) r with ⟨h4, h5⟩ | ⟨k, hk, h4, h5, h6⟩
      · have := h5 xs.length (by simp)
        rw [List.getElem_append_right (Nat.le_refl _)] at this
        exact absurd e (by simpa using this)
      · rw [h4]
        by_cases hkl : k < xs.length
        · rw [List.getElem_append_left hkl] at h5
          exact absurd h5 (h2 k hkl)
        · simp at hk; omega
    · rw [if_neg e]
      rcases findN_spec (xs ++ [d]) r with ⟨h4, h5⟩ | ⟨k, hk, h4, h5, h6⟩
      · exact h4
      · by_cases hkl : k < xs.length
        · rw [List.getElem_append_left hkl] at h5
          exact absurd h5 (h2 k hkl)
        · obtain rfl : k = xs.length := by simp at hk; omega
          rw [List.getElem_append_right (Nat.le_refl _)] at h5
          exact absurd (by simpa using h5) e
  · rw [h1, if_pos (by omega)]
    rcases findN_spec (xs ++ [d]) r with ⟨h4, h5⟩ | ⟨j, hj, h4, h5, h6⟩
    · have := h5 k (by simp; omega)
      rw [List.getElem_append_left hk] at this
      exact absurd h2 this
    · rw [h4]
      rcases Nat.lt_trichotomy j k with h | h | h
      · rw [List.getElem_append_left (by omega)] at h5
        exact absurd h5 (h3 j h (by omega))
      · rw [h]
      · have := h6 k h (by simp; omega)
        rw [List.getElem_append_left hk] at this
        exact absurd h2 this

/-- No root twice. -/
def DisN (xs : List NdD) : Prop := xs.Pairwise fun a b => a.b.root ≠ b.b.root

theorem DisN.find {xs : List NdD} (h : DisN xs) {u : Nat} (hu : u < xs.length) : findN xs xs[u].b.root = u := by
  rcases findN_spec xs xs[u].b.root with ⟨_, h2⟩ | ⟨k, hk, h1, h2, h3⟩
  · exact absurd rfl (h2 u hu)
  · rw [h1]
    rcases Nat.lt_trichotomy k u with hl | hl | hl
    · exact absurd h2 (List.pairwise_iff_getElem.1 h k u hk hu hl)
    · rw [hl]
    · exact absurd rfl (h3 u hl hu)

theorem DisN.snoc {xs : List NdD} (h : DisN xs) {d : NdD} (hd : ¬ 0 ≤ findN xs d.b.root) : DisN (xs ++ [d]) := by
  unfold DisN
  rw [List.pairwise_append]
  refine ⟨h, List.pairwise_singleton _ _, fun a ha b hb => ?_⟩
  rw [List.mem_singleton.1 hb]
  obtain ⟨i, hi, rfl⟩ := List.mem_iff_getElem.1 ha
  rcases findN_spec xs d.b.root with ⟨_, h2⟩ | ⟨k, hk, h1, _, _⟩
  · exact h2 i hi
  · omega

/-- Block b is a map that gives each root of these nodes its index. -/
def MpN (w : World) (b : Nat) (xs : List NdD) : Prop := ∃ L, RM.MapIs w b L ∧ L.length ≤ xs.length ∧ ∀ r, IsBytes 32 r → RM.mget L ⟨r⟩ = if 0 ≤ findN xs r then some (.int .i64 (findN xs r)) else none

theorem MpN.call {w w' : World} {b : Nat} {xs : List NdD} (h : MpN w b xs) (hb : Below w.heap.size w w') : MpN w' b xs := by obtain ⟨L, h1, h2⟩ := h; exact ⟨L, h1.call hb, h2⟩

theorem MpN.lt {w : World} {b : Nat} {xs : List NdD} (h : MpN w b xs) : b < w.heap.size := by obtain ⟨L, h1, _⟩ := h; exact h1.lt

theorem MpN.made (w : World) : MpN (w.alloc (.map #[] 0)) w.heap.size [] := ⟨[], RM.MapIs.made w, Nat.le_refl _, fun r _ => rfl⟩

theorem und_mpi : Try.prog.underlying 61 = some (.map 34 3) := Try.underlying61

theorem MpN.look {w : World} {b : Nat} {xs : List NdD} (h : MpN w b xs) {r : List Int} (hr : IsBytes 32 r) :
    (Instr.lookup 61 (.map (some b)) (.agg (bytesL r).toArray) true).run Try.prog w = .ok (.tuple #[.int .i64 (if 0 ≤ findN xs r then findN xs r else 0), .bool (decide (0 ≤ findN xs r))]) w := by
  obtain ⟨L, h1, _, h3⟩ := h
  have := h1.look (c := ⟨r⟩) hr true und_mpi (Try.zeroValue3 w)
  rw [h3 r hr] at this
  refine this.trans ?_
  by_cases e : 0 ≤ findN xs r
  · simp [e]
  · simp [e]

theorem MpN.put {w : World} {b : Nat} {xs : List NdD} (h : MpN w b xs) {d : NdD} (hd : IsBytes 32 d.b.root) (hn : ¬ 0 ≤ findN xs d.b.root) (hl : xs.length ≤ 100000) :
    ∃ w', (Instr.mapUpdate 61 (.map (some b)) (.agg (bytesL d.b.root).toArray) (.int .i64 (xs.length : Nat))).run Try.prog w = .ok () w' ∧ MpN w' b (xs ++ [d]) ∧ w.grownBy w' (some b) := by
  obtain ⟨L, h1, h2, h3⟩ := h
  have hnk : (⟨d.b.root⟩ : RM.RtD) ∉ L.map Prod.fst := RM.mget_none.1 (by rw [h3 _ hd, if_neg hn])
  obtain ⟨w', hrun, hm, hg⟩ := h1.put (c := ⟨d.b.root⟩) hd (.int .i64 (xs.length : Nat)) und_mpi hnk (by unfold maxLen; omega)
  refine ⟨w', hrun, ⟨_, hm, by simp; omega, fun r hr => ?_⟩, hg⟩
  rw [RM.mget, findN_snoc]
  by_cases e : d.b.root = r
  · subst e
    rw [if_pos rfl, if_neg hn, if_pos rfl, if_pos (by omega)]
  · rw [if_neg (fun h => e (by cases h; rfl)), h3 r hr, if_neg e]
    by_cases e2 : 0 ≤ findN xs r
    · rw [if_pos e2, if_pos e2, if_pos e2]
    · rw [if_neg e2, if_neg e2, if_neg (by omega)]

/-- Where a node points to a node before it, the parent's index tells its root. -/
theorem par_iff {ns : List NdD} {k : Nat} (hk : k < ns.length) (hd : DisN (ns.take k)) {u : Nat} (hu : u < k) {r : List Int} : findN (ns.take k) r = (u : Int) ↔ r = rootAt ns u := by
  have hut : u < (ns.take k).length := by rw [List.length_take]; omega
  have e : rootAt ns (u : Int) = (ns.take k)[u].b.root := by
    rw [List.getElem_take]
    simp [rootAt, List.getElem?_eq_getElem (show u < ns.length by omega)]
  rw [e]
  constructor
  · intro h
    rcases findN_spec (ns.take k) r with ⟨h1, _⟩ | ⟨j, hj, h1, h2, _⟩
    · omega
    · rw [h1] at h
      obtain rfl : j = u := by omega
      exact h2.symm
  · rintro rfl
    exact hd.find hut

/-- The variables of validateNode. -/
structure VnS (w : World) (TA L : Array Value) (mb : Nat) (xs : List NdD) (u : World) : Prop where
  v : VaS w TA L (w.heap.size + 1) u
  m : MpN u mb xs

theorem VnS.call {w u u' : World} {TA L : Array Value} {mb : Nat} {xs : List NdD} (h : VnS w TA L mb xs u) (hb : Below u.heap.size u u') : VnS w TA L mb xs u' := ⟨h.v.call hb, h.m.call hb⟩

set_option maxHeartbeats 16000000 in
theorem vnode_any (v : Value) (ns : List NdD) (k mb : Nat) (w : World) (hN : NodesV w v ns) (hkn : k < ns.length) (hM : MpN w mb (ns.take k)) (hD : DisN (ns.take k)) :
    Calls Try.prog 28 #[.agg #[v], .int .i64 k, .map (some mb)] w fun e w' => e = .returned (.int .i64 (nodeE ns ns[k] k)) ∧ Below w.heap.size w w' := by
  obtain ⟨a, cap, rfl, hmx⟩ := hN.shape
  unfold maxLen at hmx
  have HN := Lib.hid hN
  have HM := Lib.hid hM
  have HDI := Lib.hid hD
  have hi1 : (Try.prog.info? 24).map (·.size) = some 1 := by kernel_rfl
  obtain ⟨ZN, hZN⟩ : ∃ Z, flatP (zeBkP ++ [[.int .i64 0], [.int .i64 0]]) = Z := ⟨_, rfl⟩
  have hszN : ZN.size = 240 := by rw [← hZN]; rfl
  obtain ⟨hz240, hst240⟩ := zero_array (P := Try.prog) (t := 44) (n := 240) ZN (by rw [← hZN]; kernel_rfl) hszN (by rw [← hZN]; kernel_rfl)
  obtain ⟨m, hm⟩ : ∃ m, Hid (ns.length = m) := ⟨_, Lib.hid rfl⟩
  rw [hm.out] at hmx HN
  have hlt' : (k : Int) < m := by rw [← hm.out]; omega
  obtain ⟨rb, ro, rfl, hlm, hrb, hna, hdk⟩ := HN.out.elem hkn
  have HALL := Lib.hid hna.all
  obtain ⟨d, hd⟩ : ∃ d, ns[k] = d := ⟨_, rfl⟩
  rw [hd] at HALL hdk ⊢
  rw [hm.out]
  have HDK := Lib.hid hdk
  have HNT : Hid (∀ u b, Blk u b d.cells.toArray → NdAt u b 0 d) := fun u b hu => nd_at hu.rng HDK.out
  obtain ⟨L, hL⟩ : ∃ L, d.cells = L := ⟨_, rfl⟩
  have hLl : L.length = 240 := by rw [← hL]; exact NdD.len hdk
  have HL1 : Hid (∀ v ∈ L, v.oneCell' = true) := by show ∀ v ∈ L, _; rw [← hL]; exact NdD.one _
  rw [hL] at HALL HNT
  have hiL : (Try.prog.info? 44).map (·.size) = some L.length := by rw [hLl]; kernel_rfl
  have HT0 : Hid (Blk (w.alloc (.cells #[.slice (some ⟨rb, ro, none⟩) m cap] 24)) w.heap.size #[.slice (some ⟨rb, ro, none⟩) m cap]) := Blk.new rfl
  have HBA := Lib.hid ((Below.refl w.heap.size w).alloc (Nat.le_refl _) (.cells #[.slice (some ⟨rb, ro, none⟩) m cap] 24))
  obtain ⟨q, hq⟩ : ∃ q, nodeE ns d k = q := ⟨_, rfl⟩
  rw [hq]
  unfold nodeE at hq
  obtain ⟨xs, hxs⟩ : ∃ xs, Hid (ns.take k = xs) := ⟨_, Lib.hid rfl⟩
  rw [hxs.out] at hq HM
  obtain ⟨fr, hfr⟩ : ∃ z, Hid (findN xs d.b.root = z) := ⟨_, Lib.hid rfl⟩
  obtain ⟨fp, hfp⟩ : ∃ z, Hid (findN xs d.b.parent = z) := ⟨_, Lib.hid rfl⟩
  rw [hfr.out] at hq
  have HLR := Lib.hid (fun u (h : VnS w #[.slice (some ⟨rb, ro, none⟩) m cap] L.toArray mb xs u) => h.m.look (r := d.b.root) hdk.1.2.2.2.1)
  have HLP := Lib.hid (fun u (h : VnS w #[.slice (some ⟨rb, ro, none⟩) m cap] L.toArray mb xs u) => h.m.look (r := d.b.parent) hdk.1.2.2.2.2.1)
  rw [hfr.out] at HLR
  rw [hfp.out] at HLP
  have hiR : (Try.prog.info? 34).map (·.size) = some (bytesL d.b.root).length := by rw [bytesL_len hdk.1.2.2.2.1]; kernel_rfl
  have hiP : (Try.prog.info? 34).map (·.size) = some (bytesL d.b.parent).length := by rw [bytesL_len hdk.1.2.2.2.2.1]; kernel_rfl
  have HRR : Hid (∀ u, VnS w #[.slice (some ⟨rb, ro, none⟩) m cap] L.toArray mb xs u → u.rangeAt (w.heap.size + 1) 67 (bytesL d.b.root)) := fun u h => by have := (HNT.out _ _ h.v.n).bk.root; rw [Nat.zero_add] at this; exact this
  have HRP : Hid (∀ u, VnS w #[.slice (some ⟨rb, ro, none⟩) m cap] L.toArray mb xs u → u.rangeAt (w.heap.size + 1) 99 (bytesL d.b.parent)) := fun u h => by have := (HNT.out _ _ h.v.n).bk.parent; rw [Nat.zero_add] at this; exact this
  obtain ⟨Rr, hRr⟩ : ∃ z, bytesL d.b.root = z := ⟨_, rfl⟩
  obtain ⟨Rp, hRp⟩ : ∃ z, bytesL d.b.parent = z := ⟨_, rfl⟩
  rw [hRr] at HRR HLR hiR
  rw [hRp] at HRP HLP hiP
  obtain ⟨st, hst⟩ : ∃ z, Hid (d.st = z) := ⟨_, Lib.hid rfl⟩
  obtain ⟨up, hup⟩ : ∃ z, Hid (d.up = z) := ⟨_, Lib.hid rfl⟩
  obtain ⟨sl, hsl⟩ : ∃ z, Hid (d.b.slot = z) := ⟨_, Lib.hid rfl⟩
  have HCS : Hid (∀ u, VnS w #[.slice (some ⟨rb, ro, none⟩) m cap] L.toArray mb xs u → u.cell? ⟨w.heap.size + 1, 239, none⟩ = some (.int .i64 st)) := fun u h => by have := (HNT.out _ _ h.v.n).st; rw [Nat.zero_add, hst.out] at this; exact this
  have HCU : Hid (∀ u, VnS w #[.slice (some ⟨rb, ro, none⟩) m cap] L.toArray mb xs u → u.cell? ⟨w.heap.size + 1, 238, none⟩ = some (.int .i64 up)) := fun u h => by have := (HNT.out _ _ h.v.n).up; rw [Nat.zero_add, hup.out] at this; exact this
  have HCL : Hid (∀ u, VnS w #[.slice (some ⟨rb, ro, none⟩) m cap] L.toArray mb xs u → u.cell? ⟨w.heap.size + 1, 66, none⟩ = some (.int .u64 sl)) := fun u h => by have := (HNT.out _ _ h.v.n).bk.slot; rw [Nat.zero_add, hsl.out] at this; exact this
  have HSS := Lib.hid (fun u => cstatus_any st u)
  have HUU := Lib.hid (fun u => cup_any up k u)
  have hbf : badForm d k ↔ ¬ ((0 ≤ st ∧ st ≤ 2) ∧ upOK up k) := by unfold badForm upOK; rw [hst.out, hup.out]; omega
  have HSZ := Lib.hid hszN
  have HMI : Hid ((w.alloc (.cells #[.slice (some ⟨rb, ro, none⟩) m cap] 24)).heap.size = w.heap.size + 1) := by show _ = _; simp
  rw [hup.out, hsl.out] at hq
  have HQ0 := Lib.hid hq
  clear hN hM hD hst240 hZN hlm hna hdk hd hL hRr hRp hq hszN
  by_cases hs : 0 ≤ st ∧ st ≤ 2
  case neg =>
    have HDS : Hid (decide (0 ≤ st ∧ st ≤ 2) = false) := decide_eq_false hs
    have HQ : Hid (2 = q) := by show 2 = q; rw [← HQ0.out, if_pos (hbf.2 fun h => hs h.1)]
    clear hs hbf
    go_enter Try.func28, Try.ntmps28
    go_wp2_with (first
      | ((with_reducible refine at_load (.tmp 12) ?_); refine wpList_load_1 22 (.tmp 12) rfl w.heap.size 0 (.slice (some ⟨rb, ro, none⟩) m cap) (HT0.out.cell 0) rfl _ Try.underlying22 rfl rfl ?_)
      | ((with_reducible refine at_load (.tmp 15) ?_); refine wpList_load_rng 44 (.tmp 15) rfl rb (ro + k * 240) L (Below.rng HBA.out hrb HALL.out) rfl _ Try.underlying44 rfl hiL rfl ?_)
      | ((with_reducible refine at_store (.tmp 7) ?_); refine wpList_store_blk rfl 44 (.tmp 7) _ rfl (w.heap.size + 1) L.toArray rfl rfl ZN (Blk.new (by simp)) (by rw [HSZ.out, List.size_toArray, hLl]) (by simpa using hiL) (fun v hv => HL1.out v (by simpa using hv)) ?_; intro w2 U2 B2; have hb2 := U2.below ((Below.refl (w.alloc (.cells #[.slice (some ⟨rb, ro, none⟩) m cap] 24)).heap.size (w.alloc (.cells #[.slice (some ⟨rb, ro, none⟩) m cap] 24))).alloc (Nat.le_refl _) (.cells ZN 44)) (by simp); have VS2 : Hid (VnS w #[.slice (some ⟨rb, ro, none⟩) m cap] L.toArray mb xs w2) := ⟨⟨HT0.out.call hb2, B2, HBA.out.trans (hb2.mono HBA.out.size)⟩, (HM.out.call HBA.out).call hb2⟩; clear U2 B2 hb2)
      | ((with_reducible refine at_load (.tmp 17) ?_); refine wpList_load_1 3 (.tmp 17) rfl (w.heap.size + 1) 239 (.int .i64 st) (HCS.out _ VS2.out) rfl _ Try.underlying3 rfl rfl ?_)
      | (go_at_call 31; refine (HSS.out _).mono ?_; rintro e w3 ⟨rfl, hb3⟩; rw [HDS.out]; have VS3 := Lib.hid (VS2.out.call hb3); clear hb3))
    go_ret
    exact ⟨by rw [← HQ.out]; rfl, VS3.out.v.b⟩
  have HDS : Hid (decide (0 ≤ st ∧ st ≤ 2) = true) := decide_eq_true hs
  by_cases hu : upOK up k
  case neg =>
    have HDU : Hid (decide (upOK up k) = false) := decide_eq_false hu
    have HQ : Hid (2 = q) := by show 2 = q; rw [← HQ0.out, if_pos (hbf.2 fun h => hu h.2)]
    clear hs hbf hu
    go_enter Try.func28, Try.ntmps28
    go_wp2_with (first
      | ((with_reducible refine at_load (.tmp 12) ?_); refine wpList_load_1 22 (.tmp 12) rfl w.heap.size 0 (.slice (some ⟨rb, ro, none⟩) m cap) (HT0.out.cell 0) rfl _ Try.underlying22 rfl rfl ?_)
      | ((with_reducible refine at_load (.tmp 15) ?_); refine wpList_load_rng 44 (.tmp 15) rfl rb (ro + k * 240) L (Below.rng HBA.out hrb HALL.out) rfl _ Try.underlying44 rfl hiL rfl ?_)
      | ((with_reducible refine at_store (.tmp 7) ?_); refine wpList_store_blk rfl 44 (.tmp 7) _ rfl (w.heap.size + 1) L.toArray rfl rfl ZN (Blk.new (by simp)) (by rw [HSZ.out, List.size_toArray, hLl]) (by simpa using hiL) (fun v hv => HL1.out v (by simpa using hv)) ?_; intro w2 U2 B2; have hb2 := U2.below ((Below.refl (w.alloc (.cells #[.slice (some ⟨rb, ro, none⟩) m cap] 24)).heap.size (w.alloc (.cells #[.slice (some ⟨rb, ro, none⟩) m cap] 24))).alloc (Nat.le_refl _) (.cells ZN 44)) (by simp); have VS2 : Hid (VnS w #[.slice (some ⟨rb, ro, none⟩) m cap] L.toArray mb xs w2) := ⟨⟨HT0.out.call hb2, B2, HBA.out.trans (hb2.mono HBA.out.size)⟩, (HM.out.call HBA.out).call hb2⟩; clear U2 B2 hb2)
      | ((with_reducible refine at_load (.tmp 17) ?_); refine wpList_load_1 3 (.tmp 17) rfl (w.heap.size + 1) 239 (.int .i64 st) (HCS.out _ VS2.out) rfl _ Try.underlying3 rfl rfl ?_)
      | (go_at_call 31; refine (HSS.out _).mono ?_; rintro e w3 ⟨rfl, hb3⟩; rw [HDS.out]; have VS3 := Lib.hid (VS2.out.call hb3); clear hb3)
      | ((with_reducible refine at_load (.tmp 22) ?_); refine wpList_load_1 3 (.tmp 22) rfl (w.heap.size + 1) 238 (.int .i64 up) (HCU.out _ VS3.out) rfl _ Try.underlying3 rfl rfl ?_)
      | (go_at_call 35; refine (HUU.out _).mono ?_; rintro e w4 ⟨rfl, hb4⟩; rw [HDU.out]; have VS4 := Lib.hid (VS3.out.call hb4); clear hb4))
    go_ret
    exact ⟨by rw [← HQ.out]; rfl, VS4.out.v.b⟩
  have HDU : Hid (decide (upOK up k) = true) := decide_eq_true hu
  have HQ1 : Hid ((if 0 ≤ fr then 9 else if 0 < k ∧ d.b.parent ≠ rootAt ns up then 10 else if 0 < k ∧ sl ≤ slotAt ns up then 14 else 0) = q) := by show _ = q; rw [← HQ0.out, if_neg (fun h => hbf.1 h ⟨hs, hu⟩)]
  have HUO := Lib.hid hu
  clear hs hu hbf HQ0
  by_cases hr : 0 ≤ fr
  case pos =>
    have HDR : Hid (decide (0 ≤ fr) = true) := decide_eq_true hr
    have HVR : Hid ((if 0 ≤ fr then fr else 0) = fr) := if_pos hr
    have HQ : Hid (9 = q) := by show 9 = q; rw [← HQ1.out, if_pos hr]
    clear hr
    go_enter Try.func28, Try.ntmps28
    go_wp2_with (first
      | ((with_reducible refine at_load (.tmp 12) ?_); refine wpList_load_1 22 (.tmp 12) rfl w.heap.size 0 (.slice (some ⟨rb, ro, none⟩) m cap) (HT0.out.cell 0) rfl _ Try.underlying22 rfl rfl ?_)
      | ((with_reducible refine at_load (.tmp 15) ?_); refine wpList_load_rng 44 (.tmp 15) rfl rb (ro + k * 240) L (Below.rng HBA.out hrb HALL.out) rfl _ Try.underlying44 rfl hiL rfl ?_)
      | ((with_reducible refine at_store (.tmp 7) ?_); refine wpList_store_blk rfl 44 (.tmp 7) _ rfl (w.heap.size + 1) L.toArray rfl rfl ZN (Blk.new (by simp)) (by rw [HSZ.out, List.size_toArray, hLl]) (by simpa using hiL) (fun v hv => HL1.out v (by simpa using hv)) ?_; intro w2 U2 B2; have hb2 := U2.below ((Below.refl (w.alloc (.cells #[.slice (some ⟨rb, ro, none⟩) m cap] 24)).heap.size (w.alloc (.cells #[.slice (some ⟨rb, ro, none⟩) m cap] 24))).alloc (Nat.le_refl _) (.cells ZN 44)) (by simp); have VS2 : Hid (VnS w #[.slice (some ⟨rb, ro, none⟩) m cap] L.toArray mb xs w2) := ⟨⟨HT0.out.call hb2, B2, HBA.out.trans (hb2.mono HBA.out.size)⟩, (HM.out.call HBA.out).call hb2⟩; clear U2 B2 hb2)
      | ((with_reducible refine at_load (.tmp 17) ?_); refine wpList_load_1 3 (.tmp 17) rfl (w.heap.size + 1) 239 (.int .i64 st) (HCS.out _ VS2.out) rfl _ Try.underlying3 rfl rfl ?_)
      | (go_at_call 31; refine (HSS.out _).mono ?_; rintro e w3 ⟨rfl, hb3⟩; rw [HDS.out]; have VS3 := Lib.hid (VS2.out.call hb3); clear hb3)
      | ((with_reducible refine at_load (.tmp 22) ?_); refine wpList_load_1 3 (.tmp 22) rfl (w.heap.size + 1) 238 (.int .i64 up) (HCU.out _ VS3.out) rfl _ Try.underlying3 rfl rfl ?_)
      | (go_at_call 35; refine (HUU.out _).mono ?_; rintro e w4 ⟨rfl, hb4⟩; rw [HDU.out]; have VS4 := Lib.hid (VS3.out.call hb4); clear hb4)
      | ((with_reducible refine at_load (.tmp 31) ?_); refine wpList_load_rng 34 (.tmp 31) rfl (w.heap.size + 1) 67 Rr (HRR.out _ VS4.out) rfl _ Try.underlying34 rfl hiR rfl ?_)
      | ((with_reducible refine at_mlook (.tmp 29) (.tmp 32) ?_); refine wpList_mlook rfl _ (.tmp 29) (.tmp 32) true rfl _ _ _ rfl rfl (HLR.out _ VS4.out) ?_; rw [HDR.out, HVR.out]))
    go_ret
    exact ⟨by rw [← HQ.out]; rfl, VS4.out.v.b⟩
  have HDR : Hid (decide (0 ≤ fr) = false) := decide_eq_false hr
  have HVR : Hid ((if 0 ≤ fr then fr else 0) = 0) := if_neg hr
  have HQ2 : Hid ((if 0 < k ∧ d.b.parent ≠ rootAt ns up then 10 else if 0 < k ∧ sl ≤ slotAt ns up then 14 else 0) = q) := by show _ = q; rw [← HQ1.out, if_neg hr]
  clear hr HQ1
  by_cases hk0 : k = 0
  case pos =>
    subst hk0
    have HQ : Hid (0 = q) := by show 0 = q; rw [← HQ2.out, if_neg (by omega), if_neg (by omega)]
    go_enter Try.func28, Try.ntmps28
    go_wp2_with (first
      | ((with_reducible refine at_load (.tmp 12) ?_); refine wpList_load_1 22 (.tmp 12) rfl w.heap.size 0 (.slice (some ⟨rb, ro, none⟩) m cap) (HT0.out.cell 0) rfl _ Try.underlying22 rfl rfl ?_)
      | ((with_reducible refine at_load (.tmp 15) ?_); refine wpList_load_rng 44 (.tmp 15) rfl rb ro L (by simpa using Below.rng HBA.out hrb HALL.out) rfl _ Try.underlying44 rfl hiL rfl ?_)
      | ((with_reducible refine at_store (.tmp 7) ?_); refine wpList_store_blk rfl 44 (.tmp 7) _ rfl (w.heap.size + 1) L.toArray rfl rfl ZN (Blk.new (by simp)) (by rw [HSZ.out, List.size_toArray, hLl]) (by simpa using hiL) (fun v hv => HL1.out v (by simpa using hv)) ?_; intro w2 U2 B2; have hb2 := U2.below ((Below.refl (w.alloc (.cells #[.slice (some ⟨rb, ro, none⟩) m cap] 24)).heap.size (w.alloc (.cells #[.slice (some ⟨rb, ro, none⟩) m cap] 24))).alloc (Nat.le_refl _) (.cells ZN 44)) (by simp); have VS2 : Hid (VnS w #[.slice (some ⟨rb, ro, none⟩) m cap] L.toArray mb xs w2) := ⟨⟨HT0.out.call hb2, B2, HBA.out.trans (hb2.mono HBA.out.size)⟩, (HM.out.call HBA.out).call hb2⟩; clear U2 B2 hb2)
      | ((with_reducible refine at_load (.tmp 17) ?_); refine wpList_load_1 3 (.tmp 17) rfl (w.heap.size + 1) 239 (.int .i64 st) (HCS.out _ VS2.out) rfl _ Try.underlying3 rfl rfl ?_)
      | (go_at_call 31; refine (HSS.out _).mono ?_; rintro e w3 ⟨rfl, hb3⟩; rw [HDS.out]; have VS3 := Lib.hid (VS2.out.call hb3); clear hb3)
      | ((with_reducible refine at_load (.tmp 22) ?_); refine wpList_load_1 3 (.tmp 22) rfl (w.heap.size + 1) 238 (.int .i64 up) (HCU.out _ VS3.out) rfl _ Try.underlying3 rfl rfl ?_)
      | (go_at_call 35; refine (HUU.out _).mono ?_; rintro e w4 ⟨rfl, hb4⟩; rw [HDU.out]; have VS4 := Lib.hid (VS3.out.call hb4); clear hb4)
      | ((with_reducible refine at_load (.tmp 31) ?_); refine wpList_load_rng 34 (.tmp 31) rfl (w.heap.size + 1) 67 Rr (HRR.out _ VS4.out) rfl _ Try.underlying34 rfl hiR rfl ?_)
      | ((with_reducible refine at_mlook (.tmp 29) (.tmp 32) ?_); refine wpList_mlook rfl _ (.tmp 29) (.tmp 32) true rfl _ _ _ rfl rfl (HLR.out _ VS4.out) ?_; rw [HDR.out, HVR.out]))
    go_ret
    exact ⟨by rw [← HQ.out]; rfl, VS4.out.v.b⟩
  have hkz : ((k : Int) == 0) = false := by simp; omega
  obtain ⟨u, rfl⟩ : ∃ u : Nat, up = u := ⟨up.toNat, by have := HUO.out; unfold upOK at this; omega⟩
  have huk : u < k := by have := HUO.out; unfold upOK at this; omega
  have hum : u < ns.length := by omega
  have HPI : Hid (fp = (u : Int) ↔ d.b.parent = rootAt ns (u : Int)) := by show _ ↔ _; rw [← hfp.out, ← hxs.out]; exact par_iff hkn HDI.out huk
  have hkp : 0 < k := by omega
  by_cases hp0 : 0 ≤ fp
  case neg =>
    have HDP : Hid (decide (0 ≤ fp) = false) := decide_eq_false hp0
    have HVP : Hid ((if 0 ≤ fp then fp else 0) = 0) := if_neg hp0
    have HQ : Hid (10 = q) := by show 10 = q; rw [← HQ2.out, if_pos ⟨hkp, fun e => hp0 (by have := HPI.out.2 e; omega)⟩]
    clear hp0 hk0
    go_enter Try.func28, Try.ntmps28
    go_wp2_with (first
      | ((with_reducible refine at_load (.tmp 12) ?_); refine wpList_load_1 22 (.tmp 12) rfl w.heap.size 0 (.slice (some ⟨rb, ro, none⟩) m cap) (HT0.out.cell 0) rfl _ Try.underlying22 rfl rfl ?_)
      | ((with_reducible refine at_load (.tmp 15) ?_); refine wpList_load_rng 44 (.tmp 15) rfl rb (ro + k * 240) L (Below.rng HBA.out hrb HALL.out) rfl _ Try.underlying44 rfl hiL rfl ?_)
      | ((with_reducible refine at_store (.tmp 7) ?_); refine wpList_store_blk rfl 44 (.tmp 7) _ rfl (w.heap.size + 1) L.toArray rfl rfl ZN (Blk.new (by simp)) (by rw [HSZ.out, List.size_toArray, hLl]) (by simpa using hiL) (fun v hv => HL1.out v (by simpa using hv)) ?_; intro w2 U2 B2; have hb2 := U2.below ((Below.refl (w.alloc (.cells #[.slice (some ⟨rb, ro, none⟩) m cap] 24)).heap.size (w.alloc (.cells #[.slice (some ⟨rb, ro, none⟩) m cap] 24))).alloc (Nat.le_refl _) (.cells ZN 44)) (by simp); have VS2 : Hid (VnS w #[.slice (some ⟨rb, ro, none⟩) m cap] L.toArray mb xs w2) := ⟨⟨HT0.out.call hb2, B2, HBA.out.trans (hb2.mono HBA.out.size)⟩, (HM.out.call HBA.out).call hb2⟩; clear U2 B2 hb2)
      | ((with_reducible refine at_load (.tmp 17) ?_); refine wpList_load_1 3 (.tmp 17) rfl (w.heap.size + 1) 239 (.int .i64 st) (HCS.out _ VS2.out) rfl _ Try.underlying3 rfl rfl ?_)
      | (go_at_call 31; refine (HSS.out _).mono ?_; rintro e w3 ⟨rfl, hb3⟩; rw [HDS.out]; have VS3 := Lib.hid (VS2.out.call hb3); clear hb3)
      | ((with_reducible refine at_load (.tmp 22) ?_); refine wpList_load_1 3 (.tmp 22) rfl (w.heap.size + 1) 238 (.int .i64 (u : Int)) (HCU.out _ VS3.out) rfl _ Try.underlying3 rfl rfl ?_)
      | (go_at_call 35; refine (HUU.out _).mono ?_; rintro e w4 ⟨rfl, hb4⟩; rw [HDU.out]; have VS4 := Lib.hid (VS3.out.call hb4); clear hb4)
      | ((with_reducible refine at_load (.tmp 31) ?_); refine wpList_load_rng 34 (.tmp 31) rfl (w.heap.size + 1) 67 Rr (HRR.out _ VS4.out) rfl _ Try.underlying34 rfl hiR rfl ?_)
      | ((with_reducible refine at_mlook (.tmp 29) (.tmp 32) ?_); refine wpList_mlook rfl _ (.tmp 29) (.tmp 32) true rfl _ _ _ rfl rfl (HLR.out _ VS4.out) ?_; rw [HDR.out, HVR.out])
      | ((with_reducible refine at_load (.tmp 42) ?_); refine wpList_load_rng 34 (.tmp 42) rfl (w.heap.size + 1) 99 Rp (HRP.out _ VS4.out) rfl _ Try.underlying34 rfl hiP rfl ?_)
      | ((with_reducible refine at_mlook (.tmp 40) (.tmp 43) ?_); refine wpList_mlook rfl _ (.tmp 40) (.tmp 43) true rfl _ _ _ rfl rfl (HLP.out _ VS4.out) ?_; rw [HDP.out, HVP.out]))
    go_ret
    exact ⟨by rw [← HQ.out]; rfl, VS4.out.v.b⟩
  have HDP : Hid (decide (0 ≤ fp) = true) := decide_eq_true hp0
  have HVP : Hid ((if 0 ≤ fp then fp else 0) = fp) := if_pos hp0
  by_cases hpu : fp = (u : Int)
  case neg =>
    have hne : (fp != (u : Int)) = true := by simp [hpu]
    have HQ : Hid (10 = q) := by show 10 = q; rw [← HQ2.out, if_pos ⟨hkp, fun e => hpu (HPI.out.2 e)⟩]
    clear hp0 hk0 hpu
    go_enter Try.func28, Try.ntmps28
    go_wp2_with (first
      | ((with_reducible refine at_load (.tmp 12) ?_); refine wpList_load_1 22 (.tmp 12) rfl w.heap.size 0 (.slice (some ⟨rb, ro, none⟩) m cap) (HT0.out.cell 0) rfl _ Try.underlying22 rfl rfl ?_)
      | ((with_reducible refine at_load (.tmp 15) ?_); refine wpList_load_rng 44 (.tmp 15) rfl rb (ro + k * 240) L (Below.rng HBA.out hrb HALL.out) rfl _ Try.underlying44 rfl hiL rfl ?_)
      | ((with_reducible refine at_store (.tmp 7) ?_); refine wpList_store_blk rfl 44 (.tmp 7) _ rfl (w.heap.size + 1) L.toArray rfl rfl ZN (Blk.new (by simp)) (by rw [HSZ.out, List.size_toArray, hLl]) (by simpa using hiL) (fun v hv => HL1.out v (by simpa using hv)) ?_; intro w2 U2 B2; have hb2 := U2.below ((Below.refl (w.alloc (.cells #[.slice (some ⟨rb, ro, none⟩) m cap] 24)).heap.size (w.alloc (.cells #[.slice (some ⟨rb, ro, none⟩) m cap] 24))).alloc (Nat.le_refl _) (.cells ZN 44)) (by simp); have VS2 : Hid (VnS w #[.slice (some ⟨rb, ro, none⟩) m cap] L.toArray mb xs w2) := ⟨⟨HT0.out.call hb2, B2, HBA.out.trans (hb2.mono HBA.out.size)⟩, (HM.out.call HBA.out).call hb2⟩; clear U2 B2 hb2)
      | ((with_reducible refine at_load (.tmp 17) ?_); refine wpList_load_1 3 (.tmp 17) rfl (w.heap.size + 1) 239 (.int .i64 st) (HCS.out _ VS2.out) rfl _ Try.underlying3 rfl rfl ?_)
      | (go_at_call 31; refine (HSS.out _).mono ?_; rintro e w3 ⟨rfl, hb3⟩; rw [HDS.out]; have VS3 := Lib.hid (VS2.out.call hb3); clear hb3)
      | ((with_reducible refine at_load (.tmp 22) ?_); refine wpList_load_1 3 (.tmp 22) rfl (w.heap.size + 1) 238 (.int .i64 (u : Int)) (HCU.out _ VS3.out) rfl _ Try.underlying3 rfl rfl ?_)
      | (go_at_call 35; refine (HUU.out _).mono ?_; rintro e w4 ⟨rfl, hb4⟩; rw [HDU.out]; have VS4 := Lib.hid (VS3.out.call hb4); clear hb4)
      | ((with_reducible refine at_load (.tmp 31) ?_); refine wpList_load_rng 34 (.tmp 31) rfl (w.heap.size + 1) 67 Rr (HRR.out _ VS4.out) rfl _ Try.underlying34 rfl hiR rfl ?_)
      | ((with_reducible refine at_mlook (.tmp 29) (.tmp 32) ?_); refine wpList_mlook rfl _ (.tmp 29) (.tmp 32) true rfl _ _ _ rfl rfl (HLR.out _ VS4.out) ?_; rw [HDR.out, HVR.out])
      | ((with_reducible refine at_load (.tmp 42) ?_); refine wpList_load_rng 34 (.tmp 42) rfl (w.heap.size + 1) 99 Rp (HRP.out _ VS4.out) rfl _ Try.underlying34 rfl hiP rfl ?_)
      | ((with_reducible refine at_mlook (.tmp 40) (.tmp 43) ?_); refine wpList_mlook rfl _ (.tmp 40) (.tmp 43) true rfl _ _ _ rfl rfl (HLP.out _ VS4.out) ?_; rw [HDP.out, HVP.out])
      | ((with_reducible refine at_load (.tmp 51) ?_); refine wpList_load_1 3 (.tmp 51) rfl (w.heap.size + 1) 238 (.int .i64 (u : Int)) (HCU.out _ VS4.out) rfl _ Try.underlying3 rfl rfl ?_))
    go_ret
    exact ⟨by rw [← HQ.out]; rfl, VS4.out.v.b⟩
  have hne : (fp != (u : Int)) = false := by simp [hpu]
  have HQ3 : Hid ((if 0 < k ∧ sl ≤ slotAt ns (u : Int) then 14 else 0) = q) := by show _ = q; rw [← HQ2.out, if_neg (show ¬ (0 < k ∧ d.b.parent ≠ rootAt ns (u : Int)) from fun h => h.2 (HPI.out.1 hpu))]
  obtain ⟨rb2, ro2, he2, hlm2, hrb2, hna2, hdk2⟩ := HN.out.elem hum
  cases he2
  have hsa : slotAt ns (u : Int) = ns[u].b.slot := by simp [slotAt, List.getElem?_eq_getElem hum]
  have HSU := Lib.hid hna2.bk.slot
  obtain ⟨s1, hs1⟩ : ∃ z, ns[u].b.slot = z := ⟨_, rfl⟩
  rw [hs1] at HSU hsa
  obtain ⟨qs, hqs⟩ : ∃ z : Bool, decide (sl ≤ s1) = z := ⟨_, rfl⟩
  have HQS : Hid (qs = true ↔ sl ≤ s1) := by show _ ↔ _; rw [← hqs]; exact decide_eq_true_iff
  have hum' : (u : Int) < m := by rw [← hm.out]; omega
  rw [hsa] at HQ3
  clear hna2 hdk2 hsa hs1 hlm2 hp0 hk0 hpu
  go_enter Try.func28, Try.ntmps28
  go_wp2_with (first
    | ((with_reducible refine at_load (.tmp 12) ?_); refine wpList_load_1 22 (.tmp 12) rfl w.heap.size 0 (.slice (some ⟨rb, ro, none⟩) m cap) (HT0.out.cell 0) rfl _ Try.underlying22 rfl rfl ?_)
    | ((with_reducible refine at_load (.tmp 15) ?_); refine wpList_load_rng 44 (.tmp 15) rfl rb (ro + k * 240) L (Below.rng HBA.out hrb HALL.out) rfl _ Try.underlying44 rfl hiL rfl ?_)
    | ((with_reducible refine at_store (.tmp 7) ?_); refine wpList_store_blk rfl 44 (.tmp 7) _ rfl (w.heap.size + 1) L.toArray rfl rfl ZN (Blk.new (by simp)) (by rw [HSZ.out, List.size_toArray, hLl]) (by simpa using hiL) (fun v hv => HL1.out v (by simpa using hv)) ?_; intro w2 U2 B2; have hb2 := U2.below ((Below.refl (w.alloc (.cells #[.slice (some ⟨rb, ro, none⟩) m cap] 24)).heap.size (w.alloc (.cells #[.slice (some ⟨rb, ro, none⟩) m cap] 24))).alloc (Nat.le_refl _) (.cells ZN 44)) (by simp); have VS2 : Hid (VnS w #[.slice (some ⟨rb, ro, none⟩) m cap] L.toArray mb xs w2) := ⟨⟨HT0.out.call hb2, B2, HBA.out.trans (hb2.mono HBA.out.size)⟩, (HM.out.call HBA.out).call hb2⟩; clear U2 B2 hb2)
    | ((with_reducible refine at_load (.tmp 17) ?_); refine wpList_load_1 3 (.tmp 17) rfl (w.heap.size + 1) 239 (.int .i64 st) (HCS.out _ VS2.out) rfl _ Try.underlying3 rfl rfl ?_)
    | (go_at_call 31; refine (HSS.out _).mono ?_; rintro e w3 ⟨rfl, hb3⟩; rw [HDS.out]; have VS3 := Lib.hid (VS2.out.call hb3); clear hb3)
    | ((with_reducible refine at_load (.tmp 22) ?_); refine wpList_load_1 3 (.tmp 22) rfl (w.heap.size + 1) 238 (.int .i64 (u : Int)) (HCU.out _ VS3.out) rfl _ Try.underlying3 rfl rfl ?_)
    | (go_at_call 35; refine (HUU.out _).mono ?_; rintro e w4 ⟨rfl, hb4⟩; rw [HDU.out]; have VS4 := Lib.hid (VS3.out.call hb4); clear hb4)
    | ((with_reducible refine at_load (.tmp 31) ?_); refine wpList_load_rng 34 (.tmp 31) rfl (w.heap.size + 1) 67 Rr (HRR.out _ VS4.out) rfl _ Try.underlying34 rfl hiR rfl ?_)
    | ((with_reducible refine at_mlook (.tmp 29) (.tmp 32) ?_); refine wpList_mlook rfl _ (.tmp 29) (.tmp 32) true rfl _ _ _ rfl rfl (HLR.out _ VS4.out) ?_; rw [HDR.out, HVR.out])
    | ((with_reducible refine at_load (.tmp 42) ?_); refine wpList_load_rng 34 (.tmp 42) rfl (w.heap.size + 1) 99 Rp (HRP.out _ VS4.out) rfl _ Try.underlying34 rfl hiP rfl ?_)
    | ((with_reducible refine at_mlook (.tmp 40) (.tmp 43) ?_); refine wpList_mlook rfl _ (.tmp 40) (.tmp 43) true rfl _ _ _ rfl rfl (HLP.out _ VS4.out) ?_; rw [HDP.out, HVP.out])
    | ((with_reducible refine at_load (.tmp 51) ?_); refine wpList_load_1 3 (.tmp 51) rfl (w.heap.size + 1) 238 (.int .i64 (u : Int)) (HCU.out _ VS4.out) rfl _ Try.underlying3 rfl rfl ?_))
  refine wp_region_fam2 (by kernel_rfl) (by kernel_rfl) ?_
  intro T F hT hF hG
  have c0 : ∀ t, (F t).cell? ⟨w.heap.size, 0, none⟩ = some (.slice (some ⟨rb, ro, none⟩) m cap) := fun t => (VS4.out.call (hF t)).v.t.cell 0
  have c1 : ∀ t, (F t).cell? ⟨w.heap.size + 1, 238, none⟩ = some (.int .i64 (u : Int)) := fun t => HCU.out _ (VS4.out.call (hF t))
  have c2 : ∀ t, (F t).cell? ⟨w.heap.size + 1, 66, none⟩ = some (.int .u64 sl) := fun t => HCL.out _ (VS4.out.call (hF t))
  have c3 : ∀ t, (F t).cell? ⟨rb, ro + u * 240 + 66, none⟩ = some (.int .u64 s1) := fun t => ((VS4.out.call (hF t)).v.b.cell (p := ⟨rb, ro + u * 240 + 66, none⟩) hrb2).trans HSU.out
  repeat (go_big_quiet_step (fail))
  refine wpQuiet_nil ?_
  rintro _ ⟨t, rfl⟩
  have VS5 := Lib.hid (VS4.out.call (hF t))
  obtain ⟨w5, hw5⟩ : ∃ u, F t = u := ⟨_, rfl⟩
  rw [hw5] at VS5 ⊢
  clear c0 c1 c2 c3 hG hw5 hF hT hqs
  clear t F T
  cases qs
  case true =>
    have HQ : Hid (14 = q) := by show 14 = q; rw [← HQ3.out, if_pos ⟨hkp, HQS.out.1 rfl⟩]
    go_wp2_with fail
    go_ret
    exact ⟨by rw [← HQ.out]; rfl, VS5.out.v.b⟩
  case false =>
    have HQ : Hid (0 = q) := by show 0 = q; rw [← HQ3.out, if_neg (fun h => by have := HQS.out.2 h.2; cases this)]
    go_wp2_with fail
    go_ret
    exact ⟨by rw [← HQ.out]; rfl, VS5.out.v.b⟩
end

/-! BtW -/
section
set_option linter.unusedVariables false
set_option linter.unusedSimpArgs false
open Go.RowKit

set_option maxRecDepth 100000

structure BvS (w : World) (T : Array Value) (xs : List NdD) (u : World) : Prop where
  p : PaS w T u
  m : MpN u (w.heap.size + 1) xs

theorem BvS.call {w u u' : World} {T : Array Value} {xs : List NdD} (h : BvS w T xs u) (hb : Below u.heap.size u u') : BvS w T xs u' := ⟨h.p.call hb, h.m.call hb⟩

def BvI (w : World) (T : Array Value) (ns : List NdD) (m : Nat) (q : Int) (i : Value) (wr : World) : Prop :=
  ∃ k : Nat, k ≤ m ∧ i = .int .i64 k ∧ vtGo ns (ns.length - k) k = q ∧ BvS w T (ns.take k) wr ∧ DisN (ns.take k)

set_option maxHeartbeats 16000000 in
theorem cvtree_any (v : Value) (ns : List NdD) (w : World) (hN : NodesV w v ns) :
    Calls Try.prog 10 #[.agg #[v]] w fun e w' => e = .returned (.int .i64 (vtE ns)) ∧ Below w.heap.size w w' := by
  obtain ⟨a, cap, rfl, hmx⟩ := hN.shape
  unfold maxLen at hmx
  have HN := Lib.hid hN
  have hi1 : (Try.prog.info? 24).map (·.size) = some 1 := by kernel_rfl
  obtain ⟨ZN, hZN⟩ : ∃ Z, flatP (zeBkP ++ [[.int .i64 0], [.int .i64 0]]) = Z := ⟨_, rfl⟩
  have hszN : ZN.size = 240 := by rw [← hZN]; rfl
  obtain ⟨hz240, hst240⟩ := zero_array (P := Try.prog) (t := 44) (n := 240) ZN (by rw [← hZN]; kernel_rfl) hszN (by rw [← hZN]; kernel_rfl)
  have HSZ := Lib.hid hszN
  obtain ⟨q, hq⟩ : ∃ q, vtE ns = q := ⟨_, rfl⟩
  rw [hq]
  unfold vtE at hq
  obtain ⟨m, hm⟩ : ∃ m, Hid (ns.length = m) := ⟨_, Lib.hid rfl⟩
  rw [hm.out] at hmx HN hq ⊢
  have S0 := Lib.hid (pas_new w #[.slice a m cap] 24)
  clear hN hst240 hZN hszN
  by_cases h0 : m = 0
  · subst h0
    rw [if_pos (.inl rfl)] at hq
    have HQ := Lib.hid hq
    clear hq
    go_enter Try.func10, Try.ntmps10
    go_wp2_with (first
      | ((with_reducible refine at_load (.tmp 7) ?_); refine wpList_load_1 22 (.tmp 7) rfl w.heap.size 0 (.slice a 0 cap) (S0.out.t.cell 0) rfl _ Try.underlying22 rfl rfl ?_))
    go_ret
    exact ⟨by rw [← HQ.out]; rfl, S0.out.b⟩
  have hz : ((m : Int) == 0) = false := by simp; omega
  by_cases hbig : 4096 < m
  · rw [if_pos (.inr hbig)] at hq
    have HQ := Lib.hid hq
    have hbig' : (4096 : Int) < m := by omega
    clear hq h0
    go_enter Try.func10, Try.ntmps10
    go_wp2_with (first
      | ((with_reducible refine at_load (.tmp 7) ?_); refine wpList_load_1 22 (.tmp 7) rfl w.heap.size 0 (.slice a m cap) (S0.out.t.cell 0) rfl _ Try.underlying22 rfl rfl ?_)
      | ((with_reducible refine at_load (.tmp 12) ?_); refine wpList_load_1 22 (.tmp 12) rfl w.heap.size 0 (.slice a m cap) (S0.out.t.cell 0) rfl _ Try.underlying22 rfl rfl ?_))
    go_ret
    exact ⟨by rw [← HQ.out]; rfl, S0.out.b⟩
  rw [if_neg (by omega)] at hq
  have HQ0 := Lib.hid hq
  have hbig' : ((4096 : Int) < m) = False := eq_false (by omega)
  clear hq h0
  have S1 : Hid (BvS w #[.slice a m cap] [] ((w.alloc (.cells #[.slice a m cap] 24)).alloc (.map #[] 0))) := by
    refine ⟨S0.out.call ((Below.refl _ _).alloc (Nat.le_refl _) _), ?_⟩
    have h := MpN.made (w.alloc (.cells #[.slice a m cap] 24))
    have e : (w.alloc (.cells #[.slice a m cap] 24)).heap.size = w.heap.size + 1 := by simp
    rw [e] at h
    exact h
  have HMU := Lib.hid und_mpi
  go_enter Try.func10, Try.ntmps10
  go_wp2_with (first
    | ((with_reducible refine at_load (.tmp 7) ?_); refine wpList_load_1 22 (.tmp 7) rfl w.heap.size 0 (.slice a m cap) (S0.out.t.cell 0) rfl _ Try.underlying22 rfl rfl ?_)
    | ((with_reducible refine at_load (.tmp 12) ?_); refine wpList_load_1 22 (.tmp 12) rfl w.heap.size 0 (.slice a m cap) (S0.out.t.cell 0) rfl _ Try.underlying22 rfl rfl ?_)
    | ((with_reducible refine at_load (.tmp 17) ?_); refine wpList_load_1 22 (.tmp 17) rfl w.heap.size 0 (.slice a m cap) (S0.out.t.cell 0) rfl _ Try.underlying22 rfl rfl ?_)
    | ((with_reducible refine at_load (.tmp 21) ?_); refine wpList_load_1 22 (.tmp 21) rfl w.heap.size 0 (.slice a m cap) (S1.out.p.t.cell 0) rfl _ Try.underlying22 rfl rfl ?_)
    | ((with_reducible refine at_mmake (some (.tmp 19)) ?_); refine wpList_mmake rfl _ _ _ (.tmp 19) rfl HMU.out .i64 (m : Int) rfl ?_))
  go_loopw [24] (fun i wr => BvI w #[.slice a m cap] ns m q i wr) (fun i _ => m - (intOf i).toNat)
  case atStart => exact ⟨0, Nat.zero_le _, rfl, by rw [hm.out]; exact HQ0.out, S1.out, List.Pairwise.nil⟩
  case round =>
    obtain ⟨k, hk, rfl, hgo, hs, hdi⟩ := hrel
    have HGO := Lib.hid hgo
    have S2 := Lib.hid hs
    have HDI := Lib.hid hdi
    clear hgo hs hdi
    by_cases hlt : k < m
    case neg =>
      obtain rfl : k = m := by omega
      have HQV : Hid (0 = q) := by show 0 = q; rw [← HGO.out, hm.out, Nat.sub_self]; rfl
      go_wp2_with fail
      go_ret
      exact ⟨by rw [← HQV.out]; rfl, S2.out.p.b⟩
    have hlt' : (k : Int) < m := by omega
    have hkn : k < ns.length := by rw [hm.out]; exact hlt
    have hstep := vtGo_step hkn
    have HVN := Lib.hid (fun u (hu : BvS w #[.slice a m cap] (ns.take k) u) => vnode_any (.slice a m cap) ns k (w.heap.size + 1) u (HN.out.call hu.p.b) hkn hu.m HDI.out)
    have HTK := Lib.hid (List.take_succ_eq_append_getElem hkn)
    have HTL : Hid ((ns.take k).length = k) := by show _ = _; rw [List.length_take]; omega
    obtain ⟨rb, ro, rfl, hlm, hrb, hna, hdk⟩ := HN.out.elem hkn
    have HALL := Lib.hid hna.all
    obtain ⟨d, hd⟩ : ∃ d, ns[k] = d := ⟨_, rfl⟩
    rw [hd] at HALL hdk hstep HVN HTK
    have HDK := Lib.hid hdk
    have HNT : Hid (∀ u b, Blk u b d.cells.toArray → NdAt u b 0 d) := fun u b hu => nd_at hu.rng HDK.out
    obtain ⟨L, hL⟩ : ∃ L, d.cells = L := ⟨_, rfl⟩
    have hLl : L.length = 240 := by rw [← hL]; exact NdD.len hdk
    have HL1 : Hid (∀ v ∈ L, v.oneCell' = true) := by show ∀ v ∈ L, _; rw [← hL]; exact NdD.one _
    rw [hL] at HALL HNT
    have hiL : (Try.prog.info? 44).map (·.size) = some L.length := by rw [hLl]; kernel_rfl
    have hiR : (Try.prog.info? 34).map (·.size) = some (bytesL d.b.root).length := by rw [bytesL_len hdk.1.2.2.2.1]; kernel_rfl
    have HSTEP := Lib.hid hstep
    obtain ⟨ev, hev⟩ : ∃ z, nodeE ns d k = z := ⟨_, rfl⟩
    have HEV := Lib.hid hev
    rw [hev] at HVN HSTEP
    clear hlm hna hdk hd hL hstep hev
    by_cases he : ev = 0
    case neg =>
      have hne : (ev != 0) = true := by simpa using he
      have HQ : Hid (ev = q) := by show ev = q; rw [← HGO.out, HSTEP.out, if_neg he]
      clear he
      go_wp2_with (first
        | ((with_reducible refine at_load (.tmp 27) ?_); refine wpList_load_rng 44 (.tmp 27) rfl rb (ro + k * 240) L (Below.rng S2.out.p.b hrb HALL.out) rfl _ Try.underlying44 rfl hiL rfl ?_)
        | ((with_reducible refine at_store (.tmp 5) ?_); refine wpList_store_blk rfl 44 (.tmp 5) _ rfl wr.heap.size L.toArray rfl rfl ZN (Blk.new rfl) (by rw [HSZ.out, List.size_toArray, hLl]) (by simpa using hiL) (fun v hv => HL1.out v (by simpa using hv)) ?_; intro w2 U2 B2; have hb2 := U2.below ((Below.refl wr.heap.size wr).alloc (Nat.le_refl _) (.cells ZN 44)) (Nat.le_refl _); have S3 := Lib.hid (S2.out.call hb2); have BL3 := Lib.hid B2; clear U2 B2 hb2)
        | ((with_reducible refine at_load (.tmp 1) ?_); refine wpList_load_g 24 (.tmp 1) rfl w.heap.size rfl #[.slice (some ⟨rb, ro, none⟩) m cap] _ S3.out.p.t Try.underlying24 rfl hi1 rfl ?_)
        | (go_at_call 28; refine (HVN.out _ S3.out).mono ?_; rintro e w3 ⟨rfl, hb3⟩; have S4 := Lib.hid (S3.out.call hb3); have BL4 := Lib.hid (BL3.out.call hb3); clear hb3))
      go_ret
      exact ⟨by rw [← HQ.out]; rfl, S4.out.p.b⟩
    subst he
    have hne : ((0 : Int) != 0) = false := by simp
    have HNX : Hid (vtGo ns (ns.length - (k + 1)) (k + 1) = q) := by show _ = q; rw [← HGO.out, HSTEP.out, if_pos rfl]
    have HNF : Hid (¬ 0 ≤ findN (ns.take k) d.b.root) := fun h => by
      have e := HEV.out
      unfold nodeE at e
      by_cases hb : badForm d k
      · rw [if_pos hb] at e; cases e
      · rw [if_neg hb, if_pos h] at e; cases e
    have HDN : Hid (DisN (ns.take (k + 1))) := by show DisN _; rw [HTK.out]; exact HDI.out.snoc HNF.out
    go_wp2_with (first
      | ((with_reducible refine at_load (.tmp 27) ?_); refine wpList_load_rng 44 (.tmp 27) rfl rb (ro + k * 240) L (Below.rng S2.out.p.b hrb HALL.out) rfl _ Try.underlying44 rfl hiL rfl ?_)
      | ((with_reducible refine at_store (.tmp 5) ?_); refine wpList_store_blk rfl 44 (.tmp 5) _ rfl wr.heap.size L.toArray rfl rfl ZN (Blk.new rfl) (by rw [HSZ.out, List.size_toArray, hLl]) (by simpa using hiL) (fun v hv => HL1.out v (by simpa using hv)) ?_; intro w2 U2 B2; have hb2 := U2.below ((Below.refl wr.heap.size wr).alloc (Nat.le_refl _) (.cells ZN 44)) (Nat.le_refl _); have S3 := Lib.hid (S2.out.call hb2); have BL3 := Lib.hid B2; clear U2 B2 hb2)
      | ((with_reducible refine at_load (.tmp 1) ?_); refine wpList_load_g 24 (.tmp 1) rfl w.heap.size rfl #[.slice (some ⟨rb, ro, none⟩) m cap] _ S3.out.p.t Try.underlying24 rfl hi1 rfl ?_)
      | (go_at_call 28; refine (HVN.out _ S3.out).mono ?_; rintro e w3 ⟨rfl, hb3⟩; have S4 := Lib.hid (S3.out.call hb3); have BL4 := Lib.hid (BL3.out.call hb3); clear hb3)
      | ((with_reducible refine at_load (.tmp 38) ?_); refine wpList_load_rng 34 (.tmp 38) rfl wr.heap.size 67 (bytesL d.b.root) (by have := (HNT.out _ _ BL4.out).bk.root; rw [Nat.zero_add] at this; exact this) rfl _ Try.underlying34 rfl hiR rfl ?_)
      | ((with_reducible refine at_mput (.tmp 36) (.tmp 39) (.tmp 40) ?_); obtain ⟨w5, hr5, hm5, hg5⟩ := S4.out.m.put (d := d) HDK.out.1.2.2.2.1 (by have := HNF.out; omega) (by rw [HTL.out]; omega); rw [HTL.out] at hr5; refine wpList_mput rfl _ (.tmp 36) (.tmp 39) (.tmp 40) rfl _ _ _ rfl rfl rfl hr5 ?_; rw [← HTK.out] at hm5; have S5 : Hid (BvS w #[.slice (some ⟨rb, ro, none⟩) m cap] (ns.take (k + 1)) w5) := ⟨S4.out.p.grown hg5 (fun j hj => by cases hj; omega), hm5⟩; clear hm5 hg5 hr5))
    go_roundw
    case rel => exact ⟨k + 1, by omega, by go_num, HNX.out, S5.out, HDN.out⟩
    case measure => simp [intOf]; omega
end

/-! BtE -/
section
set_option linter.unusedVariables false
set_option linter.unusedSimpArgs false
open Go.RowKit

set_option maxRecDepth 100000

/-- A tree in a variable of the call's own, and an error number. -/
def TreC (ns : List NdD) (er : Int) (w1 : World) (p q : Value) (wx : World) : Prop :=
  ∃ (B : Nat) (a : Option Addr) (c : Nat), p = .pointer (some ⟨B, 0, none⟩) ∧ q = .int .i64 er ∧ Blk wx B #[.slice a ns.length c] ∧ NodesV wx (.slice a ns.length c) ns ∧ ns.length ≤ c ∧ Off B (.slice a ns.length c) ∧ New w1.heap.size (.slice a ns.length c) ∧ w1.heap.size ≤ B ∧ Below w1.heap.size w1 wx

theorem TreC.mk {ns : List NdD} {er : Int} {w1 w3 w9 : World} {B : Nat} {a : Option Addr} {c : Nat} (hU : Upd B w3 w9) (hB : Blk w9 B #[.slice a ns.length c]) (hN : NodesV w3 (.slice a ns.length c) ns) (hc : ns.length ≤ c) (hO : Off B (.slice a ns.length c)) (hW : New w1.heap.size (.slice a ns.length c)) (hg : w1.heap.size ≤ B) (hb : Below w1.heap.size w1 w9) :
    TreC ns er w1 (.pointer (some ⟨B, 0, none⟩)) (.int .i64 er) w9 := ⟨B, a, c, rfl, rfl, hB, hN.grownOff (upd_grown hU) hO, hc, hO, hW, hg, hb⟩

/-- Blocks that are built of a root, or of a root, a parent and a slot. -/
theorem build_bR {r : List Int} (hr : IsBytes 32 r) (u : World) : (Instr.build 42 #[(2, .agg (bytesL r).toArray)]).run Try.prog u = .ok (.agg (flatP (bk4 0 r zeroR zeroR).parts)) u := by
  have hl := bytesL_len hr
  refine build_struct (zero := flatP zeBk10) zeBk_hz Try.underlying42 (places := #[(0, 66), (66, 1), (67, 32), (99, 32), (131, 32), (163, 4), (167, 4), (171, 33), (204, 33), (237, 1)]) (fun w => by kernel_rfl) ?_ u
  show Instr.fill _ (flatP zeBk10) [(2, .agg (bytesL r).toArray)] = _
  rw [fill_part (i := 2) (o := 67) 2 (bytesL zeroR) (bytesL r) rfl rfl (by rw [hl]; rfl) rfl (by rw [hl]; rfl)]
  unfold Instr.fill
  simp [flatP, zeBk10, bk4, BkD.parts, CpD.cells, wideL, l0, l1, l2, l3, List.replicate]

theorem build_bRP {s : Int} {r p : List Int} (hr : IsBytes 32 r) (hp : IsBytes 32 p) (u : World) : (Instr.build 42 #[(2, .agg (bytesL r).toArray), (3, .agg (bytesL p).toArray), (1, .int .u64 s)]).run Try.prog u = .ok (.agg (flatP (bk4 s r p zeroR).parts)) u := by
  have hl := bytesL_len hr
  have hl1 := bytesL_len hp
  refine build_struct (zero := flatP zeBk10) zeBk_hz Try.underlying42 (places := #[(0, 66), (66, 1), (67, 32), (99, 32), (131, 32), (163, 4), (167, 4), (171, 33), (204, 33), (237, 1)]) (fun w => by kernel_rfl) ?_ u
  show Instr.fill _ (flatP zeBk10) [(2, .agg (bytesL r).toArray), (3, .agg (bytesL p).toArray), (1, .int .u64 s)] = _
  rw [fill_part (i := 2) (o := 67) 2 (bytesL zeroR) (bytesL r) rfl rfl (by rw [hl]; rfl) rfl (by rw [hl]; rfl), fill_part (i := 3) (o := 99) 3 (bytesL zeroR) (bytesL p) rfl rfl (by rw [hl1]; rfl) (by simp [zeBk10, offP, hl, bytesL_len zeroR_is]) (by rw [hl1]; rfl), fill_part (i := 1) (o := 66) 1 [.int .u64 0] [.int .u64 s] rfl rfl rfl rfl rfl]
  unfold Instr.fill
  simp [flatP, zeBk10, bk4, BkD.parts, CpD.cells, wideL, l0, l1, l2, l3, List.replicate]
/-! ### The trees of awake, as data -/

def awA : BkD := bk4 0 (rootK 1) zeroR zeroR

def awB : BkD := bk4 1 (rootK 2) (rootK 1) zeroR

def awC : BkD := bk4 2 (rootK 3) (rootK 1) zeroR

def aw1 : List NdD := [⟨awA, -1, 1⟩]

def aw2 : List NdD := [⟨awA, -1, 1⟩, ⟨awB, 0, 1⟩]

def aw3 : List NdD := [⟨awA, -1, 1⟩, ⟨awB, 0, 1⟩, ⟨awC, 0, 0⟩]

theorem awA_ok : awA.ok := bk4_ok (by omega) (rootK_is 1) zeroR_is zeroR_is

theorem awB_ok : awB.ok := bk4_ok (by omega) (rootK_is 2) (rootK_is 1) zeroR_is

theorem awC_ok : awC.ok := bk4_ok (by omega) (rootK_is 3) (rootK_is 1) zeroR_is

theorem aw_ins1 : insT aw1 awB 1 = (aw2, 0) := by
  have h1 : findN aw1 awB.root = -1 := by kernel_rfl
  have h2 : findN aw1 awB.parent = 0 := by kernel_rfl
  have h3 : slotAt aw1 0 = 0 := by kernel_rfl
  unfold insT
  rw [h1, h2, h3, if_neg (by omega), if_neg (by omega), if_neg (by omega), if_neg (by decide), if_neg (by decide)]
  rfl

theorem aw_ins2 : insT aw2 awC 0 = (aw3, 0) := by
  have h1 : findN aw2 awC.root = -1 := by kernel_rfl
  have h2 : findN aw2 awC.parent = 0 := by kernel_rfl
  have h3 : slotAt aw2 0 = 0 := by kernel_rfl
  unfold insT
  rw [h1, h2, h3, if_neg (by omega), if_neg (by omega), if_neg (by omega), if_neg (by decide), if_neg (by decide)]
  rfl

theorem aw_find : findN aw3 (rootK 3) = 2 := by kernel_rfl

theorem aw_child : childN aw3 0 = [1, 2] := by kernel_rfl

theorem aw_leaf : leafN aw3 = [1, 2] := by kernel_rfl

theorem bs_int2 (m n : Int) (u : World) : (Instr.buildSlice 29 2 #[(0, .int .i64 m), (1, .int .i64 n)]).run Try.prog u = .ok (.slice (some ⟨u.heap.size, 0, none⟩) 2 2) (u.alloc (.cells #[.int .i64 m, .int .i64 n] 3)) := by kernel_rfl

theorem ints_two11 {w : World} {g : Nat} {m n : Int} (h : Blk w g #[.int .i64 m, .int .i64 n]) (hm : -9223372036854775808 ≤ m ∧ m ≤ 9223372036854775807) (hn : -9223372036854775808 ≤ n ∧ n ≤ 9223372036854775807) : IntsV w (.slice (some ⟨g, 0, none⟩) 2 2) [m, n] := by
  refine ⟨⟨_, _, _, rfl, rfl, by unfold maxLen; omega, .inr ⟨g, 0, rfl, h.lt, fun i hi => ?_⟩⟩, fun x hx => ?_⟩
  · have : i = 0 ∨ i = 1 := by omega
    rcases this with rfl | rfl
    · exact h.cell 0
    · exact h.cell 1
  · simp at hx
    rcases hx with rfl | rfl
    · exact hm
    · exact hn

theorem same_12 (v1 v2 : Value) (l : List Int) (u : World) (h1 : IntsV u v1 l) (h2 : IntsV u v2 l) : Calls Try.prog 17 #[v1, v2] u fun e w' => e = .returned (.bool true) ∧ Below u.heap.size u w' :=
  (sints2 v1 v2 l l u h1 h2).mono fun e w' ⟨b, he, hb, hbl⟩ => ⟨by rw [he, hb.2 rfl], hbl⟩

/-- An Insert that succeeds. -/
theorem ins_to {ns ns' : List NdD} {x : BkD} {st : Int} (h : insT ns x st = (ns', 0)) {n : Nat} (hn : ns'.length = n) (v : Value) (u : World) (hN : NodesV u v ns) (hx : x.ok) (hst : -9223372036854775808 ≤ st ∧ st ≤ 9223372036854775807) :
    Calls Try.prog 14 #[.agg #[v], .agg (flatP x.parts), .int .i64 st] u fun e w' => ∃ a c, e = .returned (.tuple #[.agg #[.slice a n c], .int .i64 0]) ∧ NodesV w' (.slice a n c) ns' ∧ n ≤ c ∧ New u.heap.size (.slice a n c) ∧ Below u.heap.size u w' := by
  refine (cinsn_any v ns x st u hN hx hst).mono ?_
  rintro e w' ⟨v', he, h1, h2, h3, h4⟩
  rw [h] at he h1
  subst hn
  obtain ⟨a, c, rfl, _⟩ := h1.shape
  exact ⟨a, c, he, h1, h3 _ _ _ rfl, h2, h4⟩

set_option maxHeartbeats 16000000 in
theorem awake11_any (w : World) : Calls Try.prog 9 #[] w fun e w' => e = .returned (.bool true) ∧ Below w.heap.size w w' := by
  obtain ⟨R1, h1⟩ : ∃ z, bytesL (rootK 1) = z := ⟨_, rfl⟩
  obtain ⟨R2, h2⟩ : ∃ z, bytesL (rootK 2) = z := ⟨_, rfl⟩
  obtain ⟨R3, h3⟩ : ∃ z, bytesL (rootK 3) = z := ⟨_, rfl⟩
  obtain ⟨XA, hA⟩ : ∃ z, flatP awA.parts = z := ⟨_, rfl⟩
  obtain ⟨XB, hB⟩ : ∃ z, flatP awB.parts = z := ⟨_, rfl⟩
  obtain ⟨XC, hC⟩ : ∃ z, flatP awC.parts = z := ⟨_, rfl⟩
  have HK1 : Hid (∀ u, Calls Try.prog 13 #[.int .i64 1] u fun e w' => e = .returned (.agg R1.toArray) ∧ Below u.heap.size u w') := fun u => by rw [← h1]; exact root_k 1 u
  have HK2 : Hid (∀ u, Calls Try.prog 13 #[.int .i64 2] u fun e w' => e = .returned (.agg R2.toArray) ∧ Below u.heap.size u w') := fun u => by rw [← h2]; exact root_k 2 u
  have HK3 : Hid (∀ u, Calls Try.prog 13 #[.int .i64 3] u fun e w' => e = .returned (.agg R3.toArray) ∧ Below u.heap.size u w') := fun u => by rw [← h3]; exact root_k 3 u
  have HXA : Hid (∀ u, (Instr.build 42 #[(2, .agg R1.toArray)]).run Try.prog u = .ok (.agg XA) u) := fun u => by rw [← h1, ← hA]; exact build_bR (rootK_is 1) u
  have HXB : Hid (∀ u, (Instr.build 42 #[(2, .agg R2.toArray), (3, .agg R1.toArray), (1, .int .u64 1)]).run Try.prog u = .ok (.agg XB) u) := fun u => by rw [← h1, ← h2, ← hB]; exact build_bRP (rootK_is 2) (rootK_is 1) u
  have HXC : Hid (∀ u, (Instr.build 42 #[(2, .agg R3.toArray), (3, .agg R1.toArray), (1, .int .u64 2)]).run Try.prog u = .ok (.agg XC) u) := fun u => by rw [← h1, ← h3, ← hC]; exact build_bRP (rootK_is 3) (rootK_is 1) u
  have HNW : Hid (∀ u, Calls Try.prog 26 #[.agg XA, .int .i64 1] u fun e w' => ∃ a c, e = .returned (.agg #[.slice a 1 c]) ∧ NodesV w' (.slice a 1 c) aw1 ∧ Below u.heap.size u w') := fun u => by
    rw [← hA]
    refine (cnewt_any awA 1 u awA_ok (by omega)).mono ?_
    rintro e w' ⟨v, he, h1, _, _, h4⟩
    obtain ⟨a, c, rfl, _⟩ := h1.shape
    exact ⟨a, c, he, h1, h4⟩
  have HI1 : Hid (∀ v u, NodesV u v aw1 → Calls Try.prog 14 #[.agg #[v], .agg XB, .int .i64 1] u fun e w' => ∃ a c, e = .returned (.tuple #[.agg #[.slice a 2 c], .int .i64 0]) ∧ NodesV w' (.slice a 2 c) aw2 ∧ 2 ≤ c ∧ New u.heap.size (.slice a 2 c) ∧ Below u.heap.size u w') := fun v u hu => by rw [← hB]; exact ins_to aw_ins1 rfl v u hu awB_ok (by omega)
  have HI2 : Hid (∀ v u, NodesV u v aw2 → Calls Try.prog 14 #[.agg #[v], .agg XC, .int .i64 0] u fun e w' => ∃ a c, e = .returned (.tuple #[.agg #[.slice a 3 c], .int .i64 0]) ∧ NodesV w' (.slice a 3 c) aw3 ∧ 3 ≤ c ∧ New u.heap.size (.slice a 3 c) ∧ Below u.heap.size u w') := fun v u hu => by rw [← hC]; exact ins_to aw_ins2 rfl v u hu awC_ok (by omega)
  have HFI : Hid (∀ v u, NodesV u v aw3 → Calls Try.prog 22 #[.agg #[v], .agg R3.toArray] u fun e w' => e = .returned (.int .i64 2) ∧ Below u.heap.size u w') := fun v u hu => by
    have h := cfind_any v aw3 (rootK 3) u hu (rootK_is 3)
    rw [aw_find, h3] at h
    exact h
  have HCH : Hid (∀ v u, NodesV u v aw3 → Calls Try.prog 18 #[.agg #[v], .int .i64 0] u fun e w' => ∃ v', e = .returned v' ∧ IntsV w' v' [1, 2] ∧ Below u.heap.size u w') := fun v u hu => by
    have h := cchild_any aw3 0 v u hu (by decide)
    rw [aw_child] at h
    exact h.mono fun e w' ⟨v', he, ho, hb⟩ => ⟨v', he, ⟨ho.ints (by unfold maxLen; simp), by simp⟩, hb⟩
  have HLV : Hid (∀ v u, NodesV u v aw3 → Calls Try.prog 24 #[.agg #[v]] u fun e w' => ∃ v', e = .returned v' ∧ IntsV w' v' [1, 2] ∧ Below u.heap.size u w') := fun v u hu => by
    have h := cleaves_any aw3 v u hu (by decide)
    rw [aw_leaf] at h
    exact h.mono fun e w' ⟨v', he, ho, hb⟩ => ⟨v', he, ⟨ho.ints (by unfold maxLen; simp), by simp⟩, hb⟩
  have HSM := Lib.hid same_12
  have hi1 : (Try.prog.info? 24).map (·.size) = some 1 := by kernel_rfl
  obtain ⟨hz1, hst1⟩ := zero_array (P := Try.prog) (t := 24) (n := 1) #[.slice none 0 0] (by kernel_rfl) rfl (by kernel_rfl)
  clear h1 h2 h3 hA hB hC hst1
  go_enter Try.func9, Try.ntmps9
  go_upto_region 2 with (first
    | (go_at_call 13; refine (HK1.out _).mono ?_; rintro e w1 ⟨rfl, hb1⟩; have HB1 := Lib.hid hb1; clear hb1)
    | ((with_reducible refine at_build (some 7) ?_); refine wpList_build_g 42 _ rfl #[(2, .agg R1.toArray)] (by simp [Act.eval, Act.put]) (.agg XA) (HXA.out _) rfl ?_)
    | (go_at_call 26; refine (HNW.out _).mono ?_; rintro e w2 ⟨a1, c1, rfl, hn2, hb2⟩; have HN2 := Lib.hid hn2; have HB2 := Lib.hid (HB1.out.trans (hb2.mono HB1.out.size)); clear hn2 hb2)
    | ((with_reducible refine at_store (.tmp 1) ?_); refine wpList_store_blk rfl 24 (.tmp 1) _ rfl w2.heap.size #[.slice a1 1 c1] rfl rfl #[.slice none 0 0] (Blk.new rfl) rfl hi1 (by simp [Value.oneCell']) ?_; intro w3 U3 B3; have hb3 := U3.below ((Below.refl w2.heap.size w2).alloc (Nat.le_refl _) (.cells #[.slice none 0 0] 24)) (Nat.le_refl _); have HTw3 := Lib.hid B3; have HNw3 := Lib.hid (HN2.out.call hb3); have HB3 := Lib.hid (HB2.out.trans (hb3.mono HB2.out.size)); clear U3 B3 hb3))
  obtain ⟨b1, hb1⟩ : ∃ x, w2.heap.size = x := ⟨_, rfl⟩
  rw [hb1] at HTw3 ⊢
  clear hb1
  simp only [Act.put]
  go_cut [2, 3] from 9 to 17 (fun p q wx => TreC aw2 0 w3 p q wx)
  case first =>
    have HSx0 : Hid (Below w3.heap.size w3 w3.drew) := Below.drewN (n := 1) (Below.refl _ _)
    refine wp_region_held_drew (S := fun u => Below w3.heap.size w3 u) (by kernel_rfl) (HSx0.out) (fun _ => ?_)
    (try simp only [Act.put, List.setIfInBounds_toArray, List.set_cons_zero, List.set_cons_succ])
    obtain ⟨x0, hx0⟩ : ∃ x, w3.drew = x := ⟨_, rfl⟩
    rw [hx0] at HSx0 ⊢
    clear hx0
    refine held_load (oi := ⟨some 10, _, _, _, _, _⟩) 0 rfl (by kernel_rfl) (by kernel_rfl) (by kernel_rfl) (fun _ _ _ _ h => h) rfl 24 (.tmp 1) rfl b1 (0) rfl [.slice a1 1 c1] _ (fun u' hu => (HTw3.out.call hu).rng) Try.underlying24 rfl (hi1) HSx0.out ?_
    (try simp only [Act.put, List.setIfInBounds_toArray, List.set_cons_zero, List.set_cons_succ])
    refine wpAnyH_ready (rs := [1, 8]) (by kernel_rfl) (by simp) ?_
    refine AllReadyH.cons (o := ⟨some 11, _, _, _, _, _⟩) rfl (fun K hK => ?_) (AllReadyH.cons (o := ⟨some 2, _, _, _, _, _⟩) rfl (fun K hK => ?_) AllReadyH.nil)
    · skip
      go_simp
      refine (HK2.out x0).mono ?_
      rintro e x1 ⟨rfl, hbx1⟩
      have HSx1 : Hid (Below w3.heap.size w3 x1) := HSx0.out.trans (hbx1.mono HSx0.out.size)
      clear hbx1
      refine hK.out _ _ (HSx1.out) (fun _ => ?_)
      clear hK K
      (try simp only [Act.put, List.setIfInBounds_toArray, List.set_cons_zero, List.set_cons_succ])
      refine wpAnyH_ready (rs := [2, 8]) (by kernel_rfl) (by simp) ?_
      refine AllReadyH.cons (o := ⟨some 12, _, _, _, _, _⟩) rfl (fun K hK => ?_) (AllReadyH.cons (o := ⟨some 2, _, _, _, _, _⟩) rfl (fun K hK => ?_) AllReadyH.nil)
      · skip
        go_simp
        refine (HK1.out x1).mono ?_
        rintro e x2 ⟨rfl, hbx2⟩
        have HSx2 : Hid (Below w3.heap.size w3 x2) := HSx1.out.trans (hbx2.mono HSx1.out.size)
        clear hbx2
        refine hK.out _ _ (HSx2.out) (fun _ => ?_)
        clear hK K
        (try simp only [Act.put, List.setIfInBounds_toArray, List.set_cons_zero, List.set_cons_succ])
        refine held_build (oi := ⟨some 13, _, _, _, _, _⟩) 3 rfl (by kernel_rfl) (by kernel_rfl) (by kernel_rfl) (fun _ _ _ _ h => h) rfl 42 _ rfl #[(2, .agg R2.toArray), (3, .agg R1.toArray), (1, .int .u64 1)] (by simp [Act.eval]) (.agg XB) (HXB.out) HSx2.out ?_
        (try simp only [Act.put, List.setIfInBounds_toArray, List.set_cons_zero, List.set_cons_succ])
        refine wpAnyH_ready (rs := [4, 8]) (by kernel_rfl) (by simp) ?_
        refine AllReadyH.cons (o := ⟨some 14, _, _, _, _, _⟩) rfl (fun K hK => ?_) (AllReadyH.cons (o := ⟨some 2, _, _, _, _, _⟩) rfl (fun K hK => ?_) AllReadyH.nil)
        · skip
          go_simp
          have hncur : NodesV x2 (.slice a1 1 c1) aw1 := HNw3.out.call HSx2.out
          refine (HI1.out _ x2 hncur).mono ?_
          rintro e x3 ⟨xa, xc, rfl, hnI, hcI, hwI, hbx3⟩
          clear hncur
          have HNI := Lib.hid hnI
          have HCI := Lib.hid hcI
          have HWI := Lib.hid (hwI.mono HSx2.out.size)
          clear hnI hcI hwI
          have HSx3 : Hid (Below w3.heap.size w3 x3) := HSx2.out.trans (hbx3.mono HSx2.out.size)
          clear hbx3
          refine hK.out _ _ (HSx3.out) (fun _ => ?_)
          clear hK K
          (try simp only [Act.put, List.setIfInBounds_toArray, List.set_cons_zero, List.set_cons_succ])
          refine wpAnyH_take (i := 5) (oi := ⟨some 9, _, _, _, _, _⟩) (v := .tuple #[.agg #[.slice xa 2 xc], .int .i64 0]) rfl (by kernel_rfl) (by kernel_rfl) (by kernel_rfl) (fun _ _ _ h => h) (Or.inl ⟨by rfl, fun wz hz => ?_⟩) HSx3.out ?_
          · clear hz; go_simp; first | done | with_reducible rfl | rfl
          (try simp only [Act.put, List.setIfInBounds_toArray, List.set_cons_zero, List.set_cons_succ])
          refine wpAnyH_take (i := 6) (oi := ⟨some 15, _, _, _, _, _⟩) (v := .agg #[.slice xa 2 xc]) rfl (by kernel_rfl) (by kernel_rfl) (by kernel_rfl) (fun _ _ _ h => h) (Or.inl ⟨by rfl, fun wz hz => ?_⟩) HSx3.out ?_
          · clear hz; go_simp; first | done | with_reducible rfl | rfl
          (try simp only [Act.put, List.setIfInBounds_toArray, List.set_cons_zero, List.set_cons_succ])
          refine wpAnyH_take (i := 7) (oi := ⟨some 16, _, _, _, _, _⟩) (v := .int .i64 0) rfl (by kernel_rfl) (by kernel_rfl) (by kernel_rfl) (fun _ _ _ h => h) (Or.inl ⟨by rfl, fun wz hz => ?_⟩) HSx3.out ?_
          · clear hz; go_simp; first | done | with_reducible rfl | rfl
          (try simp only [Act.put, List.setIfInBounds_toArray, List.set_cons_zero, List.set_cons_succ])
          refine wpAnyH_ready (rs := [8]) (by kernel_rfl) (by simp) ?_
          refine AllReadyH.cons (o := ⟨some 2, _, _, _, _, _⟩) rfl (fun K hK => ?_) AllReadyH.nil
          go_simp
          have HAy : Hid (Below x3.heap.size x3 (x3.alloc (.cells #[.slice none 0 0] 24))) := (Below.refl _ _).alloc (Nat.le_refl _) _
          have HZy : Hid (Blk (x3.alloc (.cells #[.slice none 0 0] 24)) x3.heap.size #[.slice none 0 0]) := Blk.new rfl
          obtain ⟨y4, hy⟩ : ∃ x, x3.alloc (.cells #[.slice none 0 0] 24) = x := ⟨_, rfl⟩
          rw [hy] at HAy HZy ⊢
          clear hy
          have HSy4 : Hid (Below w3.heap.size w3 y4) := HSx3.out.trans (HAy.out.mono HSx3.out.size)
          obtain ⟨bo, hbo⟩ : ∃ x, x3.heap.size = x := ⟨_, rfl⟩
          have HBO := Lib.hid hbo
          rw [hbo] at HZy ⊢
          clear hbo
          have HGE : Hid (w3.heap.size ≤ bo) := by have h1 := HSx3.out.size; have h2 := HBO.out; show _ ≤ _; omega
          refine hK.out _ _ (HSy4.out) (fun _ => ?_)
          clear hK K
          (try simp only [Act.put, List.setIfInBounds_toArray, List.set_cons_zero, List.set_cons_succ])
          have HOF := Lib.hid (NodesV.off HNI.out (Nat.le_of_eq HBO.out))
          refine wpAnyH_ready (rs := [9]) (by kernel_rfl) (by simp) ?_
          refine AllReadyH.cons (o := ⟨none, _, _, _, _, _⟩) rfl (fun K hK => ?_) AllReadyH.nil
          refine wp_store_blk 24 (.tmp 2) _ rfl bo #[.slice xa 2 xc] rfl rfl #[.slice none 0 0] HZy.out rfl hi1 (by simp [Value.oneCell']) ?_
          intro w9 U9 B9
          have HU9 := Lib.hid U9
          have HK9 := Lib.hid B9
          have HS9 : Hid (Below w3.heap.size w3 w9) := U9.below HSy4.out HGE.out
          clear U9 B9
          refine hK.out _ _ (HS9.out) (fun _ => ?_)
          clear hK K
          (try simp only [Act.put, List.setIfInBounds_toArray, List.set_cons_zero, List.set_cons_succ])
          refine wpAnyH_ready (rs := [10]) (by kernel_rfl) (by simp) ?_
          refine AllReadyH.cons (o := ⟨some 3, _, _, _, _, _⟩) rfl (fun K hK => ?_) AllReadyH.nil
          go_simp
          refine hK.out _ _ (HS9.out) (fun _ => ?_)
          clear hK K
          (try simp only [Act.put, List.setIfInBounds_toArray, List.set_cons_zero, List.set_cons_succ])
          refine wpAnyH_done (by kernel_rfl) ?_ _
          go_wp2_with fail
          go_meet
          case rel => exact TreC.mk HU9.out HK9.out (HNI.out.call HAy.out) HCI.out HOF.out HWI.out HGE.out HS9.out
        · skip
          go_simp
          have HAy : Hid (Below x2.heap.size x2 (x2.alloc (.cells #[.slice none 0 0] 24))) := (Below.refl _ _).alloc (Nat.le_refl _) _
          have HZy : Hid (Blk (x2.alloc (.cells #[.slice none 0 0] 24)) x2.heap.size #[.slice none 0 0]) := Blk.new rfl
          obtain ⟨y3, hy⟩ : ∃ x, x2.alloc (.cells #[.slice none 0 0] 24) = x := ⟨_, rfl⟩
          rw [hy] at HAy HZy ⊢
          clear hy
          have HSy3 : Hid (Below w3.heap.size w3 y3) := HSx2.out.trans (HAy.out.mono HSx2.out.size)
          obtain ⟨bo, hbo⟩ : ∃ x, x2.heap.size = x := ⟨_, rfl⟩
          have HBO := Lib.hid hbo
          rw [hbo] at HZy ⊢
          clear hbo
          have HGE : Hid (w3.heap.size ≤ bo) := by have h1 := HSx2.out.size; have h2 := HBO.out; show _ ≤ _; omega
          refine hK.out _ _ (HSy3.out) (fun _ => ?_)
          clear hK K
          (try simp only [Act.put, List.setIfInBounds_toArray, List.set_cons_zero, List.set_cons_succ])
          refine wpAnyH_ready (rs := [4]) (by kernel_rfl) (by simp) ?_
          refine AllReadyH.cons (o := ⟨some 14, _, _, _, _, _⟩) rfl (fun K hK => ?_) AllReadyH.nil
          go_simp
          have hncur : NodesV y3 (.slice a1 1 c1) aw1 := HNw3.out.call HSy3.out
          refine (HI1.out _ y3 hncur).mono ?_
          rintro e x3 ⟨xa, xc, rfl, hnI, hcI, hwI, hbx3⟩
          clear hncur
          have HNI := Lib.hid hnI
          have HCI := Lib.hid hcI
          have HWI := Lib.hid (hwI.mono HSy3.out.size)
          have HOF := Lib.hid (hwI.off HZy.out.lt)
          clear hnI hcI hwI
          have HZy := Lib.hid (HZy.out.call (Lib.hid hbx3).out)
          have HSx3 : Hid (Below w3.heap.size w3 x3) := HSy3.out.trans (hbx3.mono HSy3.out.size)
          clear hbx3
          refine hK.out _ _ (HSx3.out) (fun _ => ?_)
          clear hK K
          (try simp only [Act.put, List.setIfInBounds_toArray, List.set_cons_zero, List.set_cons_succ])
          refine wpAnyH_take (i := 5) (oi := ⟨some 9, _, _, _, _, _⟩) (v := .tuple #[.agg #[.slice xa 2 xc], .int .i64 0]) rfl (by kernel_rfl) (by kernel_rfl) (by kernel_rfl) (fun _ _ _ h => h) (Or.inl ⟨by rfl, fun wz hz => ?_⟩) HSx3.out ?_
          · clear hz; go_simp; first | done | with_reducible rfl | rfl
          (try simp only [Act.put, List.setIfInBounds_toArray, List.set_cons_zero, List.set_cons_succ])
          refine wpAnyH_take (i := 6) (oi := ⟨some 15, _, _, _, _, _⟩) (v := .agg #[.slice xa 2 xc]) rfl (by kernel_rfl) (by kernel_rfl) (by kernel_rfl) (fun _ _ _ h => h) (Or.inl ⟨by rfl, fun wz hz => ?_⟩) HSx3.out ?_
          · clear hz; go_simp; first | done | with_reducible rfl | rfl
          (try simp only [Act.put, List.setIfInBounds_toArray, List.set_cons_zero, List.set_cons_succ])
          refine wpAnyH_take (i := 7) (oi := ⟨some 16, _, _, _, _, _⟩) (v := .int .i64 0) rfl (by kernel_rfl) (by kernel_rfl) (by kernel_rfl) (fun _ _ _ h => h) (Or.inl ⟨by rfl, fun wz hz => ?_⟩) HSx3.out ?_
          · clear hz; go_simp; first | done | with_reducible rfl | rfl
          (try simp only [Act.put, List.setIfInBounds_toArray, List.set_cons_zero, List.set_cons_succ])
          refine wpAnyH_ready (rs := [9]) (by kernel_rfl) (by simp) ?_
          refine AllReadyH.cons (o := ⟨none, _, _, _, _, _⟩) rfl (fun K hK => ?_) AllReadyH.nil
          refine wp_store_blk 24 (.tmp 2) _ rfl bo #[.slice xa 2 xc] rfl rfl #[.slice none 0 0] HZy.out rfl hi1 (by simp [Value.oneCell']) ?_
          intro w9 U9 B9
          have HU9 := Lib.hid U9
          have HK9 := Lib.hid B9
          have HS9 : Hid (Below w3.heap.size w3 w9) := U9.below HSx3.out HGE.out
          clear U9 B9
          refine hK.out _ _ (HS9.out) (fun _ => ?_)
          clear hK K
          (try simp only [Act.put, List.setIfInBounds_toArray, List.set_cons_zero, List.set_cons_succ])
          refine wpAnyH_ready (rs := [10]) (by kernel_rfl) (by simp) ?_
          refine AllReadyH.cons (o := ⟨some 3, _, _, _, _, _⟩) rfl (fun K hK => ?_) AllReadyH.nil
          go_simp
          refine hK.out _ _ (HS9.out) (fun _ => ?_)
          clear hK K
          (try simp only [Act.put, List.setIfInBounds_toArray, List.set_cons_zero, List.set_cons_succ])
          refine wpAnyH_done (by kernel_rfl) ?_ _
          go_wp2_with fail
          go_meet
          case rel => exact TreC.mk HU9.out HK9.out HNI.out HCI.out HOF.out HWI.out HGE.out HS9.out
      · skip
        go_simp
        have HAy : Hid (Below x1.heap.size x1 (x1.alloc (.cells #[.slice none 0 0] 24))) := (Below.refl _ _).alloc (Nat.le_refl _) _
        have HZy : Hid (Blk (x1.alloc (.cells #[.slice none 0 0] 24)) x1.heap.size #[.slice none 0 0]) := Blk.new rfl
        obtain ⟨y2, hy⟩ : ∃ x, x1.alloc (.cells #[.slice none 0 0] 24) = x := ⟨_, rfl⟩
        rw [hy] at HAy HZy ⊢
        clear hy
        have HSy2 : Hid (Below w3.heap.size w3 y2) := HSx1.out.trans (HAy.out.mono HSx1.out.size)
        obtain ⟨bo, hbo⟩ : ∃ x, x1.heap.size = x := ⟨_, rfl⟩
        have HBO := Lib.hid hbo
        rw [hbo] at HZy ⊢
        clear hbo
        have HGE : Hid (w3.heap.size ≤ bo) := by have h1 := HSx1.out.size; have h2 := HBO.out; show _ ≤ _; omega
        refine hK.out _ _ (HSy2.out) (fun _ => ?_)
        clear hK K
        (try simp only [Act.put, List.setIfInBounds_toArray, List.set_cons_zero, List.set_cons_succ])
        refine wpAnyH_ready (rs := [2]) (by kernel_rfl) (by simp) ?_
        refine AllReadyH.cons (o := ⟨some 12, _, _, _, _, _⟩) rfl (fun K hK => ?_) AllReadyH.nil
        go_simp
        refine (HK1.out y2).mono ?_
        rintro e x2 ⟨rfl, hbx2⟩
        have HZy := Lib.hid (HZy.out.call (Lib.hid hbx2).out)
        have HSx2 : Hid (Below w3.heap.size w3 x2) := HSy2.out.trans (hbx2.mono HSy2.out.size)
        clear hbx2
        refine hK.out _ _ (HSx2.out) (fun _ => ?_)
        clear hK K
        (try simp only [Act.put, List.setIfInBounds_toArray, List.set_cons_zero, List.set_cons_succ])
        refine held_build (oi := ⟨some 13, _, _, _, _, _⟩) 3 rfl (by kernel_rfl) (by kernel_rfl) (by kernel_rfl) (fun _ _ _ _ h => h) rfl 42 _ rfl #[(2, .agg R2.toArray), (3, .agg R1.toArray), (1, .int .u64 1)] (by simp [Act.eval]) (.agg XB) (HXB.out) HSx2.out ?_
        (try simp only [Act.put, List.setIfInBounds_toArray, List.set_cons_zero, List.set_cons_succ])
        refine wpAnyH_ready (rs := [4]) (by kernel_rfl) (by simp) ?_
        refine AllReadyH.cons (o := ⟨some 14, _, _, _, _, _⟩) rfl (fun K hK => ?_) AllReadyH.nil
        go_simp
        have hncur : NodesV x2 (.slice a1 1 c1) aw1 := HNw3.out.call HSx2.out
        refine (HI1.out _ x2 hncur).mono ?_
        rintro e x3 ⟨xa, xc, rfl, hnI, hcI, hwI, hbx3⟩
        clear hncur
        have HNI := Lib.hid hnI
        have HCI := Lib.hid hcI
        have HWI := Lib.hid (hwI.mono HSx2.out.size)
        have HOF := Lib.hid (hwI.off HZy.out.lt)
        clear hnI hcI hwI
        have HZy := Lib.hid (HZy.out.call (Lib.hid hbx3).out)
        have HSx3 : Hid (Below w3.heap.size w3 x3) := HSx2.out.trans (hbx3.mono HSx2.out.size)
        clear hbx3
        refine hK.out _ _ (HSx3.out) (fun _ => ?_)
        clear hK K
        (try simp only [Act.put, List.setIfInBounds_toArray, List.set_cons_zero, List.set_cons_succ])
        refine wpAnyH_take (i := 5) (oi := ⟨some 9, _, _, _, _, _⟩) (v := .tuple #[.agg #[.slice xa 2 xc], .int .i64 0]) rfl (by kernel_rfl) (by kernel_rfl) (by kernel_rfl) (fun _ _ _ h => h) (Or.inl ⟨by rfl, fun wz hz => ?_⟩) HSx3.out ?_
        · clear hz; go_simp; first | done | with_reducible rfl | rfl
        (try simp only [Act.put, List.setIfInBounds_toArray, List.set_cons_zero, List.set_cons_succ])
        refine wpAnyH_take (i := 6) (oi := ⟨some 15, _, _, _, _, _⟩) (v := .agg #[.slice xa 2 xc]) rfl (by kernel_rfl) (by kernel_rfl) (by kernel_rfl) (fun _ _ _ h => h) (Or.inl ⟨by rfl, fun wz hz => ?_⟩) HSx3.out ?_
        · clear hz; go_simp; first | done | with_reducible rfl | rfl
        (try simp only [Act.put, List.setIfInBounds_toArray, List.set_cons_zero, List.set_cons_succ])
        refine wpAnyH_take (i := 7) (oi := ⟨some 16, _, _, _, _, _⟩) (v := .int .i64 0) rfl (by kernel_rfl) (by kernel_rfl) (by kernel_rfl) (fun _ _ _ h => h) (Or.inl ⟨by rfl, fun wz hz => ?_⟩) HSx3.out ?_
        · clear hz; go_simp; first | done | with_reducible rfl | rfl
        (try simp only [Act.put, List.setIfInBounds_toArray, List.set_cons_zero, List.set_cons_succ])
        refine wpAnyH_ready (rs := [9]) (by kernel_rfl) (by simp) ?_
        refine AllReadyH.cons (o := ⟨none, _, _, _, _, _⟩) rfl (fun K hK => ?_) AllReadyH.nil
        refine wp_store_blk 24 (.tmp 2) _ rfl bo #[.slice xa 2 xc] rfl rfl #[.slice none 0 0] HZy.out rfl hi1 (by simp [Value.oneCell']) ?_
        intro w9 U9 B9
        have HU9 := Lib.hid U9
        have HK9 := Lib.hid B9
        have HS9 : Hid (Below w3.heap.size w3 w9) := U9.below HSx3.out HGE.out
        clear U9 B9
        refine hK.out _ _ (HS9.out) (fun _ => ?_)
        clear hK K
        (try simp only [Act.put, List.setIfInBounds_toArray, List.set_cons_zero, List.set_cons_succ])
        refine wpAnyH_ready (rs := [10]) (by kernel_rfl) (by simp) ?_
        refine AllReadyH.cons (o := ⟨some 3, _, _, _, _, _⟩) rfl (fun K hK => ?_) AllReadyH.nil
        go_simp
        refine hK.out _ _ (HS9.out) (fun _ => ?_)
        clear hK K
        (try simp only [Act.put, List.setIfInBounds_toArray, List.set_cons_zero, List.set_cons_succ])
        refine wpAnyH_done (by kernel_rfl) ?_ _
        go_wp2_with fail
        go_meet
        case rel => exact TreC.mk HU9.out HK9.out HNI.out HCI.out HOF.out HWI.out HGE.out HS9.out
    · skip
      go_simp
      have HAy : Hid (Below x0.heap.size x0 (x0.alloc (.cells #[.slice none 0 0] 24))) := (Below.refl _ _).alloc (Nat.le_refl _) _
      have HZy : Hid (Blk (x0.alloc (.cells #[.slice none 0 0] 24)) x0.heap.size #[.slice none 0 0]) := Blk.new rfl
      obtain ⟨y1, hy⟩ : ∃ x, x0.alloc (.cells #[.slice none 0 0] 24) = x := ⟨_, rfl⟩
      rw [hy] at HAy HZy ⊢
      clear hy
      have HSy1 : Hid (Below w3.heap.size w3 y1) := HSx0.out.trans (HAy.out.mono HSx0.out.size)
      obtain ⟨bo, hbo⟩ : ∃ x, x0.heap.size = x := ⟨_, rfl⟩
      have HBO := Lib.hid hbo
      rw [hbo] at HZy ⊢
      clear hbo
      have HGE : Hid (w3.heap.size ≤ bo) := by have h1 := HSx0.out.size; have h2 := HBO.out; show _ ≤ _; omega
      refine hK.out _ _ (HSy1.out) (fun _ => ?_)
      clear hK K
      (try simp only [Act.put, List.setIfInBounds_toArray, List.set_cons_zero, List.set_cons_succ])
      refine wpAnyH_ready (rs := [1]) (by kernel_rfl) (by simp) ?_
      refine AllReadyH.cons (o := ⟨some 11, _, _, _, _, _⟩) rfl (fun K hK => ?_) AllReadyH.nil
      go_simp
      refine (HK2.out y1).mono ?_
      rintro e x1 ⟨rfl, hbx1⟩
      have HZy := Lib.hid (HZy.out.call (Lib.hid hbx1).out)
      have HSx1 : Hid (Below w3.heap.size w3 x1) := HSy1.out.trans (hbx1.mono HSy1.out.size)
      clear hbx1
      refine hK.out _ _ (HSx1.out) (fun _ => ?_)
      clear hK K
      (try simp only [Act.put, List.setIfInBounds_toArray, List.set_cons_zero, List.set_cons_succ])
      refine wpAnyH_ready (rs := [2]) (by kernel_rfl) (by simp) ?_
      refine AllReadyH.cons (o := ⟨some 12, _, _, _, _, _⟩) rfl (fun K hK => ?_) AllReadyH.nil
      go_simp
      refine (HK1.out x1).mono ?_
      rintro e x2 ⟨rfl, hbx2⟩
      have HZy := Lib.hid (HZy.out.call (Lib.hid hbx2).out)
      have HSx2 : Hid (Below w3.heap.size w3 x2) := HSx1.out.trans (hbx2.mono HSx1.out.size)
      clear hbx2
      refine hK.out _ _ (HSx2.out) (fun _ => ?_)
      clear hK K
      (try simp only [Act.put, List.setIfInBounds_toArray, List.set_cons_zero, List.set_cons_succ])
      refine held_build (oi := ⟨some 13, _, _, _, _, _⟩) 3 rfl (by kernel_rfl) (by kernel_rfl) (by kernel_rfl) (fun _ _ _ _ h => h) rfl 42 _ rfl #[(2, .agg R2.toArray), (3, .agg R1.toArray), (1, .int .u64 1)] (by simp [Act.eval]) (.agg XB) (HXB.out) HSx2.out ?_
      (try simp only [Act.put, List.setIfInBounds_toArray, List.set_cons_zero, List.set_cons_succ])
      refine wpAnyH_ready (rs := [4]) (by kernel_rfl) (by simp) ?_
      refine AllReadyH.cons (o := ⟨some 14, _, _, _, _, _⟩) rfl (fun K hK => ?_) AllReadyH.nil
      go_simp
      have hncur : NodesV x2 (.slice a1 1 c1) aw1 := HNw3.out.call HSx2.out
      refine (HI1.out _ x2 hncur).mono ?_
      rintro e x3 ⟨xa, xc, rfl, hnI, hcI, hwI, hbx3⟩
      clear hncur
      have HNI := Lib.hid hnI
      have HCI := Lib.hid hcI
      have HWI := Lib.hid (hwI.mono HSx2.out.size)
      have HOF := Lib.hid (hwI.off HZy.out.lt)
      clear hnI hcI hwI
      have HZy := Lib.hid (HZy.out.call (Lib.hid hbx3).out)
      have HSx3 : Hid (Below w3.heap.size w3 x3) := HSx2.out.trans (hbx3.mono HSx2.out.size)
      clear hbx3
      refine hK.out _ _ (HSx3.out) (fun _ => ?_)
      clear hK K
      (try simp only [Act.put, List.setIfInBounds_toArray, List.set_cons_zero, List.set_cons_succ])
      refine wpAnyH_take (i := 5) (oi := ⟨some 9, _, _, _, _, _⟩) (v := .tuple #[.agg #[.slice xa 2 xc], .int .i64 0]) rfl (by kernel_rfl) (by kernel_rfl) (by kernel_rfl) (fun _ _ _ h => h) (Or.inl ⟨by rfl, fun wz hz => ?_⟩) HSx3.out ?_
      · clear hz; go_simp; first | done | with_reducible rfl | rfl
      (try simp only [Act.put, List.setIfInBounds_toArray, List.set_cons_zero, List.set_cons_succ])
      refine wpAnyH_take (i := 6) (oi := ⟨some 15, _, _, _, _, _⟩) (v := .agg #[.slice xa 2 xc]) rfl (by kernel_rfl) (by kernel_rfl) (by kernel_rfl) (fun _ _ _ h => h) (Or.inl ⟨by rfl, fun wz hz => ?_⟩) HSx3.out ?_
      · clear hz; go_simp; first | done | with_reducible rfl | rfl
      (try simp only [Act.put, List.setIfInBounds_toArray, List.set_cons_zero, List.set_cons_succ])
      refine wpAnyH_take (i := 7) (oi := ⟨some 16, _, _, _, _, _⟩) (v := .int .i64 0) rfl (by kernel_rfl) (by kernel_rfl) (by kernel_rfl) (fun _ _ _ h => h) (Or.inl ⟨by rfl, fun wz hz => ?_⟩) HSx3.out ?_
      · clear hz; go_simp; first | done | with_reducible rfl | rfl
      (try simp only [Act.put, List.setIfInBounds_toArray, List.set_cons_zero, List.set_cons_succ])
      refine wpAnyH_ready (rs := [9]) (by kernel_rfl) (by simp) ?_
      refine AllReadyH.cons (o := ⟨none, _, _, _, _, _⟩) rfl (fun K hK => ?_) AllReadyH.nil
      refine wp_store_blk 24 (.tmp 2) _ rfl bo #[.slice xa 2 xc] rfl rfl #[.slice none 0 0] HZy.out rfl hi1 (by simp [Value.oneCell']) ?_
      intro w9 U9 B9
      have HU9 := Lib.hid U9
      have HK9 := Lib.hid B9
      have HS9 : Hid (Below w3.heap.size w3 w9) := U9.below HSx3.out HGE.out
      clear U9 B9
      refine hK.out _ _ (HS9.out) (fun _ => ?_)
      clear hK K
      (try simp only [Act.put, List.setIfInBounds_toArray, List.set_cons_zero, List.set_cons_succ])
      refine wpAnyH_ready (rs := [10]) (by kernel_rfl) (by simp) ?_
      refine AllReadyH.cons (o := ⟨some 3, _, _, _, _, _⟩) rfl (fun K hK => ?_) AllReadyH.nil
      go_simp
      refine hK.out _ _ (HS9.out) (fun _ => ?_)
      clear hK K
      (try simp only [Act.put, List.setIfInBounds_toArray, List.set_cons_zero, List.set_cons_succ])
      refine wpAnyH_done (by kernel_rfl) ?_ _
      go_wp2_with fail
      go_meet
      case rel => exact TreC.mk HU9.out HK9.out HNI.out HCI.out HOF.out HWI.out HGE.out HS9.out
  case rest =>
    obtain ⟨b2, a2, c2, rfl, rfl, hk4, hn4, _, _, _, _, hb4⟩ := hcut
    have HTw4 : Hid (Blk wc b2 #[.slice a2 2 c2]) := hk4
    have HNw4 : Hid (NodesV wc (.slice a2 2 c2) aw2) := hn4
    have HB4 := Lib.hid (HB3.out.trans (hb4.mono HB3.out.size))
    obtain ⟨w4, hw4⟩ : ∃ x, wc = x := ⟨_, rfl⟩
    rw [hw4] at HTw4 HNw4 HB4 ⊢
    clear hk4 hn4 hb4 hw4
    go_upto_region 3 with fail
    go_cut [4, 5] from 17 to 25 (fun p q wx => TreC aw3 0 w4 p q wx)
    case first =>
      have HSx0 : Hid (Below w4.heap.size w4 w4.drew) := Below.drewN (n := 1) (Below.refl _ _)
      refine wp_region_held_drew (S := fun u => Below w4.heap.size w4 u) (by kernel_rfl) (HSx0.out) (fun _ => ?_)
      (try simp only [Act.put, List.setIfInBounds_toArray, List.set_cons_zero, List.set_cons_succ])
      obtain ⟨x0, hx0⟩ : ∃ x, w4.drew = x := ⟨_, rfl⟩
      rw [hx0] at HSx0 ⊢
      clear hx0
      refine held_load (oi := ⟨some 18, _, _, _, _, _⟩) 0 rfl (by kernel_rfl) (by kernel_rfl) (by kernel_rfl) (fun _ _ _ _ h => h) rfl 24 (.tmp 2) rfl b2 (0) rfl [.slice a2 2 c2] _ (fun u' hu => (HTw4.out.call hu).rng) Try.underlying24 rfl (hi1) HSx0.out ?_
      (try simp only [Act.put, List.setIfInBounds_toArray, List.set_cons_zero, List.set_cons_succ])
      refine wpAnyH_ready (rs := [1, 8]) (by kernel_rfl) (by simp) ?_
      refine AllReadyH.cons (o := ⟨some 19, _, _, _, _, _⟩) rfl (fun K hK => ?_) (AllReadyH.cons (o := ⟨some 4, _, _, _, _, _⟩) rfl (fun K hK => ?_) AllReadyH.nil)
      · skip
        go_simp
        refine (HK3.out x0).mono ?_
        rintro e x1 ⟨rfl, hbx1⟩
        have HSx1 : Hid (Below w4.heap.size w4 x1) := HSx0.out.trans (hbx1.mono HSx0.out.size)
        clear hbx1
        refine hK.out _ _ (HSx1.out) (fun _ => ?_)
        clear hK K
        (try simp only [Act.put, List.setIfInBounds_toArray, List.set_cons_zero, List.set_cons_succ])
        refine wpAnyH_ready (rs := [2, 8]) (by kernel_rfl) (by simp) ?_
        refine AllReadyH.cons (o := ⟨some 20, _, _, _, _, _⟩) rfl (fun K hK => ?_) (AllReadyH.cons (o := ⟨some 4, _, _, _, _, _⟩) rfl (fun K hK => ?_) AllReadyH.nil)
        · skip
          go_simp
          refine (HK1.out x1).mono ?_
          rintro e x2 ⟨rfl, hbx2⟩
          have HSx2 : Hid (Below w4.heap.size w4 x2) := HSx1.out.trans (hbx2.mono HSx1.out.size)
          clear hbx2
          refine hK.out _ _ (HSx2.out) (fun _ => ?_)
          clear hK K
          (try simp only [Act.put, List.setIfInBounds_toArray, List.set_cons_zero, List.set_cons_succ])
          refine held_build (oi := ⟨some 21, _, _, _, _, _⟩) 3 rfl (by kernel_rfl) (by kernel_rfl) (by kernel_rfl) (fun _ _ _ _ h => h) rfl 42 _ rfl #[(2, .agg R3.toArray), (3, .agg R1.toArray), (1, .int .u64 2)] (by simp [Act.eval]) (.agg XC) (HXC.out) HSx2.out ?_
          (try simp only [Act.put, List.setIfInBounds_toArray, List.set_cons_zero, List.set_cons_succ])
          refine wpAnyH_ready (rs := [4, 8]) (by kernel_rfl) (by simp) ?_
          refine AllReadyH.cons (o := ⟨some 22, _, _, _, _, _⟩) rfl (fun K hK => ?_) (AllReadyH.cons (o := ⟨some 4, _, _, _, _, _⟩) rfl (fun K hK => ?_) AllReadyH.nil)
          · skip
            go_simp
            have hncur : NodesV x2 (.slice a2 2 c2) aw2 := HNw4.out.call HSx2.out
            refine (HI2.out _ x2 hncur).mono ?_
            rintro e x3 ⟨xa, xc, rfl, hnI, hcI, hwI, hbx3⟩
            clear hncur
            have HNI := Lib.hid hnI
            have HCI := Lib.hid hcI
            have HWI := Lib.hid (hwI.mono HSx2.out.size)
            clear hnI hcI hwI
            have HSx3 : Hid (Below w4.heap.size w4 x3) := HSx2.out.trans (hbx3.mono HSx2.out.size)
            clear hbx3
            refine hK.out _ _ (HSx3.out) (fun _ => ?_)
            clear hK K
            (try simp only [Act.put, List.setIfInBounds_toArray, List.set_cons_zero, List.set_cons_succ])
            refine wpAnyH_take (i := 5) (oi := ⟨some 17, _, _, _, _, _⟩) (v := .tuple #[.agg #[.slice xa 3 xc], .int .i64 0]) rfl (by kernel_rfl) (by kernel_rfl) (by kernel_rfl) (fun _ _ _ h => h) (Or.inl ⟨by rfl, fun wz hz => ?_⟩) HSx3.out ?_
            · clear hz; go_simp; first | done | with_reducible rfl | rfl
            (try simp only [Act.put, List.setIfInBounds_toArray, List.set_cons_zero, List.set_cons_succ])
            refine wpAnyH_take (i := 6) (oi := ⟨some 23, _, _, _, _, _⟩) (v := .agg #[.slice xa 3 xc]) rfl (by kernel_rfl) (by kernel_rfl) (by kernel_rfl) (fun _ _ _ h => h) (Or.inl ⟨by rfl, fun wz hz => ?_⟩) HSx3.out ?_
            · clear hz; go_simp; first | done | with_reducible rfl | rfl
            (try simp only [Act.put, List.setIfInBounds_toArray, List.set_cons_zero, List.set_cons_succ])
            refine wpAnyH_take (i := 7) (oi := ⟨some 24, _, _, _, _, _⟩) (v := .int .i64 0) rfl (by kernel_rfl) (by kernel_rfl) (by kernel_rfl) (fun _ _ _ h => h) (Or.inl ⟨by rfl, fun wz hz => ?_⟩) HSx3.out ?_
            · clear hz; go_simp; first | done | with_reducible rfl | rfl
            (try simp only [Act.put, List.setIfInBounds_toArray, List.set_cons_zero, List.set_cons_succ])
            refine wpAnyH_ready (rs := [8]) (by kernel_rfl) (by simp) ?_
            refine AllReadyH.cons (o := ⟨some 4, _, _, _, _, _⟩) rfl (fun K hK => ?_) AllReadyH.nil
            go_simp
            have HAy : Hid (Below x3.heap.size x3 (x3.alloc (.cells #[.slice none 0 0] 24))) := (Below.refl _ _).alloc (Nat.le_refl _) _
            have HZy : Hid (Blk (x3.alloc (.cells #[.slice none 0 0] 24)) x3.heap.size #[.slice none 0 0]) := Blk.new rfl
            obtain ⟨y4, hy⟩ : ∃ x, x3.alloc (.cells #[.slice none 0 0] 24) = x := ⟨_, rfl⟩
            rw [hy] at HAy HZy ⊢
            clear hy
            have HSy4 : Hid (Below w4.heap.size w4 y4) := HSx3.out.trans (HAy.out.mono HSx3.out.size)
            obtain ⟨bo, hbo⟩ : ∃ x, x3.heap.size = x := ⟨_, rfl⟩
            have HBO := Lib.hid hbo
            rw [hbo] at HZy ⊢
            clear hbo
            have HGE : Hid (w4.heap.size ≤ bo) := by have h1 := HSx3.out.size; have h2 := HBO.out; show _ ≤ _; omega
            refine hK.out _ _ (HSy4.out) (fun _ => ?_)
            clear hK K
            (try simp only [Act.put, List.setIfInBounds_toArray, List.set_cons_zero, List.set_cons_succ])
            have HOF := Lib.hid (NodesV.off HNI.out (Nat.le_of_eq HBO.out))
            refine wpAnyH_ready (rs := [9]) (by kernel_rfl) (by simp) ?_
            refine AllReadyH.cons (o := ⟨none, _, _, _, _, _⟩) rfl (fun K hK => ?_) AllReadyH.nil
            refine wp_store_blk 24 (.tmp 4) _ rfl bo #[.slice xa 3 xc] rfl rfl #[.slice none 0 0] HZy.out rfl hi1 (by simp [Value.oneCell']) ?_
            intro w9 U9 B9
            have HU9 := Lib.hid U9
            have HK9 := Lib.hid B9
            have HS9 : Hid (Below w4.heap.size w4 w9) := U9.below HSy4.out HGE.out
            clear U9 B9
            refine hK.out _ _ (HS9.out) (fun _ => ?_)
            clear hK K
            (try simp only [Act.put, List.setIfInBounds_toArray, List.set_cons_zero, List.set_cons_succ])
            refine wpAnyH_ready (rs := [10]) (by kernel_rfl) (by simp) ?_
            refine AllReadyH.cons (o := ⟨some 5, _, _, _, _, _⟩) rfl (fun K hK => ?_) AllReadyH.nil
            go_simp
            refine hK.out _ _ (HS9.out) (fun _ => ?_)
            clear hK K
            (try simp only [Act.put, List.setIfInBounds_toArray, List.set_cons_zero, List.set_cons_succ])
            refine wpAnyH_done (by kernel_rfl) ?_ _
            go_wp2_with fail
            go_meet
            case rel => exact TreC.mk HU9.out HK9.out (HNI.out.call HAy.out) HCI.out HOF.out HWI.out HGE.out HS9.out
          · skip
            go_simp
            have HAy : Hid (Below x2.heap.size x2 (x2.alloc (.cells #[.slice none 0 0] 24))) := (Below.refl _ _).alloc (Nat.le_refl _) _
            have HZy : Hid (Blk (x2.alloc (.cells #[.slice none 0 0] 24)) x2.heap.size #[.slice none 0 0]) := Blk.new rfl
            obtain ⟨y3, hy⟩ : ∃ x, x2.alloc (.cells #[.slice none 0 0] 24) = x := ⟨_, rfl⟩
            rw [hy] at HAy HZy ⊢
            clear hy
            have HSy3 : Hid (Below w4.heap.size w4 y3) := HSx2.out.trans (HAy.out.mono HSx2.out.size)
            obtain ⟨bo, hbo⟩ : ∃ x, x2.heap.size = x := ⟨_, rfl⟩
            have HBO := Lib.hid hbo
            rw [hbo] at HZy ⊢
            clear hbo
            have HGE : Hid (w4.heap.size ≤ bo) := by have h1 := HSx2.out.size; have h2 := HBO.out; show _ ≤ _; omega
            refine hK.out _ _ (HSy3.out) (fun _ => ?_)
            clear hK K
            (try simp only [Act.put, List.setIfInBounds_toArray, List.set_cons_zero, List.set_cons_succ])
            refine wpAnyH_ready (rs := [4]) (by kernel_rfl) (by simp) ?_
            refine AllReadyH.cons (o := ⟨some 22, _, _, _, _, _⟩) rfl (fun K hK => ?_) AllReadyH.nil
            go_simp
            have hncur : NodesV y3 (.slice a2 2 c2) aw2 := HNw4.out.call HSy3.out
            refine (HI2.out _ y3 hncur).mono ?_
            rintro e x3 ⟨xa, xc, rfl, hnI, hcI, hwI, hbx3⟩
            clear hncur
            have HNI := Lib.hid hnI
            have HCI := Lib.hid hcI
            have HWI := Lib.hid (hwI.mono HSy3.out.size)
            have HOF := Lib.hid (hwI.off HZy.out.lt)
            clear hnI hcI hwI
            have HZy := Lib.hid (HZy.out.call (Lib.hid hbx3).out)
            have HSx3 : Hid (Below w4.heap.size w4 x3) := HSy3.out.trans (hbx3.mono HSy3.out.size)
            clear hbx3
            refine hK.out _ _ (HSx3.out) (fun _ => ?_)
            clear hK K
            (try simp only [Act.put, List.setIfInBounds_toArray, List.set_cons_zero, List.set_cons_succ])
            refine wpAnyH_take (i := 5) (oi := ⟨some 17, _, _, _, _, _⟩) (v := .tuple #[.agg #[.slice xa 3 xc], .int .i64 0]) rfl (by kernel_rfl) (by kernel_rfl) (by kernel_rfl) (fun _ _ _ h => h) (Or.inl ⟨by rfl, fun wz hz => ?_⟩) HSx3.out ?_
            · clear hz; go_simp; first | done | with_reducible rfl | rfl
            (try simp only [Act.put, List.setIfInBounds_toArray, List.set_cons_zero, List.set_cons_succ])
            refine wpAnyH_take (i := 6) (oi := ⟨some 23, _, _, _, _, _⟩) (v := .agg #[.slice xa 3 xc]) rfl (by kernel_rfl) (by kernel_rfl) (by kernel_rfl) (fun _ _ _ h => h) (Or.inl ⟨by rfl, fun wz hz => ?_⟩) HSx3.out ?_
            · clear hz; go_simp; first | done | with_reducible rfl | rfl
            (try simp only [Act.put, List.setIfInBounds_toArray, List.set_cons_zero, List.set_cons_succ])
            refine wpAnyH_take (i := 7) (oi := ⟨some 24, _, _, _, _, _⟩) (v := .int .i64 0) rfl (by kernel_rfl) (by kernel_rfl) (by kernel_rfl) (fun _ _ _ h => h) (Or.inl ⟨by rfl, fun wz hz => ?_⟩) HSx3.out ?_
            · clear hz; go_simp; first | done | with_reducible rfl | rfl
            (try simp only [Act.put, List.setIfInBounds_toArray, List.set_cons_zero, List.set_cons_succ])
            refine wpAnyH_ready (rs := [9]) (by kernel_rfl) (by simp) ?_
            refine AllReadyH.cons (o := ⟨none, _, _, _, _, _⟩) rfl (fun K hK => ?_) AllReadyH.nil
            refine wp_store_blk 24 (.tmp 4) _ rfl bo #[.slice xa 3 xc] rfl rfl #[.slice none 0 0] HZy.out rfl hi1 (by simp [Value.oneCell']) ?_
            intro w9 U9 B9
            have HU9 := Lib.hid U9
            have HK9 := Lib.hid B9
            have HS9 : Hid (Below w4.heap.size w4 w9) := U9.below HSx3.out HGE.out
            clear U9 B9
            refine hK.out _ _ (HS9.out) (fun _ => ?_)
            clear hK K
            (try simp only [Act.put, List.setIfInBounds_toArray, List.set_cons_zero, List.set_cons_succ])
            refine wpAnyH_ready (rs := [10]) (by kernel_rfl) (by simp) ?_
            refine AllReadyH.cons (o := ⟨some 5, _, _, _, _, _⟩) rfl (fun K hK => ?_) AllReadyH.nil
            go_simp
            refine hK.out _ _ (HS9.out) (fun _ => ?_)
            clear hK K
            (try simp only [Act.put, List.setIfInBounds_toArray, List.set_cons_zero, List.set_cons_succ])
            refine wpAnyH_done (by kernel_rfl) ?_ _
            go_wp2_with fail
            go_meet
            case rel => exact TreC.mk HU9.out HK9.out HNI.out HCI.out HOF.out HWI.out HGE.out HS9.out
        · skip
          go_simp
          have HAy : Hid (Below x1.heap.size x1 (x1.alloc (.cells #[.slice none 0 0] 24))) := (Below.refl _ _).alloc (Nat.le_refl _) _
          have HZy : Hid (Blk (x1.alloc (.cells #[.slice none 0 0] 24)) x1.heap.size #[.slice none 0 0]) := Blk.new rfl
          obtain ⟨y2, hy⟩ : ∃ x, x1.alloc (.cells #[.slice none 0 0] 24) = x := ⟨_, rfl⟩
          rw [hy] at HAy HZy ⊢
          clear hy
          have HSy2 : Hid (Below w4.heap.size w4 y2) := HSx1.out.trans (HAy.out.mono HSx1.out.size)
          obtain ⟨bo, hbo⟩ : ∃ x, x1.heap.size = x := ⟨_, rfl⟩
          have HBO := Lib.hid hbo
          rw [hbo] at HZy ⊢
          clear hbo
          have HGE : Hid (w4.heap.size ≤ bo) := by have h1 := HSx1.out.size; have h2 := HBO.out; show _ ≤ _; omega
          refine hK.out _ _ (HSy2.out) (fun _ => ?_)
          clear hK K
          (try simp only [Act.put, List.setIfInBounds_toArray, List.set_cons_zero, List.set_cons_succ])
          refine wpAnyH_ready (rs := [2]) (by kernel_rfl) (by simp) ?_
          refine AllReadyH.cons (o := ⟨some 20, _, _, _, _, _⟩) rfl (fun K hK => ?_) AllReadyH.nil
          go_simp
          refine (HK1.out y2).mono ?_
          rintro e x2 ⟨rfl, hbx2⟩
          have HZy := Lib.hid (HZy.out.call (Lib.hid hbx2).out)
          have HSx2 : Hid (Below w4.heap.size w4 x2) := HSy2.out.trans (hbx2.mono HSy2.out.size)
          clear hbx2
          refine hK.out _ _ (HSx2.out) (fun _ => ?_)
          clear hK K
          (try simp only [Act.put, List.setIfInBounds_toArray, List.set_cons_zero, List.set_cons_succ])
          refine held_build (oi := ⟨some 21, _, _, _, _, _⟩) 3 rfl (by kernel_rfl) (by kernel_rfl) (by kernel_rfl) (fun _ _ _ _ h => h) rfl 42 _ rfl #[(2, .agg R3.toArray), (3, .agg R1.toArray), (1, .int .u64 2)] (by simp [Act.eval]) (.agg XC) (HXC.out) HSx2.out ?_
          (try simp only [Act.put, List.setIfInBounds_toArray, List.set_cons_zero, List.set_cons_succ])
          refine wpAnyH_ready (rs := [4]) (by kernel_rfl) (by simp) ?_
          refine AllReadyH.cons (o := ⟨some 22, _, _, _, _, _⟩) rfl (fun K hK => ?_) AllReadyH.nil
          go_simp
          have hncur : NodesV x2 (.slice a2 2 c2) aw2 := HNw4.out.call HSx2.out
          refine (HI2.out _ x2 hncur).mono ?_
          rintro e x3 ⟨xa, xc, rfl, hnI, hcI, hwI, hbx3⟩
          clear hncur
          have HNI := Lib.hid hnI
          have HCI := Lib.hid hcI
          have HWI := Lib.hid (hwI.mono HSx2.out.size)
          have HOF := Lib.hid (hwI.off HZy.out.lt)
          clear hnI hcI hwI
          have HZy := Lib.hid (HZy.out.call (Lib.hid hbx3).out)
          have HSx3 : Hid (Below w4.heap.size w4 x3) := HSx2.out.trans (hbx3.mono HSx2.out.size)
          clear hbx3
          refine hK.out _ _ (HSx3.out) (fun _ => ?_)
          clear hK K
          (try simp only [Act.put, List.setIfInBounds_toArray, List.set_cons_zero, List.set_cons_succ])
          refine wpAnyH_take (i := 5) (oi := ⟨some 17, _, _, _, _, _⟩) (v := .tuple #[.agg #[.slice xa 3 xc], .int .i64 0]) rfl (by kernel_rfl) (by kernel_rfl) (by kernel_rfl) (fun _ _ _ h => h) (Or.inl ⟨by rfl, fun wz hz => ?_⟩) HSx3.out ?_
          · clear hz; go_simp; first | done | with_reducible rfl | rfl
          (try simp only [Act.put, List.setIfInBounds_toArray, List.set_cons_zero, List.set_cons_succ])
          refine wpAnyH_take (i := 6) (oi := ⟨some 23, _, _, _, _, _⟩) (v := .agg #[.slice xa 3 xc]) rfl (by kernel_rfl) (by kernel_rfl) (by kernel_rfl) (fun _ _ _ h => h) (Or.inl ⟨by rfl, fun wz hz => ?_⟩) HSx3.out ?_
          · clear hz; go_simp; first | done | with_reducible rfl | rfl
          (try simp only [Act.put, List.setIfInBounds_toArray, List.set_cons_zero, List.set_cons_succ])
          refine wpAnyH_take (i := 7) (oi := ⟨some 24, _, _, _, _, _⟩) (v := .int .i64 0) rfl (by kernel_rfl) (by kernel_rfl) (by kernel_rfl) (fun _ _ _ h => h) (Or.inl ⟨by rfl, fun wz hz => ?_⟩) HSx3.out ?_
          · clear hz; go_simp; first | done | with_reducible rfl | rfl
          (try simp only [Act.put, List.setIfInBounds_toArray, List.set_cons_zero, List.set_cons_succ])
          refine wpAnyH_ready (rs := [9]) (by kernel_rfl) (by simp) ?_
          refine AllReadyH.cons (o := ⟨none, _, _, _, _, _⟩) rfl (fun K hK => ?_) AllReadyH.nil
          refine wp_store_blk 24 (.tmp 4) _ rfl bo #[.slice xa 3 xc] rfl rfl #[.slice none 0 0] HZy.out rfl hi1 (by simp [Value.oneCell']) ?_
          intro w9 U9 B9
          have HU9 := Lib.hid U9
          have HK9 := Lib.hid B9
          have HS9 : Hid (Below w4.heap.size w4 w9) := U9.below HSx3.out HGE.out
          clear U9 B9
          refine hK.out _ _ (HS9.out) (fun _ => ?_)
          clear hK K
          (try simp only [Act.put, List.setIfInBounds_toArray, List.set_cons_zero, List.set_cons_succ])
          refine wpAnyH_ready (rs := [10]) (by kernel_rfl) (by simp) ?_
          refine AllReadyH.cons (o := ⟨some 5, _, _, _, _, _⟩) rfl (fun K hK => ?_) AllReadyH.nil
          go_simp
          refine hK.out _ _ (HS9.out) (fun _ => ?_)
          clear hK K
          (try simp only [Act.put, List.setIfInBounds_toArray, List.set_cons_zero, List.set_cons_succ])
          refine wpAnyH_done (by kernel_rfl) ?_ _
          go_wp2_with fail
          go_meet
          case rel => exact TreC.mk HU9.out HK9.out HNI.out HCI.out HOF.out HWI.out HGE.out HS9.out
      · skip
        go_simp
        have HAy : Hid (Below x0.heap.size x0 (x0.alloc (.cells #[.slice none 0 0] 24))) := (Below.refl _ _).alloc (Nat.le_refl _) _
        have HZy : Hid (Blk (x0.alloc (.cells #[.slice none 0 0] 24)) x0.heap.size #[.slice none 0 0]) := Blk.new rfl
        obtain ⟨y1, hy⟩ : ∃ x, x0.alloc (.cells #[.slice none 0 0] 24) = x := ⟨_, rfl⟩
        rw [hy] at HAy HZy ⊢
        clear hy
        have HSy1 : Hid (Below w4.heap.size w4 y1) := HSx0.out.trans (HAy.out.mono HSx0.out.size)
        obtain ⟨bo, hbo⟩ : ∃ x, x0.heap.size = x := ⟨_, rfl⟩
        have HBO := Lib.hid hbo
        rw [hbo] at HZy ⊢
        clear hbo
        have HGE : Hid (w4.heap.size ≤ bo) := by have h1 := HSx0.out.size; have h2 := HBO.out; show _ ≤ _; omega
        refine hK.out _ _ (HSy1.out) (fun _ => ?_)
        clear hK K
        (try simp only [Act.put, List.setIfInBounds_toArray, List.set_cons_zero, List.set_cons_succ])
        refine wpAnyH_ready (rs := [1]) (by kernel_rfl) (by simp) ?_
        refine AllReadyH.cons (o := ⟨some 19, _, _, _, _, _⟩) rfl (fun K hK => ?_) AllReadyH.nil
        go_simp
        refine (HK3.out y1).mono ?_
        rintro e x1 ⟨rfl, hbx1⟩
        have HZy := Lib.hid (HZy.out.call (Lib.hid hbx1).out)
        have HSx1 : Hid (Below w4.heap.size w4 x1) := HSy1.out.trans (hbx1.mono HSy1.out.size)
        clear hbx1
        refine hK.out _ _ (HSx1.out) (fun _ => ?_)
        clear hK K
        (try simp only [Act.put, List.setIfInBounds_toArray, List.set_cons_zero, List.set_cons_succ])
        refine wpAnyH_ready (rs := [2]) (by kernel_rfl) (by simp) ?_
        refine AllReadyH.cons (o := ⟨some 20, _, _, _, _, _⟩) rfl (fun K hK => ?_) AllReadyH.nil
        go_simp
        refine (HK1.out x1).mono ?_
        rintro e x2 ⟨rfl, hbx2⟩
        have HZy := Lib.hid (HZy.out.call (Lib.hid hbx2).out)
        have HSx2 : Hid (Below w4.heap.size w4 x2) := HSx1.out.trans (hbx2.mono HSx1.out.size)
        clear hbx2
        refine hK.out _ _ (HSx2.out) (fun _ => ?_)
        clear hK K
        (try simp only [Act.put, List.setIfInBounds_toArray, List.set_cons_zero, List.set_cons_succ])
        refine held_build (oi := ⟨some 21, _, _, _, _, _⟩) 3 rfl (by kernel_rfl) (by kernel_rfl) (by kernel_rfl) (fun _ _ _ _ h => h) rfl 42 _ rfl #[(2, .agg R3.toArray), (3, .agg R1.toArray), (1, .int .u64 2)] (by simp [Act.eval]) (.agg XC) (HXC.out) HSx2.out ?_
        (try simp only [Act.put, List.setIfInBounds_toArray, List.set_cons_zero, List.set_cons_succ])
        refine wpAnyH_ready (rs := [4]) (by kernel_rfl) (by simp) ?_
        refine AllReadyH.cons (o := ⟨some 22, _, _, _, _, _⟩) rfl (fun K hK => ?_) AllReadyH.nil
        go_simp
        have hncur : NodesV x2 (.slice a2 2 c2) aw2 := HNw4.out.call HSx2.out
        refine (HI2.out _ x2 hncur).mono ?_
        rintro e x3 ⟨xa, xc, rfl, hnI, hcI, hwI, hbx3⟩
        clear hncur
        have HNI := Lib.hid hnI
        have HCI := Lib.hid hcI
        have HWI := Lib.hid (hwI.mono HSx2.out.size)
        have HOF := Lib.hid (hwI.off HZy.out.lt)
        clear hnI hcI hwI
        have HZy := Lib.hid (HZy.out.call (Lib.hid hbx3).out)
        have HSx3 : Hid (Below w4.heap.size w4 x3) := HSx2.out.trans (hbx3.mono HSx2.out.size)
        clear hbx3
        refine hK.out _ _ (HSx3.out) (fun _ => ?_)
        clear hK K
        (try simp only [Act.put, List.setIfInBounds_toArray, List.set_cons_zero, List.set_cons_succ])
        refine wpAnyH_take (i := 5) (oi := ⟨some 17, _, _, _, _, _⟩) (v := .tuple #[.agg #[.slice xa 3 xc], .int .i64 0]) rfl (by kernel_rfl) (by kernel_rfl) (by kernel_rfl) (fun _ _ _ h => h) (Or.inl ⟨by rfl, fun wz hz => ?_⟩) HSx3.out ?_
        · clear hz; go_simp; first | done | with_reducible rfl | rfl
        (try simp only [Act.put, List.setIfInBounds_toArray, List.set_cons_zero, List.set_cons_succ])
        refine wpAnyH_take (i := 6) (oi := ⟨some 23, _, _, _, _, _⟩) (v := .agg #[.slice xa 3 xc]) rfl (by kernel_rfl) (by kernel_rfl) (by kernel_rfl) (fun _ _ _ h => h) (Or.inl ⟨by rfl, fun wz hz => ?_⟩) HSx3.out ?_
        · clear hz; go_simp; first | done | with_reducible rfl | rfl
        (try simp only [Act.put, List.setIfInBounds_toArray, List.set_cons_zero, List.set_cons_succ])
        refine wpAnyH_take (i := 7) (oi := ⟨some 24, _, _, _, _, _⟩) (v := .int .i64 0) rfl (by kernel_rfl) (by kernel_rfl) (by kernel_rfl) (fun _ _ _ h => h) (Or.inl ⟨by rfl, fun wz hz => ?_⟩) HSx3.out ?_
        · clear hz; go_simp; first | done | with_reducible rfl | rfl
        (try simp only [Act.put, List.setIfInBounds_toArray, List.set_cons_zero, List.set_cons_succ])
        refine wpAnyH_ready (rs := [9]) (by kernel_rfl) (by simp) ?_
        refine AllReadyH.cons (o := ⟨none, _, _, _, _, _⟩) rfl (fun K hK => ?_) AllReadyH.nil
        refine wp_store_blk 24 (.tmp 4) _ rfl bo #[.slice xa 3 xc] rfl rfl #[.slice none 0 0] HZy.out rfl hi1 (by simp [Value.oneCell']) ?_
        intro w9 U9 B9
        have HU9 := Lib.hid U9
        have HK9 := Lib.hid B9
        have HS9 : Hid (Below w4.heap.size w4 w9) := U9.below HSx3.out HGE.out
        clear U9 B9
        refine hK.out _ _ (HS9.out) (fun _ => ?_)
        clear hK K
        (try simp only [Act.put, List.setIfInBounds_toArray, List.set_cons_zero, List.set_cons_succ])
        refine wpAnyH_ready (rs := [10]) (by kernel_rfl) (by simp) ?_
        refine AllReadyH.cons (o := ⟨some 5, _, _, _, _, _⟩) rfl (fun K hK => ?_) AllReadyH.nil
        go_simp
        refine hK.out _ _ (HS9.out) (fun _ => ?_)
        clear hK K
        (try simp only [Act.put, List.setIfInBounds_toArray, List.set_cons_zero, List.set_cons_succ])
        refine wpAnyH_done (by kernel_rfl) ?_ _
        go_wp2_with fail
        go_meet
        case rel => exact TreC.mk HU9.out HK9.out HNI.out HCI.out HOF.out HWI.out HGE.out HS9.out
    case rest =>
      obtain ⟨b3, a3, c3, rfl, rfl, hk5, hn5, _, _, _, _, hb5⟩ := hcut
      have HTw5 : Hid (Blk wc b3 #[.slice a3 3 c3]) := hk5
      have HNw5 : Hid (NodesV wc (.slice a3 3 c3) aw3) := hn5
      have HB5 := Lib.hid (HB4.out.trans (hb5.mono HB4.out.size))
      obtain ⟨w5, hw5⟩ : ∃ x, wc = x := ⟨_, rfl⟩
      rw [hw5] at HTw5 HNw5 HB5 ⊢
      clear hk5 hn5 hb5 hw5
      go_upto_region 4 with fail
      have HSx0 : Hid (Below w5.heap.size w5 w5.drew) := Below.drewN (n := 1) (Below.refl _ _)
      refine wp_region_held_drew (S := fun u => Below w5.heap.size w5 u) (by kernel_rfl) (HSx0.out) (fun _ => ?_)
      (try simp only [Act.put, List.setIfInBounds_toArray, List.set_cons_zero, List.set_cons_succ])
      obtain ⟨x0, hx0⟩ : ∃ x, w5.drew = x := ⟨_, rfl⟩
      rw [hx0] at HSx0 ⊢
      clear hx0
      refine wpAnyH_take (i := 0) (oi := ⟨some 25, _, _, _, _, _⟩) (v := .int .i64 0) rfl (by kernel_rfl) (by kernel_rfl) (by kernel_rfl) (fun _ _ _ h => h) (Or.inl ⟨by rfl, fun wz hz => ?_⟩) HSx0.out ?_
      · clear hz; go_simp; first | done | with_reducible rfl | rfl
      (try simp only [Act.put, List.setIfInBounds_toArray, List.set_cons_zero, List.set_cons_succ])
      refine wpAnyH_take (i := 1) (oi := ⟨some 26, _, _, _, _, _⟩) (v := .bool true) rfl (by kernel_rfl) (by kernel_rfl) (by kernel_rfl) (fun _ _ _ h => h) (Or.inl ⟨by rfl, fun wz hz => ?_⟩) HSx0.out ?_
      · clear hz; go_simp; first | done | with_reducible rfl | rfl
      (try simp only [Act.put, List.setIfInBounds_toArray, List.set_cons_zero, List.set_cons_succ])
      refine wpAnyH_take (i := 2) (oi := ⟨some 27, _, _, _, _, _⟩) (v := .bool true) rfl (by kernel_rfl) (by kernel_rfl) (by kernel_rfl) (fun _ _ _ h => h) (Or.inl ⟨by rfl, fun wz hz => ?_⟩) HSx0.out ?_
      · clear hz; go_simp; first | done | with_reducible rfl | rfl
      (try simp only [Act.put, List.setIfInBounds_toArray, List.set_cons_zero, List.set_cons_succ])
      refine wpAnyH_take (i := 3) (oi := ⟨some 28, _, _, _, _, _⟩) (v := .int .i64 0) rfl (by kernel_rfl) (by kernel_rfl) (by kernel_rfl) (fun _ _ _ h => h) (Or.inl ⟨by rfl, fun wz hz => ?_⟩) HSx0.out ?_
      · clear hz; go_simp; first | done | with_reducible rfl | rfl
      (try simp only [Act.put, List.setIfInBounds_toArray, List.set_cons_zero, List.set_cons_succ])
      refine wpAnyH_take (i := 4) (oi := ⟨some 29, _, _, _, _, _⟩) (v := .bool true) rfl (by kernel_rfl) (by kernel_rfl) (by kernel_rfl) (fun _ _ _ h => h) (Or.inl ⟨by rfl, fun wz hz => ?_⟩) HSx0.out ?_
      · clear hz; go_simp; first | done | with_reducible rfl | rfl
      (try simp only [Act.put, List.setIfInBounds_toArray, List.set_cons_zero, List.set_cons_succ])
      refine wpAnyH_take (i := 5) (oi := ⟨some 30, _, _, _, _, _⟩) (v := .bool true) rfl (by kernel_rfl) (by kernel_rfl) (by kernel_rfl) (fun _ _ _ h => h) (Or.inl ⟨by rfl, fun wz hz => ?_⟩) HSx0.out ?_
      · clear hz; go_simp; first | done | with_reducible rfl | rfl
      (try simp only [Act.put, List.setIfInBounds_toArray, List.set_cons_zero, List.set_cons_succ])
      refine wpAnyH_take (i := 6) (oi := ⟨some 31, _, _, _, _, _⟩) (v := .bool true) rfl (by kernel_rfl) (by kernel_rfl) (by kernel_rfl) (fun _ _ _ h => h) (Or.inl ⟨by rfl, fun wz hz => ?_⟩) HSx0.out ?_
      · clear hz; go_simp; first | done | with_reducible rfl | rfl
      (try simp only [Act.put, List.setIfInBounds_toArray, List.set_cons_zero, List.set_cons_succ])
      refine wpAnyH_take (i := 7) (oi := ⟨some 32, _, _, _, _, _⟩) (v := .pointer (some ⟨b3, 0, none⟩)) rfl (by kernel_rfl) (by kernel_rfl) (by kernel_rfl) (fun _ _ _ h => h) (Or.inl ⟨by rfl, fun wz hz => ?_⟩) HSx0.out ?_
      · clear hz; go_simp; first | done | with_reducible rfl | rfl
      (try simp only [Act.put, List.setIfInBounds_toArray, List.set_cons_zero, List.set_cons_succ])
      refine held_load1 (oi := ⟨some 33, _, _, _, _, _⟩) 8 rfl (by kernel_rfl) (by kernel_rfl) (by kernel_rfl) (fun _ _ _ _ h => h) rfl 22 (.tmp 32) rfl b3 (0) rfl (.slice a3 3 c3) _ (fun u' hu => (HTw5.out.call hu).cell 0) Try.underlying22 rfl HSx0.out ?_
      (try simp only [Act.put, List.setIfInBounds_toArray, List.set_cons_zero, List.set_cons_succ])
      refine wpAnyH_take (i := 9) (oi := ⟨some 34, _, _, _, _, _⟩) (v := .int .i64 3) rfl (by kernel_rfl) (by kernel_rfl) (by kernel_rfl) (fun _ _ _ h => h) (Or.inl ⟨by rfl, fun wz hz => ?_⟩) HSx0.out ?_
      · clear hz; go_simp; first | done | with_reducible rfl | rfl
      (try simp only [Act.put, List.setIfInBounds_toArray, List.set_cons_zero, List.set_cons_succ])
      refine wpAnyH_take (i := 10) (oi := ⟨some 35, _, _, _, _, _⟩) (v := .bool true) rfl (by kernel_rfl) (by kernel_rfl) (by kernel_rfl) (fun _ _ _ h => h) (Or.inl ⟨by rfl, fun wz hz => ?_⟩) HSx0.out ?_
      · clear hz; go_simp; first | done | with_reducible rfl | rfl
      (try simp only [Act.put, List.setIfInBounds_toArray, List.set_cons_zero, List.set_cons_succ])
      refine wpAnyH_take (i := 11) (oi := ⟨some 36, _, _, _, _, _⟩) (v := .bool true) rfl (by kernel_rfl) (by kernel_rfl) (by kernel_rfl) (fun _ _ _ h => h) (Or.inl ⟨by rfl, fun wz hz => ?_⟩) HSx0.out ?_
      · clear hz; go_simp; first | done | with_reducible rfl | rfl
      (try simp only [Act.put, List.setIfInBounds_toArray, List.set_cons_zero, List.set_cons_succ])
      refine wpAnyH_take (i := 12) (oi := ⟨some 37, _, _, _, _, _⟩) (v := .bool true) rfl (by kernel_rfl) (by kernel_rfl) (by kernel_rfl) (fun _ _ _ h => h) (Or.inl ⟨by rfl, fun wz hz => ?_⟩) HSx0.out ?_
      · clear hz; go_simp; first | done | with_reducible rfl | rfl
      (try simp only [Act.put, List.setIfInBounds_toArray, List.set_cons_zero, List.set_cons_succ])
      refine held_load (oi := ⟨some 38, _, _, _, _, _⟩) 13 rfl (by kernel_rfl) (by kernel_rfl) (by kernel_rfl) (fun _ _ _ _ h => h) rfl 24 (.tmp 4) rfl b3 (0) rfl [.slice a3 3 c3] _ (fun u' hu => (HTw5.out.call hu).rng) Try.underlying24 rfl (hi1) HSx0.out ?_
      (try simp only [Act.put, List.setIfInBounds_toArray, List.set_cons_zero, List.set_cons_succ])
      refine wpAnyH_ready (rs := [14]) (by kernel_rfl) (by simp) ?_
      refine AllReadyH.cons (o := ⟨some 39, _, _, _, _, _⟩) rfl (fun K hK => ?_) AllReadyH.nil
      go_simp
      refine (HK3.out x0).mono ?_
      rintro e x1 ⟨rfl, hbx1⟩
      have HSx1 : Hid (Below w5.heap.size w5 x1) := HSx0.out.trans (hbx1.mono HSx0.out.size)
      clear hbx1
      refine hK.out _ _ (HSx1.out) (fun _ => ?_)
      clear hK K
      (try simp only [Act.put, List.setIfInBounds_toArray, List.set_cons_zero, List.set_cons_succ])
      refine wpAnyH_ready (rs := [15]) (by kernel_rfl) (by simp) ?_
      refine AllReadyH.cons (o := ⟨some 40, _, _, _, _, _⟩) rfl (fun K hK => ?_) AllReadyH.nil
      go_simp
      refine (HFI.out _ x1 (HNw5.out.call HSx1.out)).mono ?_
      rintro e x2 ⟨rfl, hbx2⟩
      have HSx2 : Hid (Below w5.heap.size w5 x2) := HSx1.out.trans (hbx2.mono HSx1.out.size)
      clear hbx2
      refine hK.out _ _ (HSx2.out) (fun _ => ?_)
      clear hK K
      (try simp only [Act.put, List.setIfInBounds_toArray, List.set_cons_zero, List.set_cons_succ])
      refine wpAnyH_take (i := 16) (oi := ⟨some 41, _, _, _, _, _⟩) (v := .bool true) rfl (by kernel_rfl) (by kernel_rfl) (by kernel_rfl) (fun _ _ _ h => h) (Or.inl ⟨by rfl, fun wz hz => ?_⟩) HSx2.out ?_
      · clear hz; go_simp; first | done | with_reducible rfl | rfl
      (try simp only [Act.put, List.setIfInBounds_toArray, List.set_cons_zero, List.set_cons_succ])
      refine wpAnyH_take (i := 17) (oi := ⟨some 42, _, _, _, _, _⟩) (v := .bool true) rfl (by kernel_rfl) (by kernel_rfl) (by kernel_rfl) (fun _ _ _ h => h) (Or.inl ⟨by rfl, fun wz hz => ?_⟩) HSx2.out ?_
      · clear hz; go_simp; first | done | with_reducible rfl | rfl
      (try simp only [Act.put, List.setIfInBounds_toArray, List.set_cons_zero, List.set_cons_succ])
      refine wpAnyH_take (i := 18) (oi := ⟨some 43, _, _, _, _, _⟩) (v := .bool true) rfl (by kernel_rfl) (by kernel_rfl) (by kernel_rfl) (fun _ _ _ h => h) (Or.inl ⟨by rfl, fun wz hz => ?_⟩) HSx2.out ?_
      · clear hz; go_simp; first | done | with_reducible rfl | rfl
      (try simp only [Act.put, List.setIfInBounds_toArray, List.set_cons_zero, List.set_cons_succ])
      refine held_load (oi := ⟨some 44, _, _, _, _, _⟩) 19 rfl (by kernel_rfl) (by kernel_rfl) (by kernel_rfl) (fun _ _ _ _ h => h) rfl 24 (.tmp 4) rfl b3 (0) rfl [.slice a3 3 c3] _ (fun u' hu => (HTw5.out.call hu).rng) Try.underlying24 rfl (hi1) HSx2.out ?_
      (try simp only [Act.put, List.setIfInBounds_toArray, List.set_cons_zero, List.set_cons_succ])
      refine wpAnyH_ready (rs := [20, 21]) (by kernel_rfl) (by simp) ?_
      refine AllReadyH.cons (o := ⟨some 45, _, _, _, _, _⟩) rfl (fun K hK => ?_) (AllReadyH.cons (o := ⟨some 46, _, _, _, _, _⟩) rfl (fun K hK => ?_) AllReadyH.nil)
      · skip
        go_simp
        refine (HCH.out _ x2 (HNw5.out.call HSx2.out)).mono ?_
        rintro e x3 ⟨v3, rfl, hiv, hbx3⟩
        obtain ⟨va, vn, vc, rfl⟩ := ints_shape' hiv.1
        have HIV := Lib.hid hiv
        clear hiv
        have HSx3 : Hid (Below w5.heap.size w5 x3) := HSx2.out.trans (hbx3.mono HSx2.out.size)
        clear hbx3
        refine hK.out _ _ (HSx3.out) (fun _ => ?_)
        clear hK K
        (try simp only [Act.put, List.setIfInBounds_toArray, List.set_cons_zero, List.set_cons_succ])
        refine wpAnyH_ready (rs := [21]) (by kernel_rfl) (by simp) ?_
        refine AllReadyH.cons (o := ⟨some 46, _, _, _, _, _⟩) rfl (fun K hK => ?_) AllReadyH.nil
        refine wp_buildSlice 29 2 _ rfl #[(0, .int .i64 1), (1, .int .i64 2)] (by simp [Act.eval]) _ (bs_int2 1 2 x3) ?_
        have hal : Below x3.heap.size x3 (x3.alloc (.cells #[.int .i64 1, .int .i64 2] 3)) := (Below.refl _ _).alloc (Nat.le_refl _) _
        have HIB : Hid (IntsV (x3.alloc (.cells #[.int .i64 1, .int .i64 2] 3)) (.slice (some ⟨x3.heap.size, 0, none⟩) 2 2) [1, 2]) := ints_two11 (Blk.new rfl) (by omega) (by omega)
        obtain ⟨gb, hgb⟩ : ∃ x, x3.heap.size = x := ⟨_, rfl⟩
        obtain ⟨x4, hy⟩ : ∃ x, x3.alloc (.cells #[.int .i64 1, .int .i64 2] 3) = x := ⟨_, rfl⟩
        rw [hy] at hal HIB ⊢
        have HSx4 : Hid (Below w5.heap.size w5 x4) := HSx3.out.trans (hal.mono HSx3.out.size)
        have HAL := Lib.hid hal
        rw [hgb] at HIB ⊢
        clear hal hy hgb
        refine hK.out _ _ (HSx4.out) (fun _ => ?_)
        clear hK K
        (try simp only [Act.put, List.setIfInBounds_toArray, List.set_cons_zero, List.set_cons_succ])
        have HIV := Lib.hid (HIV.out.below HAL.out)
        refine wpAnyH_ready (rs := [22]) (by kernel_rfl) (by simp) ?_
        refine AllReadyH.cons (o := ⟨some 47, _, _, _, _, _⟩) rfl (fun K hK => ?_) AllReadyH.nil
        go_simp
        refine (HSM.out _ _ [1, 2] x4 HIV.out HIB.out).mono ?_
        rintro e x5 ⟨rfl, hbx5⟩
        have HSx5 : Hid (Below w5.heap.size w5 x5) := HSx4.out.trans (hbx5.mono HSx4.out.size)
        clear hbx5
        refine hK.out _ _ (HSx5.out) (fun _ => ?_)
        clear hK K
        (try simp only [Act.put, List.setIfInBounds_toArray, List.set_cons_zero, List.set_cons_succ])
        refine wpAnyH_take (i := 23) (oi := ⟨some 48, _, _, _, _, _⟩) (v := .bool true) rfl (by kernel_rfl) (by kernel_rfl) (by kernel_rfl) (fun _ _ _ h => h) (Or.inl ⟨by rfl, fun wz hz => ?_⟩) HSx5.out ?_
        · clear hz; go_simp; first | done | with_reducible rfl | rfl
        (try simp only [Act.put, List.setIfInBounds_toArray, List.set_cons_zero, List.set_cons_succ])
        refine wpAnyH_take (i := 24) (oi := ⟨some 49, _, _, _, _, _⟩) (v := .bool true) rfl (by kernel_rfl) (by kernel_rfl) (by kernel_rfl) (fun _ _ _ h => h) (Or.inl ⟨by rfl, fun wz hz => ?_⟩) HSx5.out ?_
        · clear hz; go_simp; first | done | with_reducible rfl | rfl
        (try simp only [Act.put, List.setIfInBounds_toArray, List.set_cons_zero, List.set_cons_succ])
        refine held_load (oi := ⟨some 50, _, _, _, _, _⟩) 25 rfl (by kernel_rfl) (by kernel_rfl) (by kernel_rfl) (fun _ _ _ _ h => h) rfl 24 (.tmp 4) rfl b3 (0) rfl [.slice a3 3 c3] _ (fun u' hu => (HTw5.out.call hu).rng) Try.underlying24 rfl (hi1) HSx5.out ?_
        (try simp only [Act.put, List.setIfInBounds_toArray, List.set_cons_zero, List.set_cons_succ])
        refine wpAnyH_ready (rs := [26, 27]) (by kernel_rfl) (by simp) ?_
        refine AllReadyH.cons (o := ⟨some 51, _, _, _, _, _⟩) rfl (fun K hK => ?_) (AllReadyH.cons (o := ⟨some 52, _, _, _, _, _⟩) rfl (fun K hK => ?_) AllReadyH.nil)
        · skip
          go_simp
          refine (HLV.out _ x5 (HNw5.out.call HSx5.out)).mono ?_
          rintro e x6 ⟨v6, rfl, hiv, hbx6⟩
          obtain ⟨va, vn, vc, rfl⟩ := ints_shape' hiv.1
          have HIV := Lib.hid hiv
          clear hiv
          have HSx6 : Hid (Below w5.heap.size w5 x6) := HSx5.out.trans (hbx6.mono HSx5.out.size)
          clear hbx6
          refine hK.out _ _ (HSx6.out) (fun _ => ?_)
          clear hK K
          (try simp only [Act.put, List.setIfInBounds_toArray, List.set_cons_zero, List.set_cons_succ])
          refine wpAnyH_ready (rs := [27]) (by kernel_rfl) (by simp) ?_
          refine AllReadyH.cons (o := ⟨some 52, _, _, _, _, _⟩) rfl (fun K hK => ?_) AllReadyH.nil
          refine wp_buildSlice 29 2 _ rfl #[(0, .int .i64 1), (1, .int .i64 2)] (by simp [Act.eval]) _ (bs_int2 1 2 x6) ?_
          have hal : Below x6.heap.size x6 (x6.alloc (.cells #[.int .i64 1, .int .i64 2] 3)) := (Below.refl _ _).alloc (Nat.le_refl _) _
          have HIB : Hid (IntsV (x6.alloc (.cells #[.int .i64 1, .int .i64 2] 3)) (.slice (some ⟨x6.heap.size, 0, none⟩) 2 2) [1, 2]) := ints_two11 (Blk.new rfl) (by omega) (by omega)
          obtain ⟨gb, hgb⟩ : ∃ x, x6.heap.size = x := ⟨_, rfl⟩
          obtain ⟨x7, hy⟩ : ∃ x, x6.alloc (.cells #[.int .i64 1, .int .i64 2] 3) = x := ⟨_, rfl⟩
          rw [hy] at hal HIB ⊢
          have HSx7 : Hid (Below w5.heap.size w5 x7) := HSx6.out.trans (hal.mono HSx6.out.size)
          have HAL := Lib.hid hal
          rw [hgb] at HIB ⊢
          clear hal hy hgb
          refine hK.out _ _ (HSx7.out) (fun _ => ?_)
          clear hK K
          (try simp only [Act.put, List.setIfInBounds_toArray, List.set_cons_zero, List.set_cons_succ])
          have HIV := Lib.hid (HIV.out.below HAL.out)
          refine wpAnyH_ready (rs := [28]) (by kernel_rfl) (by simp) ?_
          refine AllReadyH.cons (o := ⟨some 53, _, _, _, _, _⟩) rfl (fun K hK => ?_) AllReadyH.nil
          go_simp
          refine (HSM.out _ _ [1, 2] x7 HIV.out HIB.out).mono ?_
          rintro e x8 ⟨rfl, hbx8⟩
          have HSx8 : Hid (Below w5.heap.size w5 x8) := HSx7.out.trans (hbx8.mono HSx7.out.size)
          clear hbx8
          refine hK.out _ _ (HSx8.out) (fun _ => ?_)
          clear hK K
          (try simp only [Act.put, List.setIfInBounds_toArray, List.set_cons_zero, List.set_cons_succ])
          refine wpAnyH_take (i := 29) (oi := ⟨some 54, _, _, _, _, _⟩) (v := .bool true) rfl (by kernel_rfl) (by kernel_rfl) (by kernel_rfl) (fun _ _ _ h => h) (Or.inl ⟨by rfl, fun wz hz => ?_⟩) HSx8.out ?_
          · clear hz; go_simp; first | done | with_reducible rfl | rfl
          (try simp only [Act.put, List.setIfInBounds_toArray, List.set_cons_zero, List.set_cons_succ])
          refine wpAnyH_ready (rs := [30]) (by kernel_rfl) (by simp) ?_
          refine AllReadyH.cons (o := ⟨some 0, _, _, _, _, _⟩) rfl (fun K hK => ?_) AllReadyH.nil
          go_simp
          refine hK.out _ _ (HSx8.out) (fun _ => ?_)
          clear hK K
          (try simp only [Act.put, List.setIfInBounds_toArray, List.set_cons_zero, List.set_cons_succ])
          refine wpAnyH_done (by kernel_rfl) ?_ _
          go_wp2_with fail
          go_ret
          exact ⟨rfl, HB5.out.trans (HSx8.out.mono HB5.out.size)⟩
        · skip
          refine wp_buildSlice 29 2 _ rfl #[(0, .int .i64 1), (1, .int .i64 2)] (by simp [Act.eval]) _ (bs_int2 1 2 x5) ?_
          have hal : Below x5.heap.size x5 (x5.alloc (.cells #[.int .i64 1, .int .i64 2] 3)) := (Below.refl _ _).alloc (Nat.le_refl _) _
          have HIB : Hid (IntsV (x5.alloc (.cells #[.int .i64 1, .int .i64 2] 3)) (.slice (some ⟨x5.heap.size, 0, none⟩) 2 2) [1, 2]) := ints_two11 (Blk.new rfl) (by omega) (by omega)
          obtain ⟨gb, hgb⟩ : ∃ x, x5.heap.size = x := ⟨_, rfl⟩
          obtain ⟨x6, hy⟩ : ∃ x, x5.alloc (.cells #[.int .i64 1, .int .i64 2] 3) = x := ⟨_, rfl⟩
          rw [hy] at hal HIB ⊢
          have HSx6 : Hid (Below w5.heap.size w5 x6) := HSx5.out.trans (hal.mono HSx5.out.size)
          have HAL := Lib.hid hal
          rw [hgb] at HIB ⊢
          clear hal hy hgb
          refine hK.out _ _ (HSx6.out) (fun _ => ?_)
          clear hK K
          (try simp only [Act.put, List.setIfInBounds_toArray, List.set_cons_zero, List.set_cons_succ])
          refine wpAnyH_ready (rs := [26]) (by kernel_rfl) (by simp) ?_
          refine AllReadyH.cons (o := ⟨some 51, _, _, _, _, _⟩) rfl (fun K hK => ?_) AllReadyH.nil
          go_simp
          refine (HLV.out _ x6 (HNw5.out.call HSx6.out)).mono ?_
          rintro e x7 ⟨v6, rfl, hiv, hbx7⟩
          obtain ⟨va, vn, vc, rfl⟩ := ints_shape' hiv.1
          have HIV := Lib.hid hiv
          have HIB := Lib.hid (HIB.out.below hbx7)
          clear hiv
          have HSx7 : Hid (Below w5.heap.size w5 x7) := HSx6.out.trans (hbx7.mono HSx6.out.size)
          clear hbx7
          refine hK.out _ _ (HSx7.out) (fun _ => ?_)
          clear hK K
          (try simp only [Act.put, List.setIfInBounds_toArray, List.set_cons_zero, List.set_cons_succ])
          refine wpAnyH_ready (rs := [28]) (by kernel_rfl) (by simp) ?_
          refine AllReadyH.cons (o := ⟨some 53, _, _, _, _, _⟩) rfl (fun K hK => ?_) AllReadyH.nil
          go_simp
          refine (HSM.out _ _ [1, 2] x7 HIV.out HIB.out).mono ?_
          rintro e x8 ⟨rfl, hbx8⟩
          have HSx8 : Hid (Below w5.heap.size w5 x8) := HSx7.out.trans (hbx8.mono HSx7.out.size)
          clear hbx8
          refine hK.out _ _ (HSx8.out) (fun _ => ?_)
          clear hK K
          (try simp only [Act.put, List.setIfInBounds_toArray, List.set_cons_zero, List.set_cons_succ])
          refine wpAnyH_take (i := 29) (oi := ⟨some 54, _, _, _, _, _⟩) (v := .bool true) rfl (by kernel_rfl) (by kernel_rfl) (by kernel_rfl) (fun _ _ _ h => h) (Or.inl ⟨by rfl, fun wz hz => ?_⟩) HSx8.out ?_
          · clear hz; go_simp; first | done | with_reducible rfl | rfl
          (try simp only [Act.put, List.setIfInBounds_toArray, List.set_cons_zero, List.set_cons_succ])
          refine wpAnyH_ready (rs := [30]) (by kernel_rfl) (by simp) ?_
          refine AllReadyH.cons (o := ⟨some 0, _, _, _, _, _⟩) rfl (fun K hK => ?_) AllReadyH.nil
          go_simp
          refine hK.out _ _ (HSx8.out) (fun _ => ?_)
          clear hK K
          (try simp only [Act.put, List.setIfInBounds_toArray, List.set_cons_zero, List.set_cons_succ])
          refine wpAnyH_done (by kernel_rfl) ?_ _
          go_wp2_with fail
          go_ret
          exact ⟨rfl, HB5.out.trans (HSx8.out.mono HB5.out.size)⟩
      · skip
        refine wp_buildSlice 29 2 _ rfl #[(0, .int .i64 1), (1, .int .i64 2)] (by simp [Act.eval]) _ (bs_int2 1 2 x2) ?_
        have hal : Below x2.heap.size x2 (x2.alloc (.cells #[.int .i64 1, .int .i64 2] 3)) := (Below.refl _ _).alloc (Nat.le_refl _) _
        have HIB : Hid (IntsV (x2.alloc (.cells #[.int .i64 1, .int .i64 2] 3)) (.slice (some ⟨x2.heap.size, 0, none⟩) 2 2) [1, 2]) := ints_two11 (Blk.new rfl) (by omega) (by omega)
        obtain ⟨gb, hgb⟩ : ∃ x, x2.heap.size = x := ⟨_, rfl⟩
        obtain ⟨x3, hy⟩ : ∃ x, x2.alloc (.cells #[.int .i64 1, .int .i64 2] 3) = x := ⟨_, rfl⟩
        rw [hy] at hal HIB ⊢
        have HSx3 : Hid (Below w5.heap.size w5 x3) := HSx2.out.trans (hal.mono HSx2.out.size)
        have HAL := Lib.hid hal
        rw [hgb] at HIB ⊢
        clear hal hy hgb
        refine hK.out _ _ (HSx3.out) (fun _ => ?_)
        clear hK K
        (try simp only [Act.put, List.setIfInBounds_toArray, List.set_cons_zero, List.set_cons_succ])
        refine wpAnyH_ready (rs := [20]) (by kernel_rfl) (by simp) ?_
        refine AllReadyH.cons (o := ⟨some 45, _, _, _, _, _⟩) rfl (fun K hK => ?_) AllReadyH.nil
        go_simp
        refine (HCH.out _ x3 (HNw5.out.call HSx3.out)).mono ?_
        rintro e x4 ⟨v3, rfl, hiv, hbx4⟩
        obtain ⟨va, vn, vc, rfl⟩ := ints_shape' hiv.1
        have HIV := Lib.hid hiv
        have HIB := Lib.hid (HIB.out.below hbx4)
        clear hiv
        have HSx4 : Hid (Below w5.heap.size w5 x4) := HSx3.out.trans (hbx4.mono HSx3.out.size)
        clear hbx4
        refine hK.out _ _ (HSx4.out) (fun _ => ?_)
        clear hK K
        (try simp only [Act.put, List.setIfInBounds_toArray, List.set_cons_zero, List.set_cons_succ])
        refine wpAnyH_ready (rs := [22]) (by kernel_rfl) (by simp) ?_
        refine AllReadyH.cons (o := ⟨some 47, _, _, _, _, _⟩) rfl (fun K hK => ?_) AllReadyH.nil
        go_simp
        refine (HSM.out _ _ [1, 2] x4 HIV.out HIB.out).mono ?_
        rintro e x5 ⟨rfl, hbx5⟩
        have HSx5 : Hid (Below w5.heap.size w5 x5) := HSx4.out.trans (hbx5.mono HSx4.out.size)
        clear hbx5
        refine hK.out _ _ (HSx5.out) (fun _ => ?_)
        clear hK K
        (try simp only [Act.put, List.setIfInBounds_toArray, List.set_cons_zero, List.set_cons_succ])
        refine wpAnyH_take (i := 23) (oi := ⟨some 48, _, _, _, _, _⟩) (v := .bool true) rfl (by kernel_rfl) (by kernel_rfl) (by kernel_rfl) (fun _ _ _ h => h) (Or.inl ⟨by rfl, fun wz hz => ?_⟩) HSx5.out ?_
        · clear hz; go_simp; first | done | with_reducible rfl | rfl
        (try simp only [Act.put, List.setIfInBounds_toArray, List.set_cons_zero, List.set_cons_succ])
        refine wpAnyH_take (i := 24) (oi := ⟨some 49, _, _, _, _, _⟩) (v := .bool true) rfl (by kernel_rfl) (by kernel_rfl) (by kernel_rfl) (fun _ _ _ h => h) (Or.inl ⟨by rfl, fun wz hz => ?_⟩) HSx5.out ?_
        · clear hz; go_simp; first | done | with_reducible rfl | rfl
        (try simp only [Act.put, List.setIfInBounds_toArray, List.set_cons_zero, List.set_cons_succ])
        refine held_load (oi := ⟨some 50, _, _, _, _, _⟩) 25 rfl (by kernel_rfl) (by kernel_rfl) (by kernel_rfl) (fun _ _ _ _ h => h) rfl 24 (.tmp 4) rfl b3 (0) rfl [.slice a3 3 c3] _ (fun u' hu => (HTw5.out.call hu).rng) Try.underlying24 rfl (hi1) HSx5.out ?_
        (try simp only [Act.put, List.setIfInBounds_toArray, List.set_cons_zero, List.set_cons_succ])
        refine wpAnyH_ready (rs := [26, 27]) (by kernel_rfl) (by simp) ?_
        refine AllReadyH.cons (o := ⟨some 51, _, _, _, _, _⟩) rfl (fun K hK => ?_) (AllReadyH.cons (o := ⟨some 52, _, _, _, _, _⟩) rfl (fun K hK => ?_) AllReadyH.nil)
        · skip
          go_simp
          refine (HLV.out _ x5 (HNw5.out.call HSx5.out)).mono ?_
          rintro e x6 ⟨v6, rfl, hiv, hbx6⟩
          obtain ⟨va, vn, vc, rfl⟩ := ints_shape' hiv.1
          have HIV := Lib.hid hiv
          clear hiv
          have HSx6 : Hid (Below w5.heap.size w5 x6) := HSx5.out.trans (hbx6.mono HSx5.out.size)
          clear hbx6
          refine hK.out _ _ (HSx6.out) (fun _ => ?_)
          clear hK K
          (try simp only [Act.put, List.setIfInBounds_toArray, List.set_cons_zero, List.set_cons_succ])
          refine wpAnyH_ready (rs := [27]) (by kernel_rfl) (by simp) ?_
          refine AllReadyH.cons (o := ⟨some 52, _, _, _, _, _⟩) rfl (fun K hK => ?_) AllReadyH.nil
          refine wp_buildSlice 29 2 _ rfl #[(0, .int .i64 1), (1, .int .i64 2)] (by simp [Act.eval]) _ (bs_int2 1 2 x6) ?_
          have hal : Below x6.heap.size x6 (x6.alloc (.cells #[.int .i64 1, .int .i64 2] 3)) := (Below.refl _ _).alloc (Nat.le_refl _) _
          have HIB : Hid (IntsV (x6.alloc (.cells #[.int .i64 1, .int .i64 2] 3)) (.slice (some ⟨x6.heap.size, 0, none⟩) 2 2) [1, 2]) := ints_two11 (Blk.new rfl) (by omega) (by omega)
          obtain ⟨gb, hgb⟩ : ∃ x, x6.heap.size = x := ⟨_, rfl⟩
          obtain ⟨x7, hy⟩ : ∃ x, x6.alloc (.cells #[.int .i64 1, .int .i64 2] 3) = x := ⟨_, rfl⟩
          rw [hy] at hal HIB ⊢
          have HSx7 : Hid (Below w5.heap.size w5 x7) := HSx6.out.trans (hal.mono HSx6.out.size)
          have HAL := Lib.hid hal
          rw [hgb] at HIB ⊢
          clear hal hy hgb
          refine hK.out _ _ (HSx7.out) (fun _ => ?_)
          clear hK K
          (try simp only [Act.put, List.setIfInBounds_toArray, List.set_cons_zero, List.set_cons_succ])
          have HIV := Lib.hid (HIV.out.below HAL.out)
          refine wpAnyH_ready (rs := [28]) (by kernel_rfl) (by simp) ?_
          refine AllReadyH.cons (o := ⟨some 53, _, _, _, _, _⟩) rfl (fun K hK => ?_) AllReadyH.nil
          go_simp
          refine (HSM.out _ _ [1, 2] x7 HIV.out HIB.out).mono ?_
          rintro e x8 ⟨rfl, hbx8⟩
          have HSx8 : Hid (Below w5.heap.size w5 x8) := HSx7.out.trans (hbx8.mono HSx7.out.size)
          clear hbx8
          refine hK.out _ _ (HSx8.out) (fun _ => ?_)
          clear hK K
          (try simp only [Act.put, List.setIfInBounds_toArray, List.set_cons_zero, List.set_cons_succ])
          refine wpAnyH_take (i := 29) (oi := ⟨some 54, _, _, _, _, _⟩) (v := .bool true) rfl (by kernel_rfl) (by kernel_rfl) (by kernel_rfl) (fun _ _ _ h => h) (Or.inl ⟨by rfl, fun wz hz => ?_⟩) HSx8.out ?_
          · clear hz; go_simp; first | done | with_reducible rfl | rfl
          (try simp only [Act.put, List.setIfInBounds_toArray, List.set_cons_zero, List.set_cons_succ])
          refine wpAnyH_ready (rs := [30]) (by kernel_rfl) (by simp) ?_
          refine AllReadyH.cons (o := ⟨some 0, _, _, _, _, _⟩) rfl (fun K hK => ?_) AllReadyH.nil
          go_simp
          refine hK.out _ _ (HSx8.out) (fun _ => ?_)
          clear hK K
          (try simp only [Act.put, List.setIfInBounds_toArray, List.set_cons_zero, List.set_cons_succ])
          refine wpAnyH_done (by kernel_rfl) ?_ _
          go_wp2_with fail
          go_ret
          exact ⟨rfl, HB5.out.trans (HSx8.out.mono HB5.out.size)⟩
        · skip
          refine wp_buildSlice 29 2 _ rfl #[(0, .int .i64 1), (1, .int .i64 2)] (by simp [Act.eval]) _ (bs_int2 1 2 x5) ?_
          have hal : Below x5.heap.size x5 (x5.alloc (.cells #[.int .i64 1, .int .i64 2] 3)) := (Below.refl _ _).alloc (Nat.le_refl _) _
          have HIB : Hid (IntsV (x5.alloc (.cells #[.int .i64 1, .int .i64 2] 3)) (.slice (some ⟨x5.heap.size, 0, none⟩) 2 2) [1, 2]) := ints_two11 (Blk.new rfl) (by omega) (by omega)
          obtain ⟨gb, hgb⟩ : ∃ x, x5.heap.size = x := ⟨_, rfl⟩
          obtain ⟨x6, hy⟩ : ∃ x, x5.alloc (.cells #[.int .i64 1, .int .i64 2] 3) = x := ⟨_, rfl⟩
          rw [hy] at hal HIB ⊢
          have HSx6 : Hid (Below w5.heap.size w5 x6) := HSx5.out.trans (hal.mono HSx5.out.size)
          have HAL := Lib.hid hal
          rw [hgb] at HIB ⊢
          clear hal hy hgb
          refine hK.out _ _ (HSx6.out) (fun _ => ?_)
          clear hK K
          (try simp only [Act.put, List.setIfInBounds_toArray, List.set_cons_zero, List.set_cons_succ])
          refine wpAnyH_ready (rs := [26]) (by kernel_rfl) (by simp) ?_
          refine AllReadyH.cons (o := ⟨some 51, _, _, _, _, _⟩) rfl (fun K hK => ?_) AllReadyH.nil
          go_simp
          refine (HLV.out _ x6 (HNw5.out.call HSx6.out)).mono ?_
          rintro e x7 ⟨v6, rfl, hiv, hbx7⟩
          obtain ⟨va, vn, vc, rfl⟩ := ints_shape' hiv.1
          have HIV := Lib.hid hiv
          have HIB := Lib.hid (HIB.out.below hbx7)
          clear hiv
          have HSx7 : Hid (Below w5.heap.size w5 x7) := HSx6.out.trans (hbx7.mono HSx6.out.size)
          clear hbx7
          refine hK.out _ _ (HSx7.out) (fun _ => ?_)
          clear hK K
          (try simp only [Act.put, List.setIfInBounds_toArray, List.set_cons_zero, List.set_cons_succ])
          refine wpAnyH_ready (rs := [28]) (by kernel_rfl) (by simp) ?_
          refine AllReadyH.cons (o := ⟨some 53, _, _, _, _, _⟩) rfl (fun K hK => ?_) AllReadyH.nil
          go_simp
          refine (HSM.out _ _ [1, 2] x7 HIV.out HIB.out).mono ?_
          rintro e x8 ⟨rfl, hbx8⟩
          have HSx8 : Hid (Below w5.heap.size w5 x8) := HSx7.out.trans (hbx8.mono HSx7.out.size)
          clear hbx8
          refine hK.out _ _ (HSx8.out) (fun _ => ?_)
          clear hK K
          (try simp only [Act.put, List.setIfInBounds_toArray, List.set_cons_zero, List.set_cons_succ])
          refine wpAnyH_take (i := 29) (oi := ⟨some 54, _, _, _, _, _⟩) (v := .bool true) rfl (by kernel_rfl) (by kernel_rfl) (by kernel_rfl) (fun _ _ _ h => h) (Or.inl ⟨by rfl, fun wz hz => ?_⟩) HSx8.out ?_
          · clear hz; go_simp; first | done | with_reducible rfl | rfl
          (try simp only [Act.put, List.setIfInBounds_toArray, List.set_cons_zero, List.set_cons_succ])
          refine wpAnyH_ready (rs := [30]) (by kernel_rfl) (by simp) ?_
          refine AllReadyH.cons (o := ⟨some 0, _, _, _, _, _⟩) rfl (fun K hK => ?_) AllReadyH.nil
          go_simp
          refine hK.out _ _ (HSx8.out) (fun _ => ?_)
          clear hK K
          (try simp only [Act.put, List.setIfInBounds_toArray, List.set_cons_zero, List.set_cons_succ])
          refine wpAnyH_done (by kernel_rfl) ?_ _
          go_wp2_with fail
          go_ret
          exact ⟨rfl, HB5.out.trans (HSx8.out.mono HB5.out.size)⟩
end

/-! BtF -/
section
set_option linter.unusedVariables false
set_option linter.unusedSimpArgs false
open Go.RowKit

/-- A valid tree. -/
structure TrVal (ns : List NdD) : Prop where
  pos : 0 < ns.length
  root : ∀ h : 0 < ns.length, ns[0].up = -1
  up : ∀ i (hi : i < ns.length), 0 < i → ∃ u : Nat, ∃ hu : u < ns.length, u < i ∧ ns[i].up = u ∧ ns[i].b.parent = ns[u].b.root ∧ ns[u].b.slot < ns[i].b.slot
  ne : ∀ i j (hi : i < ns.length) (hj : j < ns.length), i < j → ns[i].b.root ≠ ns[j].b.root
  st : ∀ i (hi : i < ns.length), 0 ≤ ns[i].st ∧ ns[i].st ≤ 2

theorem TrOK.val {ns : List NdD} (h : TrOK ns) : TrVal ns := ⟨h.pos, h.root, fun i hi h0 => by obtain ⟨u, hu, h1, h2, h3, h4, _⟩ := h.up i hi h0; exact ⟨u, hu, h1, h2, h3, h4⟩, h.ne, h.st⟩

theorem nodeE_val {ns : List NdD} (h : TrVal ns) {k : Nat} (hk : k < ns.length) : nodeE ns ns[k] k = 0 := by
  have hs := h.st k hk
  have hb : ¬ badForm ns[k] k := by
    unfold badForm
    by_cases h0 : k = 0
    · subst h0
      have := h.root hk
      omega
    · obtain ⟨u, hu, h1, h2, _⟩ := h.up k hk (by omega)
      omega
  have hf : ¬ 0 ≤ findN (ns.take k) ns[k].b.root := by
    rcases findN_spec (ns.take k) ns[k].b.root with ⟨h1, _⟩ | ⟨j, hj, _, h2, _⟩
    · rw [h1]; omega
    · have hj' : j < k := by rw [List.length_take] at hj; omega
      rw [List.getElem_take] at h2
      exact absurd h2 (h.ne j k (by omega) hk hj')
  unfold nodeE
  rw [if_neg hb, if_neg hf]
  by_cases h0 : k = 0
  · rw [if_neg (by omega), if_neg (by omega)]
  · obtain ⟨u, hu, h1, h2, h3, h4⟩ := h.up k hk (by omega)
    have hr : rootAt ns ns[k].up = ns[u].b.root := by rw [h2]; simp [rootAt, List.getElem?_eq_getElem hu]
    have hsl : slotAt ns ns[k].up = ns[u].b.slot := by rw [h2]; simp [slotAt, List.getElem?_eq_getElem hu]
    rw [hr, hsl, if_neg (fun hh => hh.2 h3), if_neg (by omega)]

theorem vtGo_val {ns : List NdD} (h : TrVal ns) : ∀ f k, vtGo ns f k = 0
  | 0, _ => rfl
  | f + 1, k => by
    show (match ns[k]? with | none => 0 | some d => if nodeE ns d k = 0 then vtGo ns f (k + 1) else nodeE ns d k) = 0
    by_cases hk : k < ns.length
    · rw [List.getElem?_eq_getElem hk]
      show (if nodeE ns ns[k] k = 0 then vtGo ns f (k + 1) else nodeE ns ns[k] k) = 0
      rw [if_pos (nodeE_val h hk), vtGo_val h f (k + 1)]
    · rw [List.getElem?_eq_none (by omega)]

theorem vtE_val {ns : List NdD} (h : TrVal ns) (hl : ns.length ≤ 4096) : vtE ns = 0 := by
  unfold vtE
  rw [if_neg (by have := h.pos; omega)]
  exact vtGo_val h _ _

theorem insT_st {ns : List NdD} {x : BkD} {st : Int} (he : (insT ns x st).2 = 0) : 0 ≤ st ∧ st ≤ 2 := by
  by_cases h : 0 ≤ st ∧ st ≤ 2
  · exact h
  · unfold insT at he
    rw [if_pos h] at he
    cases he

theorem TrVal.add {ns : List NdD} (h : TrVal ns) {x : BkD} {st : Int} (he : (insT ns x st).2 = 0) : TrVal (insT ns x st).1 ∧ (insT ns x st).1.length ≤ 4096 := by
  have hst := insT_st he
  obtain ⟨h1, h2, h3, h4, h5⟩ := insT_cases he
  rw [h5]
  obtain ⟨q, hf⟩ : ∃ q : Nat, findN ns x.parent = q := ⟨(findN ns x.parent).toNat, by omega⟩
  obtain ⟨hq, hp⟩ : ∃ hq : q < ns.length, x.parent = ns[q].b.root := by
    rcases findN_spec ns x.parent with ⟨e, _⟩ | ⟨k, hk, e, e2, _⟩
    · omega
    · obtain rfl : k = q := by omega
      exact ⟨hk, e2.symm⟩
  rw [hf] at h3 ⊢
  have hs : slotAt ns (q : Int) = ns[q].b.slot := by simp [slotAt, List.getElem?_eq_getElem hq]
  rw [hs] at h3
  refine ⟨⟨by simp, fun _ => ?_, fun i hi h0 => ?_, fun i j hi hj hij => ?_, fun i hi => ?_⟩, by simp; omega⟩
  · rw [List.getElem_append_left h.pos]; exact h.root h.pos
  · by_cases hil : i < ns.length
    · obtain ⟨u, hu, a1, a2, a3, a4⟩ := h.up i hil h0
      refine ⟨u, by simp; omega, a1, ?_⟩
      rw [List.getElem_append_left hil, List.getElem_append_left hu]
      exact ⟨a2, a3, a4⟩
    · obtain rfl : i = ns.length := by simp at hi; omega
      refine ⟨q, by simp; omega, hq, ?_⟩
      rw [List.getElem_append_right (Nat.le_refl _), List.getElem_append_left hq]
      simp only [Nat.sub_self, List.getElem_cons_zero]
      exact ⟨by trivial, hp, h3⟩
  · have hil : i < ns.length := by simp at hj; omega
    rw [List.getElem_append_left hil]
    by_cases hjl : j < ns.length
    · rw [List.getElem_append_left hjl]; exact h.ne i j hil hjl hij
    · obtain rfl : j = ns.length := by simp at hj; omega
      rw [List.getElem_append_right (Nat.le_refl _)]
      simp only [Nat.sub_self, List.getElem_cons_zero]
      rcases findN_spec ns x.root with ⟨_, b2⟩ | ⟨k, hk, b1, _, _⟩
      · exact b2 i hil
      · rw [b1] at h1; omega
  · by_cases hil : i < ns.length
    · rw [List.getElem_append_left hil]; exact h.st i hil
    · obtain rfl : i = ns.length := by simp at hi; omega
      rw [List.getElem_append_right (Nat.le_refl _)]
      simpa using hst

theorem rowInts {w : World} {a : Option Addr} {len cap : Nat} {zs : List Int} (h : IsRow .i64 w a len cap zs) : IntsV w (.slice a len cap) (zs.take len) := ⟨h.ints.1, fun x hx => wf_i64 (h.ints.2 x hx)⟩

theorem NodesV.offBlk {u : World} {a : Option Addr} {m c : Nat} {ns : List NdD} (h : NodesV u (.slice a m c) ns) {g : Nat} {X : Array Value} (hB : Blk u g X) (hs : X.size < 240) : Off g (.slice a m c) := by
  intro z l c' e h0
  cases e
  obtain ⟨_, _, e1, hl, _⟩ := h
  cases e1
  have hn0 : 0 < ns.length := h0
  obtain ⟨b, off, e2, _, _, hna, _⟩ := NodesV.elem (w := u) (a := some z) (l := ns.length) (cap := c) (ns := ns) ⟨_, _, rfl, hl, by assumption⟩ hn0
  cases e2
  intro e3
  simp only at e3
  subst e3
  have hc := hna.st
  rw [hB.cell] at hc
  have := (Array.getElem?_eq_some_iff.1 hc).1
  omega

/-- A tree in a variable. -/
structure TvS (w : World) (b : Nat) (s : Value) (ns : List NdD) (u : World) : Prop where
  t : Blk u b #[s]
  n : NodesV u s ns
  b : Below w.heap.size w u

theorem TvS.call {w u u' : World} {b : Nat} {s : Value} {ns : List NdD} (h : TvS w b s ns u) (hb : Below u.heap.size u u') : TvS w b s ns u' := ⟨h.t.call hb, h.n.call hb, h.b.trans (hb.mono h.b.size)⟩
end

end Go.Proofs.Ytgdlkkeiijhecaa
