/- ancestry's Path, Descendants. (Written by gen/ana-gen.py.) -/
import Derived.Test.YtdbkphkgjaecoaaAnA
import Derived.Test.YtdbkphkgjaecoaaBtD
set_option linter.unusedVariables false

set_option linter.unusedSimpArgs false
namespace Go.Proofs.Ytdbkphkgjaecoaa
open Go.RowKit

set_option maxRecDepth 100000

theorem wpList_makeN {ops : Array Oper} {rest : List Oper} {o : Oper} {a : Act} {w : World} {Q : Exit → Act → World → Prop} (hg : o.guard = none) (l : Operand) (hop : o.op = Op.makeSlice 22 l l)
    (kl : IntKind) (n : Nat) (hl : a.eval l = .int kl (n : Int)) (hn : n ≤ 1000000)
    (hK : ∀ w', Below w.heap.size w w' → RowB w' w.heap.size (numL .i64 (List.replicate n 0)) → wpList Try.prog ops Q rest (a.put o.dst (.slice (some ⟨w.heap.size, 0, none⟩) n n)) w') : wpList Try.prog ops Q (o :: rest) a w := by
  obtain ⟨i0, hi0, hz0, hz1, hz2⟩ := info_parts info_int
  refine wpList_plain hg fun _ hK' => ?_
  have hr := run_make (P := Try.prog) w 22 3 i0 (.int .i64 0) Try.underlying22 hi0 hz0 kl kl n n (by omega) (by omega) (by rw [hz2]; omega) (by omega)
  simp only [Int.toNat_natCast, hz1, Nat.mul_one] at hr
  have hm : madeCells (Value.int .i64 0).cells n = flatP (numL .i64 (List.replicate n 0) ++ [[]]) := by
    apply Array.toList_inj.1
    rw [show (Value.int .i64 0).cells = #[Value.int .i64 0] from rfl, toList_madeCells_one]
    unfold flatP
    rw [List.flatten_append, numL_flat]
    simp
  rw [hm] at hr
  unfold Oper.wp
  simp only [execOp, hop, hl, Sem.run_bind, hr, Result.andThen, Sem.run_pure]
  exact hK' _ _ (hK _ ((Below.refl _ w).alloc (Nat.le_refl _) _) ⟨[], Blk.new rfl⟩)
/-! ### Path -/

theorem set_rep (n : Nat) (x : Int) (D : List Int) : (List.replicate (n + 1) 0 ++ D).set n x = List.replicate n 0 ++ x :: D := by
  rw [List.replicate_succ', List.append_assoc, List.set_append_right _ _ (by simp)]
  simp

def PacI (w : World) (T : Array Value) (ns : List NdD) (g : Nat) (x : Int) (iv pv : Value) (wr : World) : Prop :=
  ∃ (i p : Int) (D : List Int), iv = .int .i64 i ∧ pv = .int .i64 p ∧ p + 1 = ((pathN ns i).length : Nat) ∧ pathN ns x = pathN ns i ++ D ∧ RowB wr g (numL .i64 (List.replicate (pathN ns i).length 0 ++ D)) ∧ PaS w T wr

/-- What Path promises here. -/
def PacE (ns : List NdD) (x : Int) (w : World) (e : Ending) (w' : World) : Prop := ∃ v', e = .returned v' ∧ IntsV w' v' (pathN ns x) ∧ Below w.heap.size w w'

set_option maxHeartbeats 8000000 in
theorem anpa_any (ns : List NdD) (hok : TrOK ns) (hlen : ns.length ≤ 100000) (x : Int) (hir : -9223372036854775808 ≤ x ∧ x ≤ 9223372036854775807) (v : Value) (w : World) (hN : NodesV w v ns) :
    Calls Try.prog 11 #[.agg #[v], .int .i64 x] w (PacE ns x w) := by
  obtain ⟨a, cap, rfl, hmx⟩ := hN.shape
  unfold maxLen at hmx
  have HDE := Lib.hid (fun u (hu : Below w.heap.size w u) => cdepth_any ns hok hlen x hir _ u (hN.call hu))
  have HLE := Lib.hid (pathN_len ns x)
  have HRG := Lib.hid (pathN_rng hok x)
  have HN := Lib.hid hN
  have HOK := Lib.hid hok
  have hi1 : (Try.prog.info? 25).map (·.size) = some 1 := by kernel_rfl
  obtain ⟨m, hm⟩ : ∃ m, Hid (ns.length = m) := ⟨_, Lib.hid rfl⟩
  rw [hm.out] at hmx HDE HN hlen HLE HRG ⊢
  have S0 := Lib.hid (pas_new w #[.slice a m cap] 25)
  obtain ⟨L, hL⟩ : ∃ L, (pathN ns x).length = L := ⟨_, rfl⟩
  have HL := Lib.hid hL
  rw [hL] at HDE HLE
  have hLm : L ≤ 100000 := by have := HLE.out; omega
  clear hN hok hir hL
  go_enter Try.func11, Try.ntmps11
  go_wp2_with (first
    | ((with_reducible refine at_load (.tmp 2) ?_); refine wpList_load_g 25 (.tmp 2) rfl w.heap.size rfl #[.slice a m cap] _ S0.out.t Try.underlying25 rfl hi1 rfl ?_)
    | (go_at_call 28; refine (HDE.out _ S0.out.b).mono ?_; rintro e w1 ⟨rfl, hb⟩; have S1 := Lib.hid (S0.out.call hb); clear hb)
    | ((with_reducible refine at_makeEl (.tmp 9) ?_); refine wpList_makeN rfl (.tmp 9) rfl .i64 L rfl (by omega) ?_; intro w2 hb2 hr2; have S2 := Lib.hid (S1.out.call hb2); have R2 := Lib.hid hr2; clear hb2 hr2))
  obtain ⟨g, hg⟩ : ∃ g, w1.heap.size = g := ⟨_, rfl⟩
  have hgw : w.heap.size < g := by rw [← hg]; exact S1.out.t.lt
  rw [hg] at R2 ⊢
  clear hg
  go_loopw [1, 6] (fun iv pv wr => PacI w #[.slice a m cap] ns g x iv pv wr) (fun _ pv _ => (intOf pv + 1).toNat)
  case atStart => exact ⟨x, (L : Int) - 1, [], rfl, by go_num, by rw [HL.out]; omega, by simp, by rw [HL.out, List.append_nil]; exact R2.out, S2.out⟩
  case round =>
    obtain ⟨i, p, D, rfl, rfl, hp, hpx, hrow, hs⟩ := hrel
    have S3 := Lib.hid hs
    have HPX := Lib.hid hpx
    have HROW := Lib.hid hrow
    have HPP := Lib.hid hp
    clear hs hpx hrow hp
    by_cases hi : 0 ≤ i ∧ i < m
    case neg =>
      have hout : pathN ns i = [] := pathN_out (by rw [hm.out]; exact hi)
      have hp1 : p = -1 := by have := HPP.out; rw [hout] at this; simp at this; omega
      subst hp1
      have HD : Hid (pathN ns x = D) := by show _ = _; rw [HPX.out, hout]; rfl
      have R3 : Hid (RowB wr g (numL .i64 D)) := by show RowB _ _ _; have := HROW.out; rw [hout] at this; exact this
      have HDL : Hid (L = D.length) := by show L = _; rw [← HL.out, HD.out]
      clear hi hout
      go_wp2_with fail
      go_ret
      exact ⟨_, rfl, ⟨by rw [HD.out]; exact R3.out.ints HDL.out (by unfold maxLen; have := HDL.out; omega), fun y hy => by have := HRG.out y hy; omega⟩, S3.out.b⟩
    obtain ⟨k, rfl⟩ : ∃ k : Nat, i = k := ⟨i.toNat, by omega⟩
    have hkm0 : (k : Int) < m := hi.2
    have hkl : k < ns.length := by rw [hm.out]; omega
    clear hi
    have hkn : k < ns.length := by omega
    obtain ⟨b, off, rfl, hlm, hbb, hna, _⟩ := HN.out.elem hkn
    have HUP := Lib.hid hna.up
    have HSL := Lib.hid hna.bk.slot
    obtain ⟨hu0, hu1, hupp⟩ := up_path HOK.out hkn
    obtain ⟨u, hu⟩ : ∃ u, ns[k].up = u := ⟨_, rfl⟩
    obtain ⟨sl, hsl⟩ : ∃ sl, ns[k].b.slot = sl := ⟨_, rfl⟩
    rw [hu] at HUP hupp hu0 hu1
    obtain ⟨l, hl⟩ : ∃ l, (pathN ns u).length = l := ⟨_, rfl⟩
    have hpl : p = l := by have := HPP.out; rw [hupp, List.length_append, List.length_singleton, hl] at this; omega
    subst hpl
    have HNX : Hid (pathN ns x = pathN ns u ++ (k : Int) :: D) := by show _ = _; rw [HPX.out, hupp, List.append_assoc]; rfl
    have hrow := HROW.out
    rw [hupp, List.length_append, List.length_singleton, hl] at hrow
    have HSET := Lib.hid (set_rep l (k : Int) D)
    obtain ⟨X, hX⟩ : ∃ X, List.replicate (l + 1) 0 ++ D = X := ⟨_, rfl⟩
    have HXL : Hid (l < X.length) := by show l < _; rw [← hX]; simp; omega
    rw [hX] at hrow HSET
    have R3 := Lib.hid hrow
    have HLU := Lib.hid hl
    have hlL : (l : Int) < L := by
      have h1 := HL.out
      rw [HNX.out, List.length_append, hl, List.length_cons] at h1
      omega
    have HU2 := Lib.hid ((S3.out.b.cell (p := ⟨b, off + k * 240 + 238, none⟩) hbb).trans HUP.out)
    clear hlm hna hu hsl hupp HSL hl hX hrow
    go_wp2_with (first
      | ((with_reducible refine at_store (.tmp 21) ?_); refine wpList_store_num rfl 3 (.tmp 21) _ rfl g l .i64 X (k : Int) R3.out HXL.out rfl rfl rfl ?_; intro w4 U4 B4; rw [HSET.out] at B4; have S4 : Hid (PaS w #[.slice (some ⟨b, off, none⟩) m cap] w4) := ⟨U4.blk S3.out.t (by omega), U4.below S3.out.b (by omega)⟩; have HU4 := Lib.hid ((S4.out.b.cell (p := ⟨b, off + k * 240 + 238, none⟩) hbb).trans HUP.out); have R4 := Lib.hid B4; clear U4 B4)
      | ((with_reducible refine at_load (.tmp 22) ?_); refine wpList_load_1 23 (.tmp 22) rfl w.heap.size 0 (.slice (some ⟨b, off, none⟩) m cap) (S4.out.t.cell 0) rfl _ Try.underlying23 rfl rfl ?_)
      | ((with_reducible refine at_load (.tmp 26) ?_); refine wpList_load_1 3 (.tmp 26) rfl b (off + k * 240 + 238) (.int .i64 u) HU4.out rfl _ Try.underlying3 rfl rfl ?_))
    go_roundw
    case rel => exact ⟨u, (l : Int) - 1, (k : Int) :: D, by go_num, by go_num, by rw [HLU.out]; omega, HNX.out, by rw [HLU.out]; exact R4.out, S4.out⟩
    case measure => simp [intOf]
/-! ### Descendants -/

def DecI (w : World) (T : Array Value) (g : Nat) (ns : List NdD) (x m : Nat) (p : Nat → Bool) (dv cv : Value) (wr : World) : Prop :=
  ∃ k : Nat, x < k ∧ k ≤ m ∧ cv = .int .i64 k ∧ OwnK .i64 3 wr (g + 1) dv (selK p k) ∧ RowB wr g (bolL (undL ns (x : Int) m k)) ∧ PaS w T wr

theorem OwnK.offG {g : Nat} {wr : World} {v : Value} {xs : List Int} (h : OwnK .i64 3 wr (g + 1) v xs) : ∀ j, v.ownBlock = some j → g < j := fun j hj => by have := (h.lt j hj).1; omega

set_option maxHeartbeats 8000000 in
theorem ande_any (ns : List NdD) (hok : TrOK ns) (hlen : ns.length ≤ 100000) (x : Int) (v : Value) (w : World) (hN : NodesV w v ns) :
    Calls Try.prog 15 #[.agg #[v], .int .i64 x] w (SelE (descN ns x) w) := by
  obtain ⟨a, cap, rfl, hmx⟩ := hN.shape
  unfold maxLen at hmx
  have HIS := Lib.hid (fun (k : Int) u (hu : Below w.heap.size w u) => ani_any _ ns k u (hN.call hu))
  have HN := Lib.hid hN
  have HOK := Lib.hid hok
  have hi1 : (Try.prog.info? 25).map (·.size) = some 1 := by kernel_rfl
  obtain ⟨m, hm⟩ : ∃ m, Hid (ns.length = m) := ⟨_, Lib.hid rfl⟩
  rw [hm.out] at hmx HIS HN hlen ⊢
  have S0 := Lib.hid (pas_new w #[.slice a m cap] 25)
  have HII := Lib.hid info_int
  by_cases hx : 0 ≤ x ∧ x < m
  case neg =>
    have HX : Hid (decide (0 ≤ x ∧ x < (m : Int)) = false) := decide_eq_false hx
    have HR : Hid (descN ns x = []) := desc_out hok (by rw [hm.out]; exact hx)
    clear hN hok hx
    go_enter Try.func15, Try.ntmps15
    go_wp2_with (first
        | ((with_reducible refine at_load (.tmp 2) ?_); refine wpList_load_g 25 (.tmp 2) rfl w.heap.size rfl #[.slice a m cap] _ S0.out.t Try.underlying25 rfl hi1 rfl ?_)
        | (go_at_call 30; refine (HIS.out x _ S0.out.b).mono ?_; rintro e w1 ⟨rfl, hb⟩; rw [HX.out]; have S1 := Lib.hid (S0.out.call hb); clear hb))
    go_ret
    exact ⟨_, rfl, by rw [HR.out]; exact OwnK.nil _ _ _ _, S1.out.b⟩
  have HX : Hid (decide (0 ≤ x ∧ x < (m : Int)) = true) := decide_eq_true hx
  obtain ⟨z, rfl⟩ : ∃ z : Nat, x = z := ⟨x.toNat, by omega⟩
  have hzm : (z : Int) < m := hx.2
  have hzl : z < ns.length := by rw [hm.out]; omega
  have HF1 := Lib.hid (undL_first hok hzl m)
  have HF2 := Lib.hid (selK_first hok hzl)
  have HP : Hid (descN ns (z : Int) = selK (fun k => decide ((z : Int) ∈ pathN ns (k : Int))) m) := by show _ = _; unfold descN; rw [hm.out]
  clear hN hok hx
  go_enter Try.func15, Try.ntmps15
  go_wp2_with (first
    | ((with_reducible refine at_load (.tmp 2) ?_); refine wpList_load_g 25 (.tmp 2) rfl w.heap.size rfl #[.slice a m cap] _ S0.out.t Try.underlying25 rfl hi1 rfl ?_)
    | (go_at_call 30; refine (HIS.out (z : Int) _ S0.out.b).mono ?_; rintro e w1 ⟨rfl, hb⟩; rw [HX.out]; have S1 := Lib.hid (S0.out.call hb); clear hb)
    | ((with_reducible refine at_load (.tmp 12) ?_); refine wpList_load_1 23 (.tmp 12) rfl w.heap.size 0 (.slice a m cap) (S1.out.t.cell 0) rfl _ Try.underlying23 rfl rfl ?_)
    | ((with_reducible refine at_makeEl (.tmp 14) ?_); refine wpList_make_bol rfl (.tmp 14) rfl .i64 m rfl (by omega) ?_; intro w2 hb2 hr2; have S2 := Lib.hid (S1.out.call hb2); have R2 := Lib.hid hr2; clear hb2 hr2)
    | ((with_reducible refine at_store (.tmp 18) ?_); refine wpList_store_bol rfl 4 (.tmp 18) _ rfl w1.heap.size z (List.replicate m false) true R2.out (by rw [List.length_replicate]; omega) rfl rfl rfl ?_; intro w3 U3 B3; rw [HF1.out] at B3; have HW1 : Hid (w.heap.size < w1.heap.size) := S1.out.t.lt; have S3 : Hid (PaS w #[.slice a m cap] w3) := ⟨U3.blk S2.out.t (by have := HW1.out; omega), U3.below S2.out.b (by have := HW1.out; omega)⟩; have R3 := Lib.hid B3; clear U3 B3))
  obtain ⟨g, hg⟩ : ∃ g, w1.heap.size = g := ⟨_, rfl⟩
  have hgw : w.heap.size < g := by rw [← hg]; exact S1.out.t.lt
  rw [hg] at R3 ⊢
  have hg3 : g < w3.heap.size := R3.out.lt
  have hal : Below w3.heap.size w3 (w3.alloc (.cells #[.int .i64 (z : Int)] 3)) := (Below.refl _ _).alloc (Nat.le_refl _) _
  have HO4 : Hid (OwnK .i64 3 (w3.alloc (.cells #[.int .i64 (z : Int)] 3)) (g + 1) (.slice (some ⟨w3.heap.size, 0, none⟩) 1 1) [(z : Int)]) := own_one _ _ _ hg3
  have R4 := Lib.hid (R3.out.call hal)
  have S4 := Lib.hid (S3.out.call hal)
  obtain ⟨p, hp⟩ : ∃ p : Nat → Bool, (fun (k : Nat) => decide ((z : Int) ∈ pathN ns (k : Int))) = p := ⟨_, rfl⟩
  have HPP : Hid (∀ k : Nat, decide ((z : Int) ∈ pathN ns (k : Int)) = p k) := fun k => by rw [← hp]
  rw [hp] at HF2 HP
  clear hg hal hp hg3
  go_loopw [6, 7] (fun dv cv wr => DecI w #[.slice a m cap] g ns z m p dv cv wr) (fun _ cv _ => m - (intOf cv).toNat)
  case atStart => exact ⟨z + 1, by omega, by omega, by go_num, by rw [HF2.out]; exact HO4.out, R4.out, S4.out⟩
  case round =>
    obtain ⟨k, hzk, hkm, rfl, hown, hrow, hs⟩ := hrel
    have HOW := Lib.hid hown
    have R5 := Lib.hid hrow
    have S5 := Lib.hid hs
    have HXL := Lib.hid (selK_len p k)
    clear hown hrow hs
    by_cases hlt : k < m
    case neg =>
      obtain rfl : k = m := by omega
      go_wp2_with (first
        | ((with_reducible refine at_load (.tmp 24) ?_); refine wpList_load_1 23 (.tmp 24) rfl w.heap.size 0 (.slice a k cap) (S5.out.t.cell 0) rfl _ Try.underlying23 rfl rfl ?_))
      go_ret
      exact ⟨_, rfl, by rw [HP.out]; exact HOW.out.lower (by omega), S5.out.b⟩
    have hkm0 : (k : Int) < m := by omega
    have hkl : k < ns.length := by rw [hm.out]; omega
    have hk0 : 0 < k := by omega
    have hkn : k < ns.length := by omega
    obtain ⟨b, off, rfl, hlm, hbb, hna, _⟩ := HN.out.elem hkn
    have HUP := Lib.hid hna.up
    have HSL := Lib.hid hna.bk.slot
    obtain ⟨hu0, hu1, hupp⟩ := up_path HOK.out hkn
    have hun := HOK.out.upAt hkn hk0
    have hst := isan_step HOK.out hkn (a := (z : Int)) (by omega)
    rw [HPP.out k] at hst
    obtain ⟨u, hu⟩ : ∃ u, ns[k].up = u := ⟨_, rfl⟩
    obtain ⟨sl, hsl⟩ : ∃ sl, ns[k].b.slot = sl := ⟨_, rfl⟩
    rw [hu] at HUP hst hu0 hu1 hun
    obtain ⟨y, rfl⟩ : ∃ y : Nat, u = y := ⟨upAt ns k, hun.2.2⟩
    have hyl : y < m := by omega
    have hyk : y < k := by omega
    have hym : (y : Int) < m := by omega
    have HBC := Lib.hid (R5.out.bol (i := y) (by rw [undL_len]; exact hyl))
    rw [undL_get hyl hyk, ← hst] at HBC
    have HU2 := Lib.hid ((S5.out.b.cell (p := ⟨b, off + k * 240 + 238, none⟩) hbb).trans HUP.out)
    clear hlm hna hu hsl hupp hun HSL hst
    cases hpk : p k
    case false =>
      have HNX := Lib.hid (selK_no hpk)
      have HNU := Lib.hid (undL_no (m := m) ((HPP.out k).trans hpk))
      rw [hpk] at HBC
      clear hpk
      go_wp2_with (first
        | ((with_reducible refine at_load (.tmp 24) ?_); refine wpList_load_1 23 (.tmp 24) rfl w.heap.size 0 (.slice (some ⟨b, off, none⟩) m cap) (S5.out.t.cell 0) rfl _ Try.underlying23 rfl rfl ?_)
        | ((with_reducible refine at_load (.tmp 31) ?_); refine wpList_load_1 23 (.tmp 31) rfl w.heap.size 0 (.slice (some ⟨b, off, none⟩) m cap) (S5.out.t.cell 0) rfl _ Try.underlying23 rfl rfl ?_)
        | ((with_reducible refine at_load (.tmp 35) ?_); refine wpList_load_1 3 (.tmp 35) rfl b (off + k * 240 + 238) (.int .i64 (y : Int)) HU2.out rfl _ Try.underlying3 rfl rfl ?_)
        | ((with_reducible refine at_load (.tmp 37) ?_); refine wpList_load_1 4 (.tmp 37) rfl g y (.bool false) HBC.out rfl _ Try.underlying4 rfl rfl ?_))
      go_roundw
      case rel => exact ⟨k + 1, by omega, by omega, by go_num, by rw [HNX.out]; exact HOW.out, by rw [HNU.out]; exact R5.out, S5.out⟩
      case measure => simp [intOf]; omega
    case true =>
      have HNX := Lib.hid (selK_yes hpk)
      have HNU := Lib.hid (undL_set (m := m) ((HPP.out k).trans hpk))
      rw [hpk] at HBC
      clear hpk
      go_wp2_with (first
        | ((with_reducible refine at_load (.tmp 24) ?_); refine wpList_load_1 23 (.tmp 24) rfl w.heap.size 0 (.slice (some ⟨b, off, none⟩) m cap) (S5.out.t.cell 0) rfl _ Try.underlying23 rfl rfl ?_)
        | ((with_reducible refine at_load (.tmp 31) ?_); refine wpList_load_1 23 (.tmp 31) rfl w.heap.size 0 (.slice (some ⟨b, off, none⟩) m cap) (S5.out.t.cell 0) rfl _ Try.underlying23 rfl rfl ?_)
        | ((with_reducible refine at_load (.tmp 35) ?_); refine wpList_load_1 3 (.tmp 35) rfl b (off + k * 240 + 238) (.int .i64 (y : Int)) HU2.out rfl _ Try.underlying3 rfl rfl ?_)
        | ((with_reducible refine at_load (.tmp 37) ?_); refine wpList_load_1 4 (.tmp 37) rfl g y (.bool true) HBC.out rfl _ Try.underlying4 rfl rfl ?_)
        | ((with_reducible refine at_store (.tmp 41) ?_); refine wpList_store_bol rfl 4 (.tmp 41) _ rfl g k (undL ns (z : Int) m k) true R5.out (by rw [undL_len]; exact hlt) rfl rfl rfl ?_; intro w6 U6 B6; rw [HNU.out] at B6; have S6 : Hid (PaS w #[.slice (some ⟨b, off, none⟩) m cap] w6) := ⟨U6.blk S5.out.t (by omega), U6.below S5.out.b (by omega)⟩; have HO6 := Lib.hid (HOW.out.grown (upd_grown U6) (fun n hn e => by have := HOW.out.offG n hn; cases e; omega)); have R6 := Lib.hid B6; clear U6 B6)
        | ((with_reducible refine at_app (.tmp 42) (.tmp 44) ?_); refine wpList_app1 HII.out (by omega) Try.underlying22 (.tmp 42) (.tmp 44) rfl rfl (g + 1) _ _ rfl (HO6.out.grown (World.grownBy_alloc _ (.cells #[.int .i64 (k : Int)] 3) none) (fun n _ => by simp)) w6.heap.size 1 (k : Int) rfl ((Blk.new rfl).cell 0) (by have := HXL.out; omega) (by have := R6.out.lt; simp; omega) ?_; intro v7 w7 h7 g7 o7; rw [← HNX.out] at h7; have HO7 := Lib.hid h7; have S7 := Lib.hid ((S6.out.call ((Below.refl w6.heap.size w6).alloc (Nat.le_refl _) (.cells #[.int .i64 (k : Int)] 3))).grown g7 (fun j hj => by have := HO6.out.offG j hj; omega)); have R7 := Lib.hid ((R6.out.call ((Below.refl w6.heap.size w6).alloc (Nat.le_refl _) (.cells #[.int .i64 (k : Int)] 3))).grown g7 (fun e => by have := HO6.out.offG _ e.symm; omega)); clear h7 g7 o7))
      go_roundw
      case rel => exact ⟨k + 1, by omega, by omega, by go_num, HO7.out, R7.out, S7.out⟩
      case measure => simp [intOf]; omega
end Go.Proofs.Ytdbkphkgjaecoaa
