/- ancestry's At, Heir. (Written by gen/ana-gen.py.) -/
import Derived.Test.YtdbkphkgjaecoaaAnA
set_option linter.unusedVariables false

set_option linter.unusedSimpArgs false
namespace Go.Proofs.Ytdbkphkgjaecoaa
open Go.RowKit

set_option maxRecDepth 100000
/-! ### At -/

def AtcI (w : World) (T : Array Value) (ns : List NdD) (s r : Int) (iv : Value) (wr : World) : Prop :=
  ∃ i : Int, -1 ≤ i ∧ i < ns.length ∧ iv = .int .i64 i ∧ atP ns i s = r ∧ PaS w T wr

set_option maxHeartbeats 8000000 in
theorem anat_any (ns : List NdD) (hok : TrOK ns) (x s : Int) (v : Value) (w : World) (hN : NodesV w v ns) :
    Calls Try.prog 20 #[.agg #[v], .int .i64 x, .int .u64 s] w fun e w' => e = .returned (.int .i64 (atP ns x s)) ∧ Below w.heap.size w w' := by
  obtain ⟨a, cap, rfl, hmx⟩ := hN.shape
  unfold maxLen at hmx
  have HIS := Lib.hid (fun (k : Int) u (hu : Below w.heap.size w u) => ani_any _ ns k u (hN.call hu))
  have HN := Lib.hid hN
  have HOK := Lib.hid hok
  have hi1 : (Try.prog.info? 25).map (·.size) = some 1 := by kernel_rfl
  obtain ⟨m, hm⟩ : ∃ m, Hid (ns.length = m) := ⟨_, Lib.hid rfl⟩
  rw [hm.out] at hmx HIS HN ⊢
  have S0 := Lib.hid (pas_new w #[.slice a m cap] 25)
  obtain ⟨r, hr⟩ : ∃ r, Hid (atP ns x s = r) := ⟨_, Lib.hid rfl⟩
  by_cases hx : 0 ≤ x ∧ x < m
  case neg =>
    have HX : Hid (decide (0 ≤ x ∧ x < (m : Int)) = false) := decide_eq_false hx
    have HR : Hid (atP ns x s = -1) := atP_out (by rw [hm.out]; exact hx)
    rw [HR.out]
    clear hN hok hx hr
    go_enter Try.func20, Try.ntmps20
    go_wp2_with (first
        | ((with_reducible refine at_load (.tmp 3) ?_); refine wpList_load_g 25 (.tmp 3) rfl w.heap.size rfl #[.slice a m cap] _ S0.out.t Try.underlying25 rfl hi1 rfl ?_)
        | (go_at_call 30; refine (HIS.out x _ S0.out.b).mono ?_; rintro e w1 ⟨rfl, hb⟩; rw [HX.out]; have S1 := Lib.hid (S0.out.call hb); clear hb))
    go_ret
    exact ⟨rfl, S1.out.b⟩
  have HX : Hid (decide (0 ≤ x ∧ x < (m : Int)) = true) := decide_eq_true hx
  rw [hr.out]
  have HXR := Lib.hid hx
  clear hN hok hx
  go_enter Try.func20, Try.ntmps20
  go_wp2_with (first
      | ((with_reducible refine at_load (.tmp 3) ?_); refine wpList_load_g 25 (.tmp 3) rfl w.heap.size rfl #[.slice a m cap] _ S0.out.t Try.underlying25 rfl hi1 rfl ?_)
      | (go_at_call 30; refine (HIS.out x _ S0.out.b).mono ?_; rintro e w1 ⟨rfl, hb⟩; rw [HX.out]; have S1 := Lib.hid (S0.out.call hb); clear hb))
  go_loopw [1] (fun iv wr => AtcI w #[.slice a m cap] ns s r iv wr) (fun iv _ => (intOf iv + 1).toNat)
  case atStart => exact ⟨x, by have := HXR.out; omega, by have := HXR.out; rw [hm.out]; omega, rfl, hr.out, S1.out⟩
  case round =>
    obtain ⟨i, hi0, hil, rfl, hrr, hs⟩ := hrel
    have S3 := Lib.hid hs
    have HRR := Lib.hid hrr
    clear hs hrr
    by_cases hi : i = -1
    · subst hi
      have HQ : Hid (r = -1) := by show r = -1; rw [← HRR.out]; exact atP_out (by omega)
      go_wp2_with fail
      go_ret
      exact ⟨by rw [HQ.out]; rfl, S3.out.b⟩
    obtain ⟨k, rfl⟩ : ∃ k : Nat, i = k := ⟨i.toNat, by omega⟩
    have hne : ((k : Int) != -1) = true := by simp
    have hkm0 : (k : Int) < m := by rw [← hm.out]; omega
    have hkn : k < ns.length := by omega
    obtain ⟨b, off, rfl, hlm, hbb, hna, _⟩ := HN.out.elem hkn
    have HUP := Lib.hid hna.up
    have HSL := Lib.hid hna.bk.slot
    obtain ⟨hu0, hu1, hupp⟩ := up_path HOK.out hkn
    have HST := Lib.hid (atP_step HOK.out hkn s)
    obtain ⟨u, hu⟩ : ∃ u, ns[k].up = u := ⟨_, rfl⟩
    obtain ⟨sl, hsl⟩ : ∃ sl, ns[k].b.slot = sl := ⟨_, rfl⟩
    rw [hu] at HUP HST hu0 hu1
    rw [hsl] at HSL HST
    have HU2 := Lib.hid ((S3.out.b.cell (p := ⟨b, off + k * 240 + 238, none⟩) hbb).trans HUP.out)
    have HS2 := Lib.hid ((S3.out.b.cell (p := ⟨b, off + k * 240 + 66, none⟩) hbb).trans HSL.out)
    clear hlm hna hu hsl hupp hi HSL
    by_cases hgt : s < sl
    · have HNX : Hid (atP ns u s = r) := by show _ = r; rw [← HRR.out, HST.out, if_neg (by omega)]
      have hul : u < ns.length := by omega
      go_wp2_with (first
        | ((with_reducible refine at_load (.tmp 14) ?_); refine wpList_load_1 23 (.tmp 14) rfl w.heap.size 0 (.slice (some ⟨b, off, none⟩) m cap) (S3.out.t.cell 0) rfl _ Try.underlying23 rfl rfl ?_)
        | ((with_reducible refine at_load (.tmp 24) ?_); refine wpList_load_1 23 (.tmp 24) rfl w.heap.size 0 (.slice (some ⟨b, off, none⟩) m cap) (S3.out.t.cell 0) rfl _ Try.underlying23 rfl rfl ?_)
        | ((with_reducible refine at_load (.tmp 19) ?_); refine wpList_load_1 34 (.tmp 19) rfl b (off + k * 240 + 66) (.int .u64 sl) HS2.out rfl _ Try.underlying34 rfl rfl ?_)
        | ((with_reducible refine at_load (.tmp 28) ?_); refine wpList_load_1 3 (.tmp 28) rfl b (off + k * 240 + 238) (.int .i64 u) HU2.out rfl _ Try.underlying3 rfl rfl ?_))
      go_roundw
      case rel => exact ⟨u, hu0, hul, by go_num, HNX.out, S3.out⟩
      case measure => simp [intOf]; omega
    · have HQ : Hid (r = k) := by show r = _; rw [← HRR.out, HST.out, if_pos (by omega)]
      have hgt' : (s < sl) = False := eq_false hgt
      clear hgt
      go_wp2_with (first
        | ((with_reducible refine at_load (.tmp 14) ?_); refine wpList_load_1 23 (.tmp 14) rfl w.heap.size 0 (.slice (some ⟨b, off, none⟩) m cap) (S3.out.t.cell 0) rfl _ Try.underlying23 rfl rfl ?_)
        | ((with_reducible refine at_load (.tmp 24) ?_); refine wpList_load_1 23 (.tmp 24) rfl w.heap.size 0 (.slice (some ⟨b, off, none⟩) m cap) (S3.out.t.cell 0) rfl _ Try.underlying23 rfl rfl ?_)
        | ((with_reducible refine at_load (.tmp 19) ?_); refine wpList_load_1 34 (.tmp 19) rfl b (off + k * 240 + 66) (.int .u64 sl) HS2.out rfl _ Try.underlying34 rfl rfl ?_)
        | ((with_reducible refine at_load (.tmp 28) ?_); refine wpList_load_1 3 (.tmp 28) rfl b (off + k * 240 + 238) (.int .i64 u) HU2.out rfl _ Try.underlying3 rfl rfl ?_))
      go_ret
      exact ⟨by rw [HQ.out]; rfl, S3.out.b⟩
/-! ### Heir -/

def HecI (w : World) (T : Array Value) (ns : List NdD) (x r : Int) (bv : Value) (wr : World) : Prop :=
  ∃ k : Nat, k < ns.length ∧ x ∈ pathN ns (k : Int) ∧ x ≠ k ∧ bv = .int .i64 k ∧ heirN ns x (k : Int) = r ∧ PaS w T wr

theorem heirN_self {ns : List NdD} (h : TrOK ns) (x : Int) : heirN ns x x = -1 := by
  by_cases hx : 0 ≤ x ∧ x < ns.length
  · obtain ⟨k, rfl⟩ : ∃ k : Nat, x = k := ⟨x.toNat, by omega⟩
    have hk : k < ns.length := by omega
    refine heirN_no h hk fun hm => ?_
    have h1 := path_le h hm
    have h2 := (up_path h hk).2.1
    omega
  · exact heirN_out hx

theorem heirN_not {ns : List NdD} (h : TrOK ns) {x y : Int} (hn : x ∉ pathN ns y) : heirN ns x y = -1 := by
  by_cases hx : 0 ≤ y ∧ y < ns.length
  · obtain ⟨k, rfl⟩ : ∃ k : Nat, y = k := ⟨y.toNat, by omega⟩
    have hk : k < ns.length := by omega
    exact heirN_no h hk fun hm => hn ((path_up h hk).2 (.inl hm))
  · exact heirN_out hx

set_option maxHeartbeats 8000000 in
theorem anhe_any (ns : List NdD) (hok : TrOK ns) (x y : Int) (v : Value) (w : World) (hN : NodesV w v ns) :
    Calls Try.prog 17 #[.agg #[v], .int .i64 x, .int .i64 y] w fun e w' => e = .returned (.int .i64 (heirN ns x y)) ∧ Below w.heap.size w w' := by
  obtain ⟨a, cap, rfl, hmx⟩ := hN.shape
  unfold maxLen at hmx
  have HIS := Lib.hid (fun (x y : Int) u (hu : Below w.heap.size w u) => anis_any ns hok x y _ u (hN.call hu))
  have HN := Lib.hid hN
  have HOK := Lib.hid hok
  have hi1 : (Try.prog.info? 25).map (·.size) = some 1 := by kernel_rfl
  obtain ⟨m, hm⟩ : ∃ m, Hid (ns.length = m) := ⟨_, Lib.hid rfl⟩
  rw [hm.out] at hmx HIS HN ⊢
  have S0 := Lib.hid (pas_new w #[.slice a m cap] 25)
  obtain ⟨r, hr⟩ : ∃ r, Hid (heirN ns x y = r) := ⟨_, Lib.hid rfl⟩
  rw [hr.out]
  by_cases he : x = y
  · subst he
    have HR : Hid (r = -1) := by show r = -1; rw [← hr.out]; exact heirN_self hok x
    clear hN hok
    go_enter Try.func17, Try.ntmps17
    go_wp2_with fail
    go_ret
    exact ⟨by rw [HR.out]; rfl, S0.out.b⟩
  have hne : (x == y) = false := by simpa using he
  by_cases hx : x ∈ pathN ns y
  case neg =>
    have HX : Hid (decide (x ∈ pathN ns y) = false) := decide_eq_false hx
    have HR : Hid (r = -1) := by show r = -1; rw [← hr.out]; exact heirN_not hok hx
    clear hN hok hx he
    go_enter Try.func17, Try.ntmps17
    go_wp2_with (first
        | ((with_reducible refine at_load (.tmp 3) ?_); refine wpList_load_g 25 (.tmp 3) rfl w.heap.size rfl #[.slice a m cap] _ S0.out.t Try.underlying25 rfl hi1 rfl ?_)
        | (go_at_call 13; refine (HIS.out x y _ S0.out.b).mono ?_; rintro e w1 ⟨rfl, hb⟩; rw [HX.out]; have S1 := Lib.hid (S0.out.call hb); clear hb))
    go_ret
    exact ⟨by rw [HR.out]; rfl, S1.out.b⟩
  have HX : Hid (decide (x ∈ pathN ns y) = true) := decide_eq_true hx
  have HXM := Lib.hid hx
  have HNE := Lib.hid he
  have HYN := Lib.hid (path_node hx)
  clear hN hok hx he
  go_enter Try.func17, Try.ntmps17
  go_wp2_with (first
      | ((with_reducible refine at_load (.tmp 3) ?_); refine wpList_load_g 25 (.tmp 3) rfl w.heap.size rfl #[.slice a m cap] _ S0.out.t Try.underlying25 rfl hi1 rfl ?_)
      | (go_at_call 13; refine (HIS.out x y _ S0.out.b).mono ?_; rintro e w1 ⟨rfl, hb⟩; rw [HX.out]; have S1 := Lib.hid (S0.out.call hb); clear hb))
  go_loopw [2] (fun bv wr => HecI w #[.slice a m cap] ns x r bv wr) (fun bv _ => (intOf bv).toNat)
  case atStart =>
    obtain ⟨k, hk⟩ : ∃ k : Nat, y = k := ⟨y.toNat, by have := HYN.out; omega⟩
    have h2 := HXM.out
    have h3 := hr.out
    have h4 := HYN.out
    have h5 := HNE.out
    rw [hk] at h2 h3 h4 h5
    exact ⟨k, by omega, h2, h5, by rw [hk], h3, S1.out⟩
  case round =>
    obtain ⟨k, hkl, hxk, hxn, rfl, hrr, hs⟩ := hrel
    have S3 := Lib.hid hs
    have HRR := Lib.hid hrr
    have hkm0 : (k : Int) < m := by rw [← hm.out]; omega
    clear hs hrr
    have hkn : k < ns.length := by omega
    obtain ⟨b, off, rfl, hlm, hbb, hna, _⟩ := HN.out.elem hkn
    have HUP := Lib.hid hna.up
    have HSL := Lib.hid hna.bk.slot
    obtain ⟨hu0, hu1, hupp⟩ := up_path HOK.out hkn
    have hxu := ((path_up HOK.out hkn).1 hxk).resolve_right hxn
    have HST := Lib.hid (heirN_up HOK.out hkn hxu)
    obtain ⟨u, hu⟩ : ∃ u, ns[k].up = u := ⟨_, rfl⟩
    obtain ⟨sl, hsl⟩ : ∃ sl, ns[k].b.slot = sl := ⟨_, rfl⟩
    rw [hu] at HUP HST hu0 hu1 hxu
    have HXU := Lib.hid hxu
    have HUN := Lib.hid (path_node hxu)
    have HU2 := Lib.hid ((S3.out.b.cell (p := ⟨b, off + k * 240 + 238, none⟩) hbb).trans HUP.out)
    clear hlm hna hu hsl hupp HSL hxk hxn hxu
    by_cases hux : u = x
    · have hbe : (u != x) = false := by simpa using hux
      have HQ : Hid (r = k) := by show r = _; rw [← HRR.out, HST.out, if_pos hux]
      clear hux
      go_wp2_with (first
        | ((with_reducible refine at_load (.tmp 17) ?_); refine wpList_load_1 23 (.tmp 17) rfl w.heap.size 0 (.slice (some ⟨b, off, none⟩) m cap) (S3.out.t.cell 0) rfl _ Try.underlying23 rfl rfl ?_)
        | ((with_reducible refine at_load (.tmp 25) ?_); refine wpList_load_1 23 (.tmp 25) rfl w.heap.size 0 (.slice (some ⟨b, off, none⟩) m cap) (S3.out.t.cell 0) rfl _ Try.underlying23 rfl rfl ?_)
        | ((with_reducible refine at_load (.tmp 21) ?_); refine wpList_load_1 3 (.tmp 21) rfl b (off + k * 240 + 238) (.int .i64 u) HU2.out rfl _ Try.underlying3 rfl rfl ?_)
        | ((with_reducible refine at_load (.tmp 29) ?_); refine wpList_load_1 3 (.tmp 29) rfl b (off + k * 240 + 238) (.int .i64 u) HU2.out rfl _ Try.underlying3 rfl rfl ?_))
      go_ret
      exact ⟨by rw [HQ.out]; rfl, S3.out.b⟩
    · have hbe : (u != x) = true := by simpa using hux
      have HNX : Hid (heirN ns x u = r) := by show _ = r; rw [← HRR.out, HST.out, if_neg hux]
      have HNE2 : Hid (x ≠ u) := fun e => hux e.symm
      clear hux
      obtain ⟨z, rfl⟩ : ∃ z : Nat, u = z := ⟨u.toNat, by have := HUN.out; omega⟩
      go_wp2_with (first
        | ((with_reducible refine at_load (.tmp 17) ?_); refine wpList_load_1 23 (.tmp 17) rfl w.heap.size 0 (.slice (some ⟨b, off, none⟩) m cap) (S3.out.t.cell 0) rfl _ Try.underlying23 rfl rfl ?_)
        | ((with_reducible refine at_load (.tmp 25) ?_); refine wpList_load_1 23 (.tmp 25) rfl w.heap.size 0 (.slice (some ⟨b, off, none⟩) m cap) (S3.out.t.cell 0) rfl _ Try.underlying23 rfl rfl ?_)
        | ((with_reducible refine at_load (.tmp 21) ?_); refine wpList_load_1 3 (.tmp 21) rfl b (off + k * 240 + 238) (.int .i64 (z : Int)) HU2.out rfl _ Try.underlying3 rfl rfl ?_)
        | ((with_reducible refine at_load (.tmp 29) ?_); refine wpList_load_1 3 (.tmp 29) rfl b (off + k * 240 + 238) (.int .i64 (z : Int)) HU2.out rfl _ Try.underlying3 rfl rfl ?_))
      go_roundw
      case rel => exact ⟨z, by omega, HXU.out, HNE2.out, by go_num, HNX.out, S3.out⟩
      case measure => simp [intOf]; omega
end Go.Proofs.Ytdbkphkgjaecoaa
