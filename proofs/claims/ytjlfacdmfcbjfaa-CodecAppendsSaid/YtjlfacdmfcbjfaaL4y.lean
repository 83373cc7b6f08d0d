/- Stage 4: the walk of CodecSticky. -/
import Derived.Test.YtjlfacdmfcbjfaaCdZ
import Derived.Test.YtjlfacdmfcbjfaaCdK
set_option linter.unusedVariables false
namespace Go.Proofs.Ytjlfacdmfcbjfaa
open Go.RowKit

theorem eq_zr (w : World) : Sem.run Try.prog (Op.equalIn 10000 25 (.agg (bytesV zeroR)) (.agg (bytesV zeroR))) w = .ok true w := by kernel_rfl
theorem eq_zw (w : World) : Sem.run Try.prog (Op.equalIn 10000 27 (.agg #[.int .u64 0, .int .u64 0, .int .u64 0, .int .u64 0]) (.agg #[.int .u64 0, .int .u64 0, .int .u64 0, .int .u64 0])) w = .ok true w := by kernel_rfl
theorem eq_zc (w : World) : Sem.run Try.prog (Op.equalIn 10000 30 (.agg (cpV 0 zeroR)) (.agg (cpV 0 zeroR))) w = .ok true w := by kernel_rfl

theorem bytesN_zero : bytesN 0 = zeroR := by decide +kernel

/-- What the failing reader says. -/
structure Stuck (z : List Int) (e : Int) : Prop where
  ne : e ≠ 0
  u : ∀ m, ruV z e m = 0 ∧ ruR z e m = z ∧ ruE z e m = e
  k : ∀ n, tkR z e n = z ∧ tkE z e n = e
  w : wV z e = zeroR
  b : bV z e = false ∧ bR z e = z ∧ bE z e = e
  y : ∀ m, byE z e m = e ∧ byV z e m = [] ∧ byR z e m = z
  c : cpE z e = e ∧ cpX z e = cpV 0 zeroR ∧ cpR z e = z
  cl : closeF z e = e

theorem stuck {z : List Int} {e : Int} (h : e ≠ 0) : Stuck z e := by
  have hu : ∀ m, ruV z e m = 0 ∧ ruR z e m = z ∧ ruE z e m = e := fun m => by
    unfold ruV ruR ruE
    rw [if_pos h, if_pos h, if_pos h]
    exact ⟨rfl, rfl, rfl⟩
  have hk : ∀ n, tkR z e n = z ∧ tkE z e n = e := fun n => by
    unfold tkR tkE
    rw [if_pos h, if_pos h]
    exact ⟨rfl, rfl⟩
  have hy : ∀ m, byE z e m = e := fun m => by
    unfold byE byE1
    rw [(hu _).2.2, if_pos h]
  have hc : cpE z e = e := by
    unfold cpE cpR1 cpE1
    rw [(hu _).2.2, (hu _).2.1, (hk _).2]
  refine ⟨h, hu, hk, ?_, ⟨?_, ?_, ?_⟩, fun m => ⟨hy m, ?_, ?_⟩, ⟨hc, ?_, ?_⟩, ?_⟩
  · unfold wV; rw [if_neg (fun h' => h h'.1)]
  · unfold bV; exact decide_eq_false (fun h' => h h'.1)
  · unfold bR; rw [if_neg (fun h' => h h'.1)]
  · unfold bE; rw [if_pos h]
  · unfold byV; rw [hy, if_neg h]
  · unfold byR; rw [hy, if_neg h]
  · unfold cpX; rw [hc, if_neg h]
  · unfold cpR; rw [hc, if_neg h]
  · unfold closeF; rw [if_pos h]

theorem bytes_neg (z : List Int) : byE z 0 (-1) ≠ 0 ∧ byV z 0 (-1) = [] ∧ byR z 0 (-1) = z := by
  have h : byE z 0 (-1) ≠ 0 := by
    unfold byE
    split
    · assumption
    · rw [if_pos (by omega)]; omega
  exact ⟨h, by unfold byV; rw [if_neg h], by unfold byR; rw [if_neg h]⟩

set_option maxRecDepth 100000 in
set_option maxHeartbeats 8000000 in
theorem walk_CodecSticky (a0 : Option Addr) (len0 cap0 : Nat) (z0 : List Int) (a1 : Int) (w : World) (w0 : IsRow .u8 w a0 len0 cap0 z0) (w1 : (Lit.int .i64 a1).wf = true) :
    Calls Try.prog 7 #[.slice a0 len0 cap0, .int .i64 a1] w fun e w' => e = .returned (.bool true) ∧ Below w.heap.size w w' := by
  have h := w0.byt
  clear w0 w1
  obtain ⟨z, hz⟩ : ∃ z, z0.take len0 = z := ⟨_, rfl⟩
  rw [hz] at h
  clear hz
  obtain ⟨a', l', c', e', hl, _, _⟩ := h.ints
  cases e'
  have hm := (h.fits _ _ _ rfl)
  unfold maxLen at hm
  have hm2 : len0 ≤ 9223372036854775807 := by omega
  clear hm
  by_cases hb : 1000 < len0
  · go_enter Try.func7, Try.ntmps7
    go_wp2_with (go_at_call 9; refine (awake4 _).mono ?_; rintro e w1 ⟨rfl, hb1⟩)
    go_ret
    exact ⟨rfl, hb1⟩
  have D0 := newr_any _ z w h (by omega)
  obtain ⟨hE, hV, hR⟩ := bytes_neg z
  have DB := fun g w h => bytes_any' g z 0 (-1) w h (by omega) (by omega) (by omega)
  rw [hV, hR] at DB
  obtain ⟨E, HE⟩ : ∃ E, byE z 0 (-1) = E := ⟨_, rfl⟩
  rw [HE] at DB hE
  have st := stuck (z := z) hE
  have DU := fun g w h => uint_any g z E 18446744073709551615 w h (by omega) (by omega)
  rw [(st.u _).1, (st.u _).2.1, (st.u _).2.2] at DU
  have DO := fun g w h => boolr_any g z E w h
  rw [st.b.1, st.b.2.1, st.b.2.2] at DO
  have DR := fun g w h => root_any g z E w h
  rw [st.w, (st.k _).1, (st.k _).2] at DR
  have DW := fun g w h => wide_any g z E 0 w h W256.zero (by rw [st.w, bytesN_zero])
  rw [(st.k _).1, (st.k _).2, limbs_zero.1, limbs_zero.2.1, limbs_zero.2.2.1, limbs_zero.2.2.2] at DW
  have DY := fun g w h => bytes_any' g z E 1000 w h (by omega) (by omega) (by omega)
  rw [(st.y _).1, (st.y _).2.1, (st.y _).2.2] at DY
  have DC := fun g w h => check_any g z E w h
  rw [st.c.1, st.c.2.1, st.c.2.2] at DC
  have DE := fun g w h => err_any g z E w h
  have DT := fun g w h => rest_any g z E w h
  have DL := fun g w h => close_any g z E w h
  rw [st.cl] at DL
  rw [hl] at DT
  have q1 := eq_zr
  have q2 := eq_zw
  have q3 := eq_zc
  have hneq : (E == 0) = false := by simpa using hE
  obtain ⟨Z, hZ⟩ : ∃ Z, bytesV zeroR = Z := ⟨_, rfl⟩
  have hsz : Z.size = 32 := by rw [← hZ]; rfl
  obtain ⟨hz32, _⟩ := zero_array (P := Try.prog) (t := 25) (n := 32) Z (by rw [← hZ]; kernel_rfl) hsz (by rw [← hZ]; kernel_rfl)
  obtain ⟨Y, hY⟩ : ∃ Y, cpV 0 zeroR = Y := ⟨_, rfl⟩
  have hsy : Y.size = 33 := by rw [← hY]; exact cpV_size zeroR_is
  obtain ⟨hz33, _⟩ := zero_array (P := Try.prog) (t := 30) (n := 33) Y (by rw [← hY]; kernel_rfl) hsy (by rw [← hY]; kernel_rfl)
  rw [hZ] at q1 DR
  rw [hY] at q3 DC
  have H0 := Lib.hid D0; clear D0
  have HB := Lib.hid DB; clear DB
  have HU := Lib.hid DU; clear DU
  have HO := Lib.hid DO; clear DO
  have HR := Lib.hid DR; clear DR
  have HW := Lib.hid DW; clear DW
  have HY := Lib.hid DY; clear DY
  have HC := Lib.hid DC; clear DC
  have HER := Lib.hid DE; clear DE
  have HT := Lib.hid DT; clear DT
  have HL := Lib.hid DL; clear DL
  clear hE hV hR HE st hZ hY h hl
  have tok1 : True := trivial
  go_enter Try.func7, Try.ntmps7
  go_wp2_with (first
    | (go_at_call 24; refine H0.out.mono ?_; rintro en w1 ⟨g, rfl, hr, hgB, hb1⟩; have HX := Lib.hid hr; clear hr; have HBL := Lib.hid hb1; clear hb1)
    | (go_at_call 29; have _t := tok1; refine (HB.out _ _ HX.out).mono ?_; rintro en w2 ⟨v2, rfl, _, hr, hg⟩; have HX := Lib.hid hr; clear hr; have HBL := Lib.hid (HBL.out.trans (grownBy_below hg hgB HBL.out.size)); clear hg _t tok1)
    | (go_at_call 30; refine (HER.out _ _ HX.out).mono ?_; rintro en w2 ⟨rfl, rfl⟩)
    | (go_at_call 31; refine (HT.out _ _ HX.out).mono ?_; rintro en w2 ⟨rfl, rfl⟩)
    | (go_at_call 33; refine (HL.out _ _ HX.out).mono ?_; rintro en w2 ⟨rfl, rfl⟩)
    | (go_at_call 25; refine (HU.out _ _ HX.out).mono ?_; rintro en w2 ⟨rfl, hr, hg⟩; have HX := Lib.hid hr; clear hr; have HBL := Lib.hid (HBL.out.trans (grownBy_below hg hgB HBL.out.size)); clear hg)
    | (go_at_call 26; refine (HO.out _ _ HX.out).mono ?_; rintro en w2 ⟨rfl, hr, hg⟩; have HX := Lib.hid hr; clear hr; have HBL := Lib.hid (HBL.out.trans (grownBy_below hg hgB HBL.out.size)); clear hg)
    | (go_at_call 27; refine (HR.out _ _ HX.out).mono ?_; rintro en w2 ⟨rfl, hr, hg⟩; have HX := Lib.hid hr; clear hr; have HBL := Lib.hid (HBL.out.trans (grownBy_below hg hgB HBL.out.size)); clear hg)
    | (go_at_call 28; refine (HW.out _ _ HX.out).mono ?_; rintro en w2 ⟨rfl, hr, hg⟩; have HX := Lib.hid hr; clear hr; have HBL := Lib.hid (HBL.out.trans (grownBy_below hg hgB HBL.out.size)); clear hg)
    | (go_at_call 29; refine (HY.out _ _ HX.out).mono ?_; rintro en w2 ⟨v2, rfl, hy2, hr, hg⟩; obtain ⟨_, _, _, rfl, hl2, _⟩ := hy2.ints; obtain rfl := hl2; clear hy2; have HX := Lib.hid hr; clear hr; have HBL := Lib.hid (HBL.out.trans (grownBy_below hg hgB HBL.out.size)); clear hg)
    | (go_at_call 32; refine (HC.out _ _ HX.out).mono ?_; rintro en w2 ⟨rfl, hr, hg⟩; have HX := Lib.hid hr; clear hr; have HBL := Lib.hid (HBL.out.trans (grownBy_below hg hgB HBL.out.size)); clear hg)
    | (go_at_call 9; refine (awake4 _).mono ?_; rintro e w1 ⟨rfl, hb1⟩))
  go_ret
  exact ⟨rfl, HBL.out.trans (hb1.mono HBL.out.size)⟩

end Go.Proofs.Ytjlfacdmfcbjfaa
