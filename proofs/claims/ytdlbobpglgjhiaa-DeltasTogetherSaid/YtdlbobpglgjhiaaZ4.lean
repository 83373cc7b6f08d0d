/- Several texts as one: WgB, WgC, SbT, WgD, WgE, LwS. -/
import Derived.Test.YtdlbobpglgjhiaaWgA
import Derived.Test.YtdlbobpglgjhiaaRmK
import Derived.Test.YtdlbobpglgjhiaaZ1
import Derived.Test.YtdlbobpglgjhiaaZ0
import Derived.Laws.CopyOwn
import Derived.Test.YtdlbobpglgjhiaaZ2
import Derived.Deep.CutRange
namespace Go.Proofs.Ytdlbobpglgjhiaa

/-! WgB -/
section
set_option linter.unusedVariables false
set_option linter.unusedSimpArgs false
open Go.RowKit Go.Maps
open RM (WtI)

set_option maxRecDepth 100000

/-- The sum of the balances hs of the first k validators that vote for this root. -/
def dbrK (vs : List VoD) (hs : List Int) (r : List Int) : Nat → Int
  | 0 => 0
  | k + 1 => if (vs.getD k zeV).has = true ∧ r = (vs.getD k zeV).r then IntKind.u64.wrap (dbrK vs hs r k + hs.getD k 0) else dbrK vs hs r k

theorem dbrK_out {vs : List VoD} {hs : List Int} {k : Nat} (h : (vs.getD k zeV).has = false) (r : List Int) : dbrK vs hs r (k + 1) = dbrK vs hs r k := by
  show (if _ then _ else _) = _
  rw [if_neg (by rw [h]; simp)]

theorem dbrK_in {vs : List VoD} {hs : List Int} {k : Nat} (h : (vs.getD k zeV).has = true) (s : List Int) : dbrK vs hs s (k + 1) = if s = (vs.getD k zeV).r then IntKind.u64.wrap (dbrK vs hs (vs.getD k zeV).r k + hs.getD k 0) else dbrK vs hs s k := by
  show (if _ then _ else _) = _
  by_cases e : s = (vs.getD k zeV).r
  · rw [if_pos ⟨h, e⟩, if_pos e, e]
  · rw [if_neg (fun x => e x.2), if_neg e]

theorem dbrK_past {vs : List VoD} (hs : List Int) (r : List Int) {k : Nat} (h : ¬ k < vs.length) : dbrK vs hs r (k + 1) = dbrK vs hs r k :=
  dbrK_out (by rw [List.getD, List.getElem?_eq_none (by omega)]; rfl) r

/-- What holds at the loop's head. -/
structure DbL (w : World) (lv ev : Value) (vs : List VoD) (hs : List Int) (hv : Value) (k q : Nat) (u : World) : Prop where
  t : Blk u w.heap.size #[lv, ev]
  m : WtI u (w.heap.size + 1) q (fun r => dbrK vs hs r k)
  h : HoR (w.heap.size + 2) hv hs u
  b : Below w.heap.size w u

theorem HoR.grown {u u' : World} {B g : Nat} {v : Value} {l : List Int} (h : HoR B v l u) (hg : u.grownBy u' (some g)) (hl : g < B) : HoR B v l u' := by
  refine ⟨Nat.le_trans h.lt hg.size, h.mx, ?_⟩
  rcases h.row with h1 | ⟨q, c, e, h2, h3⟩
  · exact .inl h1
  · exact .inr ⟨q, c, e, h2, h3.grown hg (by simp; omega)⟩

theorem DbL.call {w u u' : World} {lv ev hv : Value} {vs : List VoD} {hs : List Int} {k q : Nat} (h : DbL w lv ev vs hs hv k q u) (hb : Below u.heap.size u u') : DbL w lv ev vs hs hv k q u' :=
  ⟨h.t.call hb, h.m.call hb, h.h.call hb, h.b.trans (hb.mono h.b.size)⟩

theorem DbL.wide {w u : World} {lv ev hv : Value} {vs : List VoD} {hs : List Int} {k q q' : Nat} (h : DbL w lv ev vs hs hv k q u) (hq : q ≤ q') : DbL w lv ev vs hs hv k q' u := ⟨h.t, h.m.wide hq, h.h, h.b⟩

theorem DbL.turned {w u u' : World} {lv ev hv : Value} {vs : List VoD} {hs : List Int} {k q k' q' : Nat} (h : DbL w lv ev vs hs hv k q u) (hg : u.grownBy u' (some (w.heap.size + 1))) (hm : WtI u' (w.heap.size + 1) q' (fun r => dbrK vs hs r k')) : DbL w lv ev vs hs hv k' q' u' :=
  ⟨h.t.grown hg (by simp), hm, h.h.grown hg (by omega), h.b.grown hg h.b.size (fun n e => by cases e; omega)⟩

theorem DbL.look {w u : World} {lv ev hv : Value} {vs : List VoD} {hs : List Int} {k q : Nat} {r : List Int} {R : List Value} {F0 : Int} (h : DbL w lv ev vs hs hv k q u) (hr : IsBytes 32 r) (hR : bytesL r = R) (hF : dbrK vs hs r k = F0) :
    (Instr.lookup 85 (.map (some (w.heap.size + 1))) (.agg R.toArray) false).run Try.prog u = .ok (.int .u64 F0) u := by
  rw [← hR, ← hF]; exact h.m.look hr

theorem vo_rt {w : World} {b o : Nat} {dh : Bool} {dn : Int} {dr : List Int} (h : w.rangeAt b o (VoD.mk dh dn dr).cells) : w.rangeAt b (o + 2) (bytesL dr) := fun j v hj => by
  have := h (2 + j) v (by show (Value.bool dh :: Value.int .u64 dn :: bytesL dr)[2 + j]? = some v; rw [show 2 + j = j + 2 by omega]; simpa using hj)
  rw [show o + 2 + j = o + (2 + j) by omega]; exact this

set_option maxHeartbeats 8000000 in
theorem dbr_any (lv ev bv : Value) (vs : List VoD) (es bs : List Int) (w : World) (hV : VotesV w lv vs) (hE : IntsV w ev es) (hB : NumsV w bv bs) (hl : bs.length ≤ 1000000) :
    Calls Try.prog 38 #[.agg #[lv, ev], bv] w fun e w' => ∃ mb, e = .returned (.map (some mb)) ∧ w.heap.size ≤ mb ∧ WtI w' mb bs.length (fun r => dbrK vs (honL es bs) r bs.length) ∧ Below w.heap.size w w' := by
  obtain ⟨va, vc, rfl, hmv⟩ := ElV.shape hV
  unfold maxLen at hmv
  have HV := Lib.hid hV
  have HH := Lib.hid (fun u (hu : Below w.heap.size w u) => honest_any (.slice va vs.length vc) ev bv es bs u (hE.below hu) ⟨hB.1.below hu, hB.2⟩ hl)
  have HHL := Lib.hid (honL_len es bs)
  obtain ⟨hs, hhs⟩ : ∃ hs, honL es bs = hs := ⟨_, rfl⟩
  rw [hhs] at HH HHL ⊢
  obtain ⟨n, hn⟩ : ∃ n, Hid (bs.length = n) := ⟨_, Lib.hid rfl⟩
  rw [hn.out] at HHL hl ⊢
  obtain ⟨m, hm⟩ : ∃ m, Hid (vs.length = m) := ⟨_, Lib.hid rfl⟩
  rw [hm.out] at hmv HV HH ⊢
  have hmm := @run_makeMap Try.prog
  have hi2 : (Try.prog.info? 44).map (·.size) = some 2 := by kernel_rfl
  have HB2 : Hid (Below w.heap.size w ((w.alloc (.cells #[.slice va m vc, ev] 44)).alloc (.map #[] 0))) := ((Below.refl w.heap.size w).alloc (Nat.le_refl _) _).alloc (by simp) _
  have HX2 : Hid (Blk ((w.alloc (.cells #[.slice va m vc, ev] 44)).alloc (.map #[] 0)) w.heap.size #[.slice va m vc, ev]) := (Blk.new rfl).alloc _
  have HM2 : Hid (WtI ((w.alloc (.cells #[.slice va m vc, ev] 44)).alloc (.map #[] 0)) (w.heap.size + 1) 0 (fun _ => 0)) := by
    have h := WtI.made (w.alloc (.cells #[.slice va m vc, ev] 44))
    have e : (w.alloc (.cells #[.slice va m vc, ev] 44)).heap.size = w.heap.size + 1 := by simp
    rw [e] at h
    exact h
  have HS2 : Hid (((w.alloc (.cells #[.slice va m vc, ev] 44)).alloc (.map #[] 0)).heap.size = w.heap.size + 2) := by show _ = _; simp
  clear hV hE hB hhs
  go_enter Try.func38, Try.ntmps38
  go_wp2_with (first
    | ((with_reducible refine at_load (.tmp 2) ?_); refine wpList_load_g 44 (.tmp 2) rfl w.heap.size rfl #[.slice va m vc, ev] _ HX2.out Try.underlying44 rfl hi2 rfl ?_)
    | (go_at_call 45; refine (HH.out _ HB2.out).mono ?_; rintro e w3 ⟨v3, rfl, hr3, hb3⟩; obtain ⟨a1, c1, rfl⟩ := hr3.shape; rw [HHL.out] at hr3 ⊢; have HL0 : Hid (DbL w (.slice va m vc) ev vs hs (.slice a1 n c1) 0 0 w3) := ⟨HX2.out.call hb3, (HM2.out.call hb3).congr (fun r _ => rfl), by have h := hr3; rw [HS2.out] at h; exact ⟨by have := h.lt; omega, h.mx, h.row.imp id (fun ⟨g, c, e, h2, h3⟩ => ⟨g, c, e, by omega, h3⟩)⟩, HB2.out.trans (hb3.mono HB2.out.size)⟩; clear hr3 hb3))
  go_loopw [13, 6, 7] (fun i _ _ wr => ∃ k : Nat, k ≤ n ∧ i = .int .i64 k ∧ DbL w (.slice va m vc) ev vs hs (.slice a1 n c1) k k wr) (fun i _ _ _ => n - (intOf i).toNat)
  case atStart => exact ⟨0, Nat.zero_le _, rfl, HL0.out⟩
  case round =>
    obtain ⟨k, hk, rfl, hL⟩ := hrel
    have HL := Lib.hid hL
    clear hL HL0 HB2 HX2 HM2 HS2
    by_cases hlt : k < n
    case neg =>
      obtain rfl : k = n := by omega
      go_wp2_with fail
      go_ret
      exact ⟨_, rfl, by omega, HL.out.m, HL.out.b⟩
    have hlt' : (k : Int) < n := by omega
    rcases HL.out.h.row with ⟨h1, _⟩ | ⟨g, c, hsl, hgB, hrow⟩
    · rw [h1] at HHL; have := HHL.out; simp at this; omega
    rw [HHL.out] at hsl
    cases hsl
    have HCB := Lib.hid (hrow.num (i := k) (by rw [HHL.out]; exact hlt))
    clear hrow
    obtain ⟨B0, hB0⟩ : ∃ B0, Hid (hs.getD k 0 = B0) := ⟨_, Lib.hid rfl⟩
    rw [hB0.out] at HCB
    have HC0 := Lib.hid (HL.out.t.cell 0)
    by_cases hkm : k < m
    case neg =>
      have hkm' : ¬ (k : Int) < m := by omega
      have HPA := Lib.hid (fun r => dbrK_past (vs := vs) hs r (k := k) (by rw [hm.out]; exact hkm))
      go_wp2_with (first
        | ((with_reducible refine at_load (.tmp 16) ?_); refine wpList_load_1 53 (.tmp 16) rfl g k (.int .u64 B0) HCB.out rfl _ Try.underlying53 rfl rfl ?_)
        | ((with_reducible refine at_load (.tmp 19) ?_); refine wpList_load_1 42 (.tmp 19) rfl w.heap.size 0 (.slice va m vc) HC0.out rfl _ Try.underlying42 rfl rfl ?_))
      go_roundw
      case rel => exact ⟨k + 1, by omega, by go_num, HL.out.t, (HL.out.m.wide (Nat.le_succ k)).congr (fun r _ => (HPA.out r).symm), HL.out.h, HL.out.b⟩
      case measure => simp [intOf]; omega
    have hkm' : (k : Int) < m := by omega
    obtain ⟨vb, off, rfl, _hlv, hvb, hra, hok⟩ := VotesV.elem HV.out (by rw [hm.out]; exact hkm)
    obtain ⟨d, hd⟩ : ∃ d, Hid (vs.getD k zeV = d) := ⟨_, Lib.hid rfl⟩
    rw [hd.out] at hra hok
    obtain ⟨dh, dn, dr⟩ := d
    have HOK : Hid (IsBytes 32 dr) := Lib.hid hok.2.2
    have HRR := Lib.hid (vo_rt hra)
    have HCH : Hid (wr.cell? ⟨vb, off + k * 34, none⟩ = some (.bool dh)) := by
      show wr.cell? _ = _
      have h := Below.rng HL.out.b hvb hra
      have := h 0 (.bool dh) rfl
      simpa using this
    have HHAS : Hid ((vs.getD k zeV).has = dh) := by show _ = _; rw [hd.out]
    have HDR : Hid ((vs.getD k zeV).r = dr) := by show _ = _; rw [hd.out]
    clear hra hok _hlv
    cases dh
    case false =>
      have HPA := Lib.hid (fun r => dbrK_out (hs := hs) HHAS.out r)
      go_wp2_with (first
        | ((with_reducible refine at_load (.tmp 16) ?_); refine wpList_load_1 53 (.tmp 16) rfl g k (.int .u64 B0) HCB.out rfl _ Try.underlying53 rfl rfl ?_)
        | ((with_reducible refine at_load (.tmp 19) ?_); refine wpList_load_1 42 (.tmp 19) rfl w.heap.size 0 (.slice (some ⟨vb, off, none⟩) m vc) HC0.out rfl _ Try.underlying42 rfl rfl ?_)
        | ((with_reducible refine at_load (.tmp 24) ?_); refine wpList_load_1 42 (.tmp 24) rfl w.heap.size 0 (.slice (some ⟨vb, off, none⟩) m vc) HC0.out rfl _ Try.underlying42 rfl rfl ?_)
        | ((with_reducible refine at_load (.tmp 28) ?_); refine wpList_load_1 4 (.tmp 28) rfl vb (off + k * 34) (.bool false) HCH.out rfl _ Try.underlying4 rfl rfl ?_))
      go_roundw
      case rel => exact ⟨k + 1, by omega, by go_num, HL.out.t, (HL.out.m.wide (Nat.le_succ k)).congr (fun r _ => (HPA.out r).symm), HL.out.h, HL.out.b⟩
      case measure => simp [intOf]; omega
    case true =>
      go_wp2_with (first
        | ((with_reducible refine at_load (.tmp 16) ?_); refine wpList_load_1 53 (.tmp 16) rfl g k (.int .u64 B0) HCB.out rfl _ Try.underlying53 rfl rfl ?_)
        | ((with_reducible refine at_load (.tmp 19) ?_); refine wpList_load_1 42 (.tmp 19) rfl w.heap.size 0 (.slice (some ⟨vb, off, none⟩) m vc) HC0.out rfl _ Try.underlying42 rfl rfl ?_)
        | ((with_reducible refine at_load (.tmp 24) ?_); refine wpList_load_1 42 (.tmp 24) rfl w.heap.size 0 (.slice (some ⟨vb, off, none⟩) m vc) HC0.out rfl _ Try.underlying42 rfl rfl ?_)
        | ((with_reducible refine at_load (.tmp 28) ?_); refine wpList_load_1 4 (.tmp 28) rfl vb (off + k * 34) (.bool true) HCH.out rfl _ Try.underlying4 rfl rfl ?_))
      obtain ⟨R, HRX⟩ : ∃ R, Hid (bytesL dr = R) := ⟨_, Lib.hid rfl⟩
      rw [HRX.out] at HRR
      have hiR : (Try.prog.info? 57).map (·.size) = some R.length := by rw [← HRX.out, bytesL_len HOK.out]; kernel_rfl
      obtain ⟨F0, HF0⟩ : ∃ F0, Hid (dbrK vs hs dr k = F0) := ⟨_, Lib.hid rfl⟩
      obtain ⟨X1, HX1⟩ : ∃ X1, Hid (IntKind.u64.wrap (F0 + B0) = X1) := ⟨_, Lib.hid rfl⟩
      have HIN : Hid (∀ s, dbrK vs hs s (k + 1) = if s = dr then X1 else dbrK vs hs s k) := fun s => by
        have h := dbrK_in (hs := hs) HHAS.out s
        rw [HDR.out, HF0.out, hB0.out, HX1.out] at h
        exact h
      obtain ⟨x4, hx4⟩ : ∃ x, wr.drew = x := ⟨_, rfl⟩
      have hbd : Below wr.heap.size wr x4 := by rw [← hx4]; exact below_drew wr
      have SD : Hid (DbL w (.slice (some ⟨vb, off, none⟩) m vc) ev vs hs (.slice (some ⟨g, 0, none⟩) n c1) k (k + 1) x4) := (HL.out.call hbd).wide (Nat.le_succ k)
      have HM4 : Hid (WtI x4 (w.heap.size + 1) k (fun r => dbrK vs hs r k)) := HL.out.m.call hbd
      clear HL HC0 HCH HCB
      refine wp_region_k (S := fun u' => DbL w (.slice (some ⟨vb, off, none⟩) m vc) ev vs hs (.slice (some ⟨g, 0, none⟩) n c1) k (k + 1) u') (k := 12) (by kernel_rfl) ?_
      rw [hx4]
      clear hx4 hbd
      (try simp only [Act.put, List.setIfInBounds_toArray, List.set_cons_zero, List.set_cons_succ])
      refine wpAnyK_take (i := 0) (oi := ⟨some 31, _, _, _, _, _⟩) (v := .map (some (w.heap.size + 1))) [0] rfl (by kernel_rfl) (by kernel_rfl) (by kernel_rfl) (by kernel_rfl) (fun _ _ _ h => h) (Or.inl ⟨by rfl, fun wz hz => ?_⟩) SD.out ?_
      · clear hz; go_simp; first | done | with_reducible rfl | rfl
      (try simp only [Act.put, List.setIfInBounds_toArray, List.set_cons_zero, List.set_cons_succ])
      refine wpAnyK_take (i := 1) (oi := ⟨some 32, _, _, _, _, _⟩) (v := .pointer (some ⟨w.heap.size, 0, none⟩)) [1] rfl (by kernel_rfl) (by kernel_rfl) (by kernel_rfl) (by kernel_rfl) (fun _ _ _ h => h) (Or.inl ⟨by rfl, fun wz hz => ?_⟩) SD.out ?_
      · clear hz; go_simp; first | done | with_reducible rfl | rfl
      (try simp only [Act.put, List.setIfInBounds_toArray, List.set_cons_zero, List.set_cons_succ])
      refine k_load1 (oi := ⟨some 33, _, _, _, _, _⟩) 2 [2] rfl (by kernel_rfl) (by kernel_rfl) (by kernel_rfl) (by kernel_rfl) (fun _ _ _ _ h => h) rfl 42 (.tmp 32) rfl w.heap.size 0 rfl (.slice (some ⟨vb, off, none⟩) m vc) _ (fun u' hu => hu.t.cell 0) Try.underlying42 rfl SD.out ?_
      (try simp only [Act.put, List.setIfInBounds_toArray, List.set_cons_zero, List.set_cons_succ])
      refine wpAnyK_take (i := 3) (oi := ⟨some 34, _, _, _, _, _⟩) (v := .int .i64 k) [3] rfl (by kernel_rfl) (by kernel_rfl) (by kernel_rfl) (by kernel_rfl) (fun _ _ _ h => h) (Or.inl ⟨by rfl, fun wz hz => ?_⟩) SD.out ?_
      · clear hz; go_simp; first | done | with_reducible rfl | rfl
      (try simp only [Act.put, List.setIfInBounds_toArray, List.set_cons_zero, List.set_cons_succ])
      refine wpAnyK_take (i := 4) (oi := ⟨some 35, _, _, _, _, _⟩) (v := .pointer (some ⟨vb, off + k * 34, none⟩)) [4] rfl (by kernel_rfl) (by kernel_rfl) (by kernel_rfl) (by kernel_rfl) (fun _ _ _ h => h) (Or.inl ⟨by rfl, fun wz hz => ?_⟩) SD.out ?_
      · clear hz; go_simp; first | done | with_reducible rfl | rfl
      (try simp only [Act.put, List.setIfInBounds_toArray, List.set_cons_zero, List.set_cons_succ])
      refine wpAnyK_take (i := 5) (oi := ⟨some 36, _, _, _, _, _⟩) (v := .pointer (some ⟨vb, off + k * 34 + 2, none⟩)) [5] rfl (by kernel_rfl) (by kernel_rfl) (by kernel_rfl) (by kernel_rfl) (fun _ _ _ h => h) (Or.inl ⟨by rfl, fun wz hz => ?_⟩) SD.out ?_
      · clear hz; go_simp; first | done | with_reducible rfl | rfl
      (try simp only [Act.put, List.setIfInBounds_toArray, List.set_cons_zero, List.set_cons_succ])
      refine k_load (oi := ⟨some 37, _, _, _, _, _⟩) 6 [6] rfl (by kernel_rfl) (by kernel_rfl) (by kernel_rfl) (by kernel_rfl) (fun _ _ _ _ h => h) rfl 57 (.tmp 36) rfl vb (off + k * 34 + 2) rfl R _ (fun u' hu => Below.rng hu.b hvb HRR.out) Try.underlying57 rfl (hiR) SD.out ?_
      (try simp only [Act.put, List.setIfInBounds_toArray, List.set_cons_zero, List.set_cons_succ])
      refine k_look (oi := ⟨some 38, _, _, _, _, _⟩) 7 [7] rfl (by kernel_rfl) (by kernel_rfl) (by kernel_rfl) (by kernel_rfl) (fun _ _ _ _ h => h) rfl 85 (.tmp 31) (.tmp 37) rfl _ _ (.int .u64 F0) rfl rfl (fun u' hu => hu.look HOK.out HRX.out HF0.out) SD.out ?_
      (try simp only [Act.put, List.setIfInBounds_toArray, List.set_cons_zero, List.set_cons_succ])
      refine wpAnyK_take (i := 8) (oi := ⟨some 39, _, _, _, _, _⟩) (v := .int .u64 B0) [8] rfl (by kernel_rfl) (by kernel_rfl) (by kernel_rfl) (by kernel_rfl) (fun _ _ _ h => h) (Or.inl ⟨by rfl, fun wz hz => ?_⟩) SD.out ?_
      · clear hz; go_simp; first | done | with_reducible rfl | rfl
      (try simp only [Act.put, List.setIfInBounds_toArray, List.set_cons_zero, List.set_cons_succ])
      refine wpAnyK_take (i := 9) (oi := ⟨some 40, _, _, _, _, _⟩) (v := .int .u64 X1) [9] rfl (by kernel_rfl) (by kernel_rfl) (by kernel_rfl) (by kernel_rfl) (fun _ _ _ h => h) (Or.inl ⟨by rfl, fun wz hz => ?_⟩) SD.out ?_
      · clear hz; rw [← HX1.out]; go_simp; first | done | with_reducible rfl | rfl
      (try simp only [Act.put, List.setIfInBounds_toArray, List.set_cons_zero, List.set_cons_succ])
      obtain ⟨v0, st, w7, hme, hm7, hg7, hst⟩ := HM4.out.entry HOK.out (by unfold maxLen; omega)
      have hme' : (Instr.mapEntry 85 (.map (some (w.heap.size + 1))) (.agg R.toArray)).run Try.prog x4 = .ok (.tuple #[v0, goInt st]) w7 := by rw [← HRX.out]; exact hme
      have SD7 : Hid (DbL w (.slice (some ⟨vb, off, none⟩) m vc) ev vs hs (.slice (some ⟨g, 0, none⟩) n c1) k (k + 1) w7) := SD.out.turned hg7 hm7
      refine wpAnyK_one (o := ⟨some 41, _, _, _, _, _⟩) (i := 10) (by kernel_rfl) rfl (fun K hK => ?_)
      rw [if_pos (by rfl)]
      refine wp_mapEntry 85 (.tmp 31) (.tmp 37) rfl _ _ _ rfl rfl hme' ?_
      refine hK.out _ _ SD7.out ?_
      clear hK K hme hme' SD
      have SD := SD7
      clear SD7
      (try simp only [Act.put, List.setIfInBounds_toArray, List.set_cons_zero, List.set_cons_succ])
      refine wpAnyK_take (i := 11) (oi := ⟨some 42, _, _, _, _, _⟩) (v := goInt st) [11] rfl (by kernel_rfl) (by kernel_rfl) (by kernel_rfl) (by kernel_rfl) (fun _ _ _ h => h) (Or.inl ⟨by rfl, fun wz hz => ?_⟩) SD.out ?_
      · clear hz; go_simp; first | done | with_reducible rfl | rfl
      (try simp only [Act.put, List.setIfInBounds_toArray, List.set_cons_zero, List.set_cons_succ])
      obtain ⟨w8, hes, hm8, hg8⟩ := hst w7 X1 rfl
      refine wpAnyK_last (o := ⟨none, _, _, _, _, _⟩) (i := 12) (by kernel_rfl) rfl (by kernel_rfl) (fun K hK => ?_)
      rw [if_pos (by rfl)]
      refine wp_entryStore 85 (.tmp 31) (.tmp 42) (.tmp 40) rfl _ _ _ rfl rfl rfl hes ?_
      refine hK.out _ _ ?_
      clear hK K hes hst hm7 hg7
      (try simp only [Act.put, List.setIfInBounds_toArray, List.set_cons_zero, List.set_cons_succ])
      refine wpAnyK_done (by kernel_rfl) ?_ _
      have H8 := Lib.hid (SD.out.turned hg8 (hm8.congr (fun s _ => (HIN.out s).symm)))
      clear hm8 hg8 SD
      go_wp2_with fail
      go_roundw
      case rel => exact ⟨k + 1, by omega, by go_num, H8.out⟩
      case measure => simp [intOf]; omega
end

/-! WgC -/
section
set_option linter.unusedVariables false
set_option linter.unusedSimpArgs false
open Go.RowKit Go.Maps
open RM (WtI)

set_option maxRecDepth 100000

theorem wpList_makeU {ops : Array Oper} {rest : List Oper} {o : Oper} {a : Act} {w : World} {Q : Exit → Act → World → Prop} (hg : o.guard = none) (l : Operand) (hop : o.op = Op.makeSlice 27 l l)
    (kl : IntKind) (n : Nat) (hl : a.eval l = .int kl (n : Int)) (hn : n ≤ 1000000)
    (hK : ∀ w', Below w.heap.size w w' → RowB w' w.heap.size (numL .u64 (List.replicate n 0)) → wpList Try.prog ops Q rest (a.put o.dst (.slice (some ⟨w.heap.size, 0, none⟩) n n)) w') : wpList Try.prog ops Q (o :: rest) a w := by
  obtain ⟨i0, hi0, hz0, hz1, hz2⟩ := info_parts info_u64c
  refine wpList_plain hg fun _ hK' => ?_
  have hr := run_make (P := Try.prog) w 27 53 i0 (.int .u64 0) Try.underlying27 hi0 hz0 kl kl n n (by omega) (by omega) (by rw [hz2]; omega) (by omega)
  simp only [Int.toNat_natCast, hz1, Nat.mul_one] at hr
  have hm : madeCells (Value.int .u64 0).cells n = flatP (numL .u64 (List.replicate n 0) ++ [[]]) := by
    apply Array.toList_inj.1
    rw [show (Value.int .u64 0).cells = #[Value.int .u64 0] from rfl, toList_madeCells_one]
    unfold flatP
    rw [List.flatten_append, numL_flat]
    simp
  rw [hm] at hr
  unfold Oper.wp
  simp only [execOp, hop, hl, Sem.run_bind, hr, Result.andThen, Sem.run_pure]
  exact hK' _ _ (hK _ ((Below.refl _ w).alloc (Nat.le_refl _) _) ⟨[], Blk.new rfl⟩)
/-! ### The code's sum by root is the reference's -/

theorem weiK_rng (vs : List VoD) (es bs : List Int) (rs : List (List Int)) : ∀ k, 0 ≤ weiK vs es bs rs k ∧ weiK vs es bs rs k ≤ 18446744073709551615
  | 0 => by show 0 ≤ (0 : Int) ∧ (0 : Int) ≤ _; omega
  | k + 1 => by
    cases h : weiP vs es rs k
    · rw [weiK_no h]; exact weiK_rng vs es bs rs k
    · rw [weiK_yes h]
      have := IntKind.wrap_u64 (weiK vs es bs rs k + bs.getD k 0)
      omega

theorem dbr_wei {vs : List VoD} {es bs : List Int} (hb : ∀ x ∈ bs, 0 ≤ x ∧ x ≤ 18446744073709551615) (r : List Int) : ∀ k, k ≤ bs.length → dbrK vs (honL es bs) r k = weiK vs es bs [r] k
  | 0, _ => rfl
  | k + 1, hk => by
    have ih := dbr_wei (vs := vs) (es := es) hb r k (by omega)
    have hg := honL_get es bs (show k < bs.length from hk)
    have hr := weiK_rng vs es bs [r] k
    cases hh : (vs.getD k zeV).has
    · rw [dbrK_out hh, ih, weiK_no (by unfold weiP; rw [hh]; rfl)]
    · rw [dbrK_in hh]
      by_cases e : r = (vs.getD k zeV).r
      · rw [if_pos e, ← e, ih, hg]
        by_cases h : (k : Int) ∈ es
        · rw [if_pos h, weiK_no (by unfold weiP; simp [h]), Int.add_zero, IntKind.wrap_u64]
          omega
        · rw [if_neg h, weiK_yes (by unfold weiP; rw [hh, ← e]; simp [h])]
      · rw [if_neg e, ih, weiK_no (by unfold weiP; simp; intro _ _ h; exact absurd h.symm e)]

theorem weiK_past {vs : List VoD} (es bs : List Int) (rs : List (List Int)) : ∀ {k : Nat}, vs.length ≤ k → weiK vs es bs rs k = weiK vs es bs rs vs.length
  | 0, h => by rw [Nat.le_zero.1 h]
  | k + 1, h => by
    by_cases e : vs.length = k + 1
    · rw [e]
    · rw [weiK_no (by unfold weiP; rw [show vs.getD k zeV = zeV by rw [List.getD, List.getElem?_eq_none (by omega)]; rfl]; rfl), weiK_past es bs rs (by omega)]

theorem dbr_weiN {vs : List VoD} {es bs : List Int} (hb : ∀ x ∈ bs, 0 ≤ x ∧ x ≤ 18446744073709551615) (r : List Int) : dbrK vs (honL es bs) r bs.length = weiN vs es bs [r] := by
  rw [dbr_wei hb r _ (Nat.le_refl _)]
  unfold weiN
  by_cases h : bs.length ≤ vs.length
  · rw [Nat.min_eq_left h]
  · rw [Nat.min_eq_right (by omega), weiK_past es bs [r] (by omega)]
/-! ### Direct -/

/-- The row behind k nodes. -/
def dirW (ns : List NdD) (vs : List VoD) (es bs : List Int) (m k : Nat) : List Int := dirL ns vs es bs k ++ List.replicate (m - k) 0

theorem dirW_len {ns : List NdD} (vs : List VoD) (es bs : List Int) {k : Nat} (hk : k ≤ ns.length) : (dirW ns vs es bs ns.length k).length = ns.length := by
  unfold dirW; rw [List.length_append, dirL_len vs es bs hk, List.length_replicate]; omega

theorem dirW_end {ns : List NdD} (vs : List VoD) (es bs : List Int) : dirW ns vs es bs ns.length ns.length = dirL ns vs es bs ns.length := by
  unfold dirW; rw [Nat.sub_self, List.replicate_zero, List.append_nil]

theorem dirW_set {ns : List NdD} (vs : List VoD) (es bs : List Int) {k : Nat} (hk : k < ns.length) : (dirW ns vs es bs ns.length k).set k (dirV vs es bs ns[k]) = dirW ns vs es bs ns.length (k + 1) := by
  unfold dirW
  rw [dirL_succ vs es bs hk, List.set_append_right _ _ (by rw [dirL_len vs es bs (by omega)]; exact Nat.le_refl _), dirL_len vs es bs (by omega), Nat.sub_self, show ns.length - k = (ns.length - (k + 1)) + 1 by omega, List.replicate_succ]
  simp

theorem dirW_keep {ns : List NdD} (vs : List VoD) (es bs : List Int) {k : Nat} (hk : k < ns.length) (h : dirV vs es bs ns[k] = 0) : dirW ns vs es bs ns.length (k + 1) = dirW ns vs es bs ns.length k := by
  unfold dirW
  rw [dirL_succ vs es bs hk, h, show ns.length - k = (ns.length - (k + 1)) + 1 by omega, List.replicate_succ]
  simp

/-- The boxes of the tree and the votes, the map, the row. -/
structure DiS (w : World) (T V : Array Value) (mb q g : Nat) (f : List Int → Int) (l : List Int) (u : World) : Prop where
  p : PaD w T V u
  m : WtI u mb q f
  r : RowB u g (numL .u64 l)
  mg : w.heap.size + 1 < mb ∧ mb < g

theorem DiS.upd {w u u' : World} {T V : Array Value} {mb q g : Nat} {f : List Int → Int} {l l' : List Int} (h : DiS w T V mb q g f l u) (U : Upd g u u') (hr : RowB u' g (numL .u64 l')) : DiS w T V mb q g f l' u' :=
  ⟨⟨U.blk h.p.t (by have := h.mg; omega), U.blk h.p.v (by have := h.mg; omega), U.below h.p.b (by have := h.mg; omega)⟩, h.m.grown (upd_grown U) (by have := h.mg; simp; omega), hr, h.mg⟩

set_option maxHeartbeats 8000000 in
theorem cdirect_any (ns : List NdD) (hlen : ns.length ≤ 100000) (v lv ev bv : Value) (vs : List VoD) (es bs : List Int) (w : World) (hN : NodesV w v ns) (hV : VotesV w lv vs) (hE : IntsV w ev es) (hB : NumsV w bv bs) (hl : bs.length ≤ 1000000) :
    Calls Try.prog 22 #[.agg #[v], .agg #[lv, ev], bv] w fun e w' => ∃ v', e = .returned v' ∧ HoR (w.heap.size + 1) v' (dirL ns vs es bs ns.length) w' ∧ Below w.heap.size w w' := by
  obtain ⟨a, cap, rfl, hmx⟩ := hN.shape
  unfold maxLen at hmx
  have HN := Lib.hid hN
  have HDB := Lib.hid (fun u (hu : Below w.heap.size w u) => dbr_any lv ev bv vs es bs u (hV.call hu) (hE.below hu) ⟨hB.1.below hu, hB.2⟩ hl)
  have HWN := Lib.hid (fun r => dbr_weiN (vs := vs) (es := es) hB.2 r)
  have HSET := Lib.hid (fun (k : Nat) (hk : k < ns.length) => dirW_set (ns := ns) vs es bs hk)
  have HKEEP := Lib.hid (fun (k : Nat) (hk : k < ns.length) => dirW_keep (ns := ns) vs es bs hk)
  have HLE := Lib.hid (fun (k : Nat) (hk : k ≤ ns.length) => dirW_len (ns := ns) vs es bs hk)
  have HEND := Lib.hid (dirW_end (ns := ns) vs es bs)
  have H0 : Hid (dirW ns vs es bs ns.length 0 = List.replicate ns.length 0) := Lib.hid (by simp [dirW, dirL])
  have hi1 : (Try.prog.info? 25).map (·.size) = some 1 := by kernel_rfl
  have hi2 : (Try.prog.info? 44).map (·.size) = some 2 := by kernel_rfl
  have hiu : (Try.prog.info? 53).map (·.size) = some 1 := by kernel_rfl
  obtain ⟨m, hm⟩ : ∃ m, Hid (ns.length = m) := ⟨_, Lib.hid rfl⟩
  rw [hm.out] at hmx HN hlen HLE HEND H0 ⊢
  obtain ⟨p, hp⟩ : ∃ p, bs.length = p := ⟨_, rfl⟩
  rw [hp] at HDB HWN
  have S0 := Lib.hid (pad_new w #[.slice a m cap] #[lv, ev] 25 44)
  have HS2 : Hid (((w.alloc (.cells #[.slice a m cap] 25)).alloc (.cells #[lv, ev] 44)).heap.size = w.heap.size + 2) := by show _ = _; simp
  clear hN hV hE hB hl hp
  go_enter Try.func22, Try.ntmps22
  go_wp2_with (first
    | ((with_reducible refine at_load (.tmp 4) ?_); refine wpList_load_g 44 (.tmp 4) rfl (w.heap.size + 1) (by first | rfl | simp [Act.eval]) #[lv, ev] _ S0.out.v Try.underlying44 rfl hi2 rfl ?_)
    | (go_at_call 38; refine (HDB.out _ S0.out.b).mono ?_; rintro e w1 ⟨mb, rfl, hmb, hm1, hb1⟩; have S1 := Lib.hid (S0.out.call hb1); have HM1 := Lib.hid hm1; have hmb1 : w.heap.size + 1 < mb := (by rw [HS2.out] at hmb; omega); have hmb2 := hm1.lt; have HC1 := Lib.hid (S1.out.t.cell 0); clear hm1 hb1 hmb HS2)
    | ((with_reducible refine at_load (.tmp 14) ?_); refine wpList_load_1 23 (.tmp 14) rfl w.heap.size 0 (.slice a m cap) HC1.out rfl _ Try.underlying23 rfl rfl ?_)
    | ((with_reducible refine at_makeEl (.tmp 16) ?_); refine wpList_makeU rfl (.tmp 16) rfl .i64 m rfl (by omega) ?_; intro w2 hb2 hr2; rw [← H0.out] at hr2; have S2 : Hid (DiS w #[.slice a m cap] #[lv, ev] mb p w1.heap.size (fun r => dbrK vs (honL es bs) r p) (dirW ns vs es bs m 0) w2) := ⟨S1.out.call hb2, HM1.out.call hb2, hr2, hmb1, hmb2⟩; clear hb2 hr2))
  obtain ⟨g, hg⟩ : ∃ g, w1.heap.size = g := ⟨_, rfl⟩
  rw [hg] at S2 ⊢
  clear hg
  go_loopw [20, 9, 10] (fun i _ _ wr => ∃ k : Nat, k ≤ m ∧ i = .int .i64 k ∧ DiS w #[.slice a m cap] #[lv, ev] mb p g (fun r => dbrK vs (honL es bs) r p) (dirW ns vs es bs m k) wr) (fun i _ _ _ => m - (intOf i).toNat)
  case atStart => exact ⟨0, Nat.zero_le _, rfl, S2.out⟩
  case round =>
    obtain ⟨k, hk, rfl, hs⟩ := hrel
    have S3 := Lib.hid hs
    have HC0 := Lib.hid (hs.p.t.cell 0)
    clear hs
    by_cases hlt : k < m
    case neg =>
      obtain rfl : k = m := by omega
      have HLX := HLE.out k (by omega)
      rw [HEND.out] at HLX
      have HLX := Lib.hid HLX
      go_wp2_with fail
      go_ret
      have HRR : RowB wr g (numL .u64 (dirL ns vs es bs k)) := by rw [← HEND.out]; exact S3.out.r
      exact ⟨_, rfl, ⟨by have := S3.out.r.lt; have := S3.out.mg; omega, by rw [HLX.out]; omega, .inr ⟨g, k, by rw [HLX.out]; rfl, by have := S3.out.mg; omega, HRR⟩⟩, S3.out.p.b⟩
    have hlt' : (k : Int) < m := by omega
    have hkn : k < ns.length := by rw [hm.out]; exact hlt
    have HK := Lib.hid (HKEEP.out k hkn)
    have HS := Lib.hid (HSET.out k hkn)
    obtain ⟨b, off, rfl, hlm, hbb, hna, hdk⟩ := HN.out.elem hkn
    obtain ⟨x, hx⟩ : ∃ x, ns[k] = x := ⟨_, rfl⟩
    rw [hx] at hna hdk HK HS
    rw [hm.out] at HK HS
    have HRK := Lib.hid hdk.1.2.2.2.1
    have HST := Lib.hid ((S3.out.p.b.cell (p := ⟨b, off + k * 240 + 239, none⟩) hbb).trans hna.st)
    have HRT := Lib.hid (Below.rng S3.out.p.b hbb hna.bk.root)
    have HDV : Hid (dirV vs es bs x = if x.st = 2 then 0 else weiN vs es bs [x.b.root]) := rfl
    obtain ⟨dv, hdv⟩ : ∃ z, dirV vs es bs x = z := ⟨_, rfl⟩
    obtain ⟨st, hst⟩ : ∃ z, x.st = z := ⟨_, rfl⟩
    rw [hdv, hst] at HDV
    rw [hdv] at HK HS
    rw [hst] at HST
    clear hlm hna hdk hx hdv hst
    by_cases h2 : st = 2
    · subst h2
      have HZ := Lib.hid (HK.out (by rw [HDV.out, if_pos rfl]))
      go_wp2_with (first
        | ((with_reducible refine at_load (.tmp 23) ?_); refine wpList_load_1 23 (.tmp 23) rfl w.heap.size 0 (.slice (some ⟨b, off, none⟩) m cap) HC0.out rfl _ Try.underlying23 rfl rfl ?_)
        | ((with_reducible refine at_load (.tmp 29) ?_); refine wpList_load_1 3 (.tmp 29) rfl b (off + k * 240 + 239) (.int .i64 2) HST.out rfl _ Try.underlying3 rfl rfl ?_))
      go_roundw
      case rel => exact ⟨k + 1, by omega, by go_num, by rw [HZ.out]; exact S3.out⟩
      case measure => simp [intOf]; omega
    · have h2' : (st == 2) = false := by simp [h2]
      have HD2 : Hid (dv = dbrK vs (honL es bs) x.b.root p) := by show _ = _; rw [HDV.out, if_neg h2, HWN.out]
      have hRl := bytesL_len HRK.out
      have HLK := Lib.hid (S3.out.m.look HRK.out)
      rw [← HD2.out] at HLK
      obtain ⟨R, hR⟩ : ∃ R, bytesL x.b.root = R := ⟨_, rfl⟩
      rw [hR] at HRT HLK hRl
      have hiR : (Try.prog.info? 57).map (·.size) = some R.length := by rw [hRl]; kernel_rfl
      clear hR hRl HD2
      go_wp2_with (first
        | ((with_reducible refine at_load (.tmp 23) ?_); refine wpList_load_1 23 (.tmp 23) rfl w.heap.size 0 (.slice (some ⟨b, off, none⟩) m cap) HC0.out rfl _ Try.underlying23 rfl rfl ?_)
        | ((with_reducible refine at_load (.tmp 29) ?_); refine wpList_load_1 3 (.tmp 29) rfl b (off + k * 240 + 239) (.int .i64 st) HST.out rfl _ Try.underlying3 rfl rfl ?_)
        | ((with_reducible refine at_load (.tmp 38) ?_); refine wpList_load_at 57 (.tmp 38) rfl b (off + k * 240 + 67) (by first | rfl | simp [Act.eval, Act.put]) R HRT.out _ Try.underlying57 rfl hiR rfl ?_)
        | ((with_reducible refine at_wlook (.tmp 34) (.tmp 39) ?_); refine wpList_look rfl _ (.tmp 34) (.tmp 39) false rfl _ _ _ rfl rfl HLK.out ?_)
        | ((with_reducible refine at_store (.tmp 41) ?_); refine wpList_store_num rfl 53 (.tmp 41) _ rfl g k .u64 (dirW ns vs es bs m k) dv S3.out.r (by rw [HLE.out k (by omega)]; exact hlt) (by first | rfl | simp [Act.eval, Act.put]) rfl hiu ?_; intro w4 U4 B4; rw [HS.out] at B4; have S4 := Lib.hid (S3.out.upd U4 B4); clear U4 B4))
      go_roundw
      case rel => exact ⟨k + 1, by omega, by go_num, S4.out⟩
      case measure => simp [intOf]; omega
end

/-! SbT -/
section
set_option linter.unusedVariables false
set_option linter.unusedSimpArgs false
open Go.RowKit

set_option maxRecDepth 100000
/-! ### Sums -/

def sumX (f : Nat → Int) : Nat → Int
  | 0 => 0
  | k + 1 => sumX f k + f k

theorem sumX_succ (f : Nat → Int) (k : Nat) : sumX f (k + 1) = sumX f k + f k := rfl

theorem sumX_congr {f g : Nat → Int} : ∀ {n : Nat}, (∀ k, k < n → f k = g k) → sumX f n = sumX g n
  | 0, _ => rfl
  | n + 1, h => by rw [sumX_succ, sumX_succ, sumX_congr (fun k hk => h k (by omega)), h n (by omega)]

theorem sumX_add (f g : Nat → Int) : ∀ n, sumX (fun k => f k + g k) n = sumX f n + sumX g n
  | 0 => rfl
  | n + 1 => by rw [sumX_succ, sumX_succ, sumX_succ, sumX_add f g n]; omega

theorem sumX_zero {f : Nat → Int} {n : Nat} (h : ∀ k, k < n → f k = 0) : sumX f n = 0 := by
  rw [sumX_congr (g := fun _ => 0) h]
  induction n with
  | zero => rfl
  | succ n ih => rw [sumX_succ, ih (fun k hk => h k (by omega))]; rfl

theorem sumX_one {f : Nat → Int} {n i : Nat} (hi : i < n) (h : ∀ k, k < n → k ≠ i → f k = 0) : sumX f n = f i := by
  induction n with
  | zero => omega
  | succ n ih =>
    rw [sumX_succ]
    by_cases e : i = n
    · subst e
      rw [sumX_zero (fun k hk => h k (by omega) (by omega))]; omega
    · rw [ih (by omega) (fun k hk hne => h k (by omega) hne), h n (by omega) (fun x => e x.symm)]; omega

theorem sumX_mul (f : Nat → Int) (c : Int) : ∀ n, sumX (fun k => f k * c) n = sumX f n * c
  | 0 => by simp [sumX]
  | n + 1 => by rw [sumX_succ, sumX_succ, sumX_mul f c n, Int.add_mul]

theorem sumX_swap (g : Nat → Nat → Int) (n : Nat) : ∀ m, sumX (fun x => sumX (fun c => g x c) n) m = sumX (fun c => sumX (fun x => g x c) m) n
  | 0 => by
    show (0 : Int) = _
    rw [sumX_zero]; intro k _; rfl
  | m + 1 => by
    rw [sumX_succ, sumX_swap g n m, ← sumX_add]
    exact sumX_congr (fun k _ => rfl)

theorem sumX_le {f g : Nat → Int} : ∀ {n : Nat}, (∀ k, k < n → f k ≤ g k) → sumX f n ≤ sumX g n
  | 0, _ => Int.le_refl _
  | n + 1, h => by
    rw [sumX_succ, sumX_succ]
    have h1 := sumX_le (fun k hk => h k (by omega)) (f := f) (g := g) (n := n)
    have h2 := h n (by omega)
    omega

theorem sumX_pos {f : Nat → Int} {n : Nat} (h : ∀ k, k < n → 0 ≤ f k) : 0 ≤ sumX f n := by
  have := sumX_le (f := fun _ => 0) (g := f) (n := n) h
  rw [sumX_zero (fun k _ => rfl)] at this
  exact this
/-! ### The reference's sums -/

theorem u64_two (a b : Int) : IntKind.u64.wrap (IntKind.u64.wrap a + b) = IntKind.u64.wrap (a + b) := by
  rw [IntKind.wrap_u64, IntKind.wrap_u64, IntKind.wrap_u64]; omega

theorem u64_two' (a b : Int) : IntKind.u64.wrap (a + IntKind.u64.wrap b) = IntKind.u64.wrap (a + b) := by
  rw [IntKind.wrap_u64, IntKind.wrap_u64, IntKind.wrap_u64]; omega

theorem sumDl_app (dl d e : List Int) : ∀ j, j ≤ d.length → sumDl dl (d ++ e) j = sumDl dl d j
  | 0, _ => rfl
  | j + 1, h => by
    rw [sumDl_succ, sumDl_succ, sumDl_app dl d e j (by omega)]
    have : (d ++ e).getD j 0 = d.getD j 0 := by
      simp only [List.getD_eq_getElem?_getD]
      rw [List.getElem?_append_left (by omega)]
    rw [this]

theorem sumDl_sel (dl : List Int) (p : Nat → Bool) : ∀ k, sumDl dl (selK p k) (selK p k).length = IntKind.u64.wrap (sumX (fun x => if p x = true then dl.getD x 0 else 0) k)
  | 0 => by show (0 : Int) = _; rw [show sumX _ 0 = 0 from rfl]; rfl
  | k + 1 => by
    have ih := sumDl_sel dl p k
    rw [sumX_succ]
    cases h : p k
    · rw [selK_no h, ih]; simp
    · rw [selK_yes h, List.length_append, List.length_singleton, sumDl_succ, sumDl_app _ _ _ _ (Nat.le_refl _), ih, u64_two]
      have : (selK p k ++ [(k : Int)]).getD (selK p k).length 0 = (k : Int) := by
        simp [List.getD_eq_getElem?_getD]
      rw [this]; simp
/-! ### The exact weights of subtrees -/

def ancB (ns : List NdD) (j x : Nat) : Bool := decide ((j : Int) ∈ pathN ns (x : Int))

def sbX (ns : List NdD) (f : Nat → Int) (j : Nat) : Int := sumX (fun x => if ancB ns j x = true then f x else 0) ns.length

theorem sbt_X (ns : List NdD) (dl : List Int) (j : Nat) : sbtV ns dl (j : Int) = IntKind.u64.wrap (sbX ns (fun x => dl.getD x 0) j) := by
  unfold sbtV descN
  rw [sumDl_sel]
  rfl

theorem sbtL_get (ns : List NdD) (dl : List Int) : ∀ (k : Nat) {j : Nat}, j < k → (sbtL ns dl k).getD j 0 = IntKind.u64.wrap (sbX ns (fun x => dl.getD x 0) j)
  | k + 1, j, h => by
    rw [sbtL_succ]
    have hl := sbtL_len ns dl k
    by_cases e : j < k
    · rw [show (sbtL ns dl k ++ [sbtV ns dl (k : Int)]).getD j 0 = (sbtL ns dl k).getD j 0 by simp only [List.getD_eq_getElem?_getD]; rw [List.getElem?_append_left (by omega)], sbtL_get ns dl k e]
    · obtain rfl : j = k := by omega
      rw [← sbt_X]
      simp only [List.getD_eq_getElem?_getD]
      rw [List.getElem?_append_right (by omega), hl, Nat.sub_self]; rfl

theorem upI_bd {ns : List NdD} (h : TrOK ns) {x : Nat} (hx : x < ns.length) : -1 ≤ upI ns x ∧ upI ns x < x := by
  rw [upI_at hx]; have := up_path h hx; exact ⟨this.1, this.2.1⟩

theorem ancB_up {ns : List NdD} (h : TrOK ns) {x : Nat} (hx : x < ns.length) (j : Nat) : ancB ns j x = true ↔ ((0 ≤ upI ns x ∧ ancB ns j (upI ns x).toNat = true) ∨ j = x) := by
  unfold ancB
  rw [decide_eq_true_iff, decide_eq_true_iff, path_up h hx, upI_at hx]
  have hb := up_path h hx
  constructor
  · rintro (h1 | h1)
    · have := path_le h h1
      have h0 : 0 ≤ ns[x].up := by omega
      exact .inl ⟨h0, by rw [Int.toNat_of_nonneg h0]; exact h1⟩
    · exact .inr (by omega)
  · rintro (⟨h0, h1⟩ | h1)
    · rw [Int.toNat_of_nonneg h0] at h1; exact .inl h1
    · exact .inr (by omega)

theorem ancB_le {ns : List NdD} (h : TrOK ns) {j x : Nat} (ha : ancB ns j x = true) : j ≤ x := by
  unfold ancB at ha
  rw [decide_eq_true_iff] at ha
  have := path_le h ha
  omega

theorem ancB_self {ns : List NdD} (h : TrOK ns) {x : Nat} (hx : x < ns.length) : ancB ns x x = true := by
  unfold ancB; rw [decide_eq_true_iff]; exact path_self h hx

/-- On the way from x up to j there is exactly one child of j. -/
theorem one_child {ns : List NdD} (h : TrOK ns) {j : Nat} : ∀ (B x : Nat), x < B → x < ns.length →
    sumX (fun c => if upI ns c = (j : Int) ∧ ancB ns c x = true then 1 else 0) ns.length = if ancB ns j x = true ∧ x ≠ j then 1 else 0
  | B + 1, x, hB, hx => by
    have hub := upI_bd h hx
    have hsp : sumX (fun c => if upI ns c = (j : Int) ∧ ancB ns c x = true then (1 : Int) else 0) ns.length
        = sumX (fun c => if upI ns c = (j : Int) ∧ 0 ≤ upI ns x ∧ ancB ns c (upI ns x).toNat = true then (1 : Int) else 0) ns.length + (if upI ns x = (j : Int) then 1 else 0) := by
      have e1 : (if upI ns x = (j : Int) then (1 : Int) else 0) = sumX (fun c => if c = x ∧ upI ns x = (j : Int) then (1 : Int) else 0) ns.length := by
        rw [sumX_one hx (fun k _ hne => by rw [if_neg (fun z => hne z.1)])]
        simp
      rw [e1, ← sumX_add]
      refine sumX_congr fun c hc => ?_
      by_cases hcx : c = x
      · subst hcx
        have hno : ¬ (0 ≤ upI ns c ∧ ancB ns c (upI ns c).toNat = true) := fun z => by have := ancB_le h z.2; omega
        rw [if_neg (show ¬ (upI ns c = (j : Int) ∧ 0 ≤ upI ns c ∧ ancB ns c (upI ns c).toNat = true) from fun z => hno z.2)]
        simp [ancB_self h hx]
      · have hiff := ancB_up h hx c
        rw [if_neg (show ¬ (c = x ∧ upI ns x = (j : Int)) from fun z => hcx z.1), Int.add_zero]
        by_cases h1 : upI ns c = (j : Int) ∧ ancB ns c x = true
        · rw [if_pos h1, if_pos ⟨h1.1, (hiff.1 h1.2).resolve_right hcx⟩]
        · rw [if_neg h1, if_neg (fun z => h1 ⟨z.1, hiff.2 (.inl z.2)⟩)]
    rw [hsp]
    have hj := ancB_up h hx j
    by_cases h0 : 0 ≤ upI ns x
    · obtain ⟨p, hp⟩ : ∃ p : Nat, upI ns x = p := ⟨(upI ns x).toNat, by omega⟩
      have hpx : p < x := by omega
      have ih := one_child h (j := j) B p (by omega) (by omega)
      have e2 : sumX (fun c => if upI ns c = (j : Int) ∧ 0 ≤ upI ns x ∧ ancB ns c (upI ns x).toNat = true then (1 : Int) else 0) ns.length = sumX (fun c => if upI ns c = (j : Int) ∧ ancB ns c p = true then 1 else 0) ns.length := by
        refine sumX_congr fun c _ => ?_
        rw [hp, Int.toNat_natCast]
        simp
      rw [e2, ih, hp]
      rw [hp, Int.toNat_natCast] at hj
      by_cases hpj : p = j
      · subst hpj
        have hs := ancB_self h (show p < ns.length by omega)
        rw [if_neg (fun z => z.2 rfl), if_pos rfl, if_pos ⟨hj.2 (.inl ⟨by omega, hs⟩), by omega⟩]; rfl
      · rw [if_neg (show ¬ ((p : Int) = (j : Int)) by omega), Int.add_zero]
        by_cases ha : ancB ns j p = true
        · have := ancB_le h ha
          rw [if_pos ⟨ha, hpj⟩, if_pos ⟨hj.2 (.inl ⟨by omega, ha⟩), by omega⟩]
        · rw [if_neg (fun z => ha z.1), if_neg (fun z => ha ((hj.1 z.1).resolve_right (fun e => z.2 e.symm)).2)]
    · rw [sumX_zero (fun c _ => by rw [if_neg (fun z => h0 z.2.1)]), if_neg (by omega), if_neg (fun z => h0 ((hj.1 z.1).resolve_right (fun e => z.2 e.symm)).1)]; rfl

/-- A subtree weighs what its node and the subtrees of its children weigh. -/
theorem sbX_rec {ns : List NdD} (h : TrOK ns) (f : Nat → Int) {j : Nat} (hj : j < ns.length) : sbX ns f j = f j + sumX (fun c => if upI ns c = (j : Int) then sbX ns f c else 0) ns.length := by
  have e1 : sbX ns f j = sumX (fun x => (if x = j then f j else 0) + (if ancB ns j x = true ∧ x ≠ j then 1 else 0) * f x) ns.length := by
    refine sumX_congr fun x hx => ?_
    by_cases e : x = j
    · subst e; simp [ancB_self h hx]
    · by_cases ha : ancB ns j x = true
      · rw [if_pos ha, if_neg e, if_pos ⟨ha, e⟩]; omega
      · rw [if_neg ha, if_neg e, if_neg (fun z => ha z.1)]; omega
  rw [e1, sumX_add, sumX_one hj (fun k _ hne => by rw [if_neg hne]), if_pos rfl]
  congr 1
  have e2 : sumX (fun x => (if ancB ns j x = true ∧ x ≠ j then (1 : Int) else 0) * f x) ns.length = sumX (fun x => sumX (fun c => (if upI ns c = (j : Int) ∧ ancB ns c x = true then (1 : Int) else 0) * f x) ns.length) ns.length := by
    refine sumX_congr fun x hx => ?_
    rw [sumX_mul, one_child h (x + 1) x (by omega) hx]
  rw [e2, sumX_swap]
  refine sumX_congr fun c _ => ?_
  by_cases hc : upI ns c = (j : Int)
  · rw [if_pos hc]
    refine sumX_congr fun x _ => ?_
    by_cases ha : ancB ns c x = true
    · rw [if_pos ⟨hc, ha⟩, if_pos ha]; omega
    · rw [if_neg (fun z => ha z.2), if_neg ha]; omega
  · rw [if_neg hc]
    exact sumX_zero fun x _ => by rw [if_neg (fun z => hc z.1)]; omega
/-! ### The pass from the end -/

/-- What node j holds when the nodes behind i have been added to their parents. -/
def psX (ns : List NdD) (f : Nat → Int) (i j : Nat) : Int := f j + sumX (fun c => if i < c ∧ upI ns c = (j : Int) then sbX ns f c else 0) ns.length

theorem psX_step {ns : List NdD} (f : Nat → Int) {i j : Nat} (hi : i + 1 < ns.length) : psX ns f i j = psX ns f (i + 1) j + if upI ns (i + 1) = (j : Int) then sbX ns f (i + 1) else 0 := by
  unfold psX
  have e : (if upI ns (i + 1) = (j : Int) then sbX ns f (i + 1) else 0) = sumX (fun c => if c = i + 1 ∧ upI ns c = (j : Int) then sbX ns f c else 0) ns.length := by
    rw [sumX_one hi (fun k _ hne => by rw [if_neg (fun z => hne z.1)])]
    simp
  rw [e, Int.add_assoc, ← sumX_add]
  congr 1
  refine sumX_congr fun c _ => ?_
  by_cases hu : upI ns c = (j : Int)
  · by_cases h1 : c = i + 1
    · subst h1; simp [hu]
    · by_cases h2 : i + 1 < c
      · rw [if_pos ⟨by omega, hu⟩, if_pos ⟨h2, hu⟩, if_neg (fun z => h1 z.1)]; omega
      · rw [if_neg (fun z => by have := z.1; omega), if_neg (fun z => h2 z.1), if_neg (fun z => h1 z.1)]; rfl
  · rw [if_neg (fun z => hu z.2), if_neg (fun z => hu z.2), if_neg (fun z => hu z.2)]; rfl

theorem psX_done {ns : List NdD} (h : TrOK ns) (f : Nat → Int) {i j : Nat} (hij : i ≤ j) (hj : j < ns.length) : psX ns f i j = sbX ns f j := by
  rw [sbX_rec h f hj]
  unfold psX
  congr 1
  refine sumX_congr fun c hc => ?_
  by_cases hu : upI ns c = (j : Int)
  · have := upI_bd h hc
    rw [if_pos ⟨by omega, hu⟩, if_pos hu]
  · rw [if_neg (fun z => hu z.2), if_neg hu]

theorem psX_first {ns : List NdD} (f : Nat → Int) (j : Nat) : psX ns f (ns.length - 1) j = f j := by
  unfold psX
  rw [sumX_zero (fun c hc => by rw [if_neg (fun z => by have := z.1; omega)])]; omega

def psL (ns : List NdD) (dl : List Int) (i : Nat) : List Int := (List.range ns.length).map fun j => IntKind.u64.wrap (psX ns (fun x => dl.getD x 0) i j)

theorem psL_len (ns : List NdD) (dl : List Int) (i : Nat) : (psL ns dl i).length = ns.length := by simp [psL]

theorem psL_get {ns : List NdD} (dl : List Int) (i : Nat) {j : Nat} (hj : j < ns.length) : (psL ns dl i).getD j 0 = IntKind.u64.wrap (psX ns (fun x => dl.getD x 0) i j) := by
  simp [psL, List.getD_eq_getElem?_getD, hj]

theorem ext_getD {l r : List Int} (hl : l.length = r.length) (h : ∀ j, j < l.length → l.getD j 0 = r.getD j 0) : l = r := by
  apply List.ext_getElem hl
  intro j h1 h2
  have := h j h1
  simpa [List.getD_eq_getElem?_getD, h1, h2] using this

theorem psL_first {ns : List NdD} {dl : List Int} (hl : dl.length = ns.length) (hr : ∀ x ∈ dl, 0 ≤ x ∧ x ≤ 18446744073709551615) : psL ns dl (ns.length - 1) = dl := by
  refine ext_getD (by rw [psL_len, hl]) fun j hj => ?_
  rw [psL_len] at hj
  rw [psL_get dl _ hj, psX_first]
  have hjd : j < dl.length := by omega
  have := hr _ (List.getElem_mem hjd)
  have e : dl.getD j 0 = dl[j] := by simp [List.getD_eq_getElem?_getD, hjd]
  rw [e, IntKind.wrap_u64]; omega

theorem psL_step {ns : List NdD} (h : TrOK ns) (dl : List Int) {i p : Nat} (hi : i + 1 < ns.length) (hp : upI ns (i + 1) = p) :
    (psL ns dl (i + 1)).set p (IntKind.u64.wrap ((psL ns dl (i + 1)).getD p 0 + (psL ns dl (i + 1)).getD (i + 1) 0)) = psL ns dl i := by
  have hub := upI_bd h hi
  have hpn : p < ns.length := by omega
  refine ext_getD (by rw [List.length_set, psL_len, psL_len]) fun j hj => ?_
  rw [List.length_set, psL_len] at hj
  rw [psL_get dl i hj, psX_step _ hi, psL_get dl _ hpn, psL_get dl _ hi, psX_done h _ (Nat.le_refl _) hi]
  simp only [List.getD_eq_getElem?_getD, List.getElem?_set, psL_len]
  by_cases e : p = j
  · subst e
    rw [if_pos rfl, if_pos hpn, if_pos hp]
    simp only [Option.getD_some]
    rw [u64_two, u64_two']
  · rw [if_neg e, if_neg (by rw [hp]; omega), Int.add_zero]
    have := psL_get dl (i + 1) hj
    rw [List.getD_eq_getElem?_getD] at this
    exact this

theorem psL_end {ns : List NdD} (h : TrOK ns) (dl : List Int) : psL ns dl 0 = sbtL ns dl ns.length := by
  refine ext_getD (by rw [psL_len, sbtL_len]) fun j hj => ?_
  rw [psL_len] at hj
  rw [psL_get dl 0 hj, sbtL_get ns dl _ hj, psX_done h _ (Nat.zero_le _) hj]
end

/-! WgD -/
section
set_option linter.unusedVariables false
set_option linter.unusedSimpArgs false
open Go.RowKit

set_option maxRecDepth 100000

theorem wp_store_cell1 {P : Program} {op : Oper} {a : Act} {w : World} {K : Act → World → Prop} {Q : Exit → Act → World → Prop} (ty : TypeId) (x y : Operand) (ho : op.op = .store ty x y)
    (b : Nat) (ps : List (List Value)) (k : Nat) (v u : Value) (hB : Blk w b (flatP ps)) (hk : ps[k]? = some [v]) (hx : a.eval x = .pointer (some ⟨b, offP ps k, none⟩)) (hy : a.eval y = u)
    (hi : (P.info? ty).map (·.size) = some 1) (hu : u.cells = #[u]) (h1 : u.oneCell' = true)
    (h : ∀ w', Upd b w w' → Blk w' b (flatP (ps.set k [u])) → K (a.put op.dst undef) w') : op.wp P a w K Q := by
  have hth := hB.partThere hk
  obtain ⟨g1, g2⟩ := hB.setPart (q := [u]) hk rfl
  have hr := run_storeCells_cells (P := P) b (offP ps k) [u] 0 w (fun j hj => by simpa using (hth j (by simpa using hj)).1) (fun j hj => by simpa using (hth j (by simpa using hj)).2) (fun z hz => by rw [List.mem_singleton.1 hz]; exact h1)
  unfold Oper.wp execOp
  cases hq : P.info? ty with
  | none => simp [hq] at hi
  | some i =>
    have hs : i.size = 1 := by simpa [hq] using hi
    simp only [Nat.add_zero] at hr
    have hsv : (storeVar ty ⟨b, offP ps k, none⟩ u).run P w = .ok () (w.setCells b (offP ps k) [u]) := by
      simp [storeVar, sizeOf, typeInfo, hq, hu, hs, hr]
    simp only [ho, hx, hy, Instr.storeAt, Instr.sureAddr, Sem.run_bind, Sem.run_pure, Result.andThen_ok, hsv]
    exact h _ g1 g2

/-- A number is stored into a row of the call's own. -/
theorem wp_store_num {P : Program} {op : Oper} {a : Act} {w : World} {K : Act → World → Prop} {Q : Exit → Act → World → Prop} (ty : TypeId) (x y : Operand) (ho : op.op = .store ty x y)
    (g i : Nat) (k : IntKind) (xs : List Int) (n : Int) (hB : RowB w g (numL k xs)) (hk : i < xs.length) (hx : a.eval x = .pointer (some ⟨g, i, none⟩)) (hy : a.eval y = .int k n) (hi : (P.info? ty).map (·.size) = some 1)
    (h : ∀ w', Upd g w w' → RowB w' g (numL k (xs.set i n)) → K (a.put op.dst undef) w') : op.wp P a w K Q := by
  obtain ⟨sp, hB⟩ := hB
  have hl : i < (numL k xs).length := by rw [numL_len]; exact hk
  refine wp_store_cell1 ty x y ho g (numL k xs ++ [sp]) i (.int k (xs.getD i 0)) (.int k n) hB (by rw [List.getElem?_append_left hl]; simp [numL, List.getD, List.getElem?_eq_getElem hk]) (by rw [offP_row (numL_sz k xs) sp hl, Nat.mul_one]; exact hx) hy hi rfl rfl ?_
  intro w' U B
  refine h w' U ⟨sp, ?_⟩
  rw [List.set_append_left _ _ hl] at B
  rw [show numL k (xs.set i n) = (numL k xs).set i [.int k n] from by simp [numL, List.map_set]]
  exact B
/-! ### Total -/

theorem totK_rng (es bs : List Int) : ∀ k, 0 ≤ totK es bs k ∧ totK es bs k ≤ 18446744073709551615
  | 0 => by show 0 ≤ (0 : Int) ∧ (0 : Int) ≤ _; omega
  | k + 1 => by
    by_cases h : (k : Int) ∈ es
    · rw [totK_yes (decide_eq_true h)]; exact totK_rng es bs k
    · rw [totK_no (decide_eq_false h)]
      have := IntKind.wrap_u64 (totK es bs k + bs.getD k 0)
      omega

theorem tot_step (es bs : List Int) {k : Nat} (hk : k < bs.length) : IntKind.u64.wrap (totK es bs k + (honL es bs).getD k 0) = totK es bs (k + 1) := by
  have hr := totK_rng es bs k
  rw [honL_get es bs hk]
  by_cases h : (k : Int) ∈ es
  · rw [if_pos h, totK_yes (decide_eq_true h), Int.add_zero, IntKind.wrap_u64]; omega
  · rw [if_neg h, totK_no (decide_eq_false h)]
/-! ### Subtree -/

theorem psL_stepJ {ns : List NdD} (h : TrOK ns) (dl : List Int) {j p : Nat} (h0 : 0 < j) (hj : j < ns.length) (hp : upI ns j = p) :
    (psL ns dl j).set p (IntKind.u64.wrap ((psL ns dl j).getD p 0 + (psL ns dl j).getD j 0)) = psL ns dl (j - 1) := by
  obtain ⟨i, rfl⟩ : ∃ i, j = i + 1 := ⟨j - 1, by omega⟩
  exact psL_step h dl hj hp

/-- The tree's box, and the row. -/
structure SuS (w : World) (T : Array Value) (g : Nat) (l : List Int) (u : World) : Prop where
  p : PaS w T u
  r : RowB u g (numL .u64 l)
  gt : w.heap.size < g

theorem SuS.call {w u u' : World} {T : Array Value} {g : Nat} {l : List Int} (h : SuS w T g l u) (hb : Below u.heap.size u u') : SuS w T g l u' := ⟨h.p.call hb, h.r.call hb, h.gt⟩

theorem SuS.upd {w u u' : World} {T : Array Value} {g : Nat} {l l' : List Int} (h : SuS w T g l u) (U : Upd g u u') (hr : RowB u' g (numL .u64 l')) : SuS w T g l' u' :=
  ⟨⟨U.blk h.p.t (by have := h.gt; omega), U.below h.p.b (by have := h.gt; omega)⟩, hr, h.gt⟩

theorem copy_src1 {w w1 : World} (hb : Below w.heap.size w w1) {dl : List Int} {da : Option Addr} (h : dl.length = 0 ∨ ∃ b off, da = some ⟨b, off, none⟩ ∧ b < w.heap.size ∧ ∀ i, i < dl.length → w.cell? ⟨b, off + i, none⟩ = some (.int .u64 (dl.getD i 0)))
    {X : List Value} (hX : ∀ j u, X[j]? = some u → ∃ hj : j < dl.length, u = .int .u64 (dl.getD j 0)) (h0 : 0 < dl.length) : ∃ ad, da = some ad ∧ ∀ j v, X[j]? = some v → w1.cell? (ad.add j) = some v := by
  rcases h with h | ⟨b, off, rfl, h2, h3⟩
  · omega
  · refine ⟨_, rfl, fun j v hj => ?_⟩
    obtain ⟨hl, rfl⟩ := hX j v hj
    rw [Go.WideShapes.add_plain]
    exact (hb.cell (p := ⟨b, off + j, none⟩) h2).trans (h3 j hl)

theorem splice_row {w2 : World} {g n : Nat} {sp : List Value} {t : TypeId} {dl : List Int} {X : List Value} (hX : dl.map (Value.int .u64) = X) (hl : dl.length = n)
    (h : w2.heap[g]? = some (.cells (splice (flatP (numL .u64 (List.replicate n 0) ++ [sp])).toList 0 X).toArray t (0, 0))) : RowB w2 g (numL .u64 dl) := by
  refine ⟨sp, t, ?_⟩
  rw [h]
  have e : splice (flatP (numL .u64 (List.replicate n 0) ++ [sp])).toList 0 X = dl.map (Value.int .u64) ++ sp := by
    unfold splice flatP
    rw [← hX, List.flatten_append, numL_flat]
    simp [hl]
  rw [e]
  unfold flatP
  rw [List.flatten_append, numL_flat]
  simp

set_option maxHeartbeats 8000000 in
theorem csubtree_any (ns : List NdD) (hok : TrOK ns) (hlen : ns.length ≤ 100000) (dl : List Int) (v dv : Value) (w : World) (hN : NodesV w v ns) (hD : NumsV w dv dl) (hdl : dl.length = ns.length) :
    Calls Try.prog 19 #[.agg #[v], dv] w fun e w' => ∃ v', e = .returned v' ∧ HoR (w.heap.size + 1) v' (sbtL ns dl ns.length) w' ∧ Below w.heap.size w w' := by
  obtain ⟨a, cap, rfl, hmx⟩ := hN.shape
  unfold maxLen at hmx
  have HN := Lib.hid hN
  have HPOS := Lib.hid hok.pos
  have HSTEP := Lib.hid (fun (j p : Nat) (hj : 0 < j) (hi : j < ns.length) (hp : upI ns j = p) => psL_stepJ hok dl hj hi hp)
  have HUB := Lib.hid (fun (i : Nat) (hi : i < ns.length) => upI_bd hok hi)
  have HUP1 := Lib.hid (fun (i : Nat) (hi : i < ns.length) (h0 : 0 < i) => hok.up i hi h0)
  have HEND := Lib.hid (psL_end hok dl)
  have HPL := Lib.hid (fun (i : Nat) => psL_len ns dl i)
  have HSBL := Lib.hid (sbtL_len ns dl ns.length)
  have HFIR := Lib.hid (psL_first hdl hD.2)
  obtain ⟨⟨da, dn, dc, rfl, hdn, hdm, hdr⟩, hdg⟩ := hD
  have HDN : Hid (dn = dl.length) := hdn.symm
  have HDR : Hid (dl.length = 0 ∨ ∃ b off, da = some ⟨b, off, none⟩ ∧ b < w.heap.size ∧ ∀ i, i < dl.length → w.cell? ⟨b, off + i, none⟩ = some (.int .u64 (dl.getD i 0))) := by
    show _ ∨ _
    rcases hdr with h | ⟨b, off, h1, h2, h3⟩
    · exact .inl (by omega)
    · exact .inr ⟨b, off, h1, h2, fun i hi => h3 i (by omega)⟩
  have hi1 : (Try.prog.info? 25).map (·.size) = some 1 := by kernel_rfl
  have hiu : (Try.prog.info? 53).map (·.size) = some 1 := by kernel_rfl
  obtain ⟨m, hm⟩ : ∃ m, Hid (ns.length = m) := ⟨_, Lib.hid rfl⟩
  have HDL : Hid (dl.length = m) := by show _ = _; rw [hdl, hm.out]
  rw [hm.out] at hmx HN hlen HPOS HEND HSBL HFIR ⊢
  have hm0 : 0 < m := HPOS.out
  obtain rfl : m = dn := by rw [HDN.out, HDL.out]
  have S0 := Lib.hid (pas_new w #[.slice a m cap] 25)
  have HC0 := Lib.hid (S0.out.t.cell 0)
  have HLA : Hid ((w.alloc (.cells #[.slice a m cap] 25)).heap.size = w.heap.size + 1) := by show _ = _; simp
  clear hN hok hdl hdn hdm hdr hdg
  obtain ⟨X1, hX1⟩ : ∃ X1, Hid (dl.map (Value.int .u64) = X1) := ⟨_, Lib.hid rfl⟩
  have HXL : Hid (X1.length = m) := by show _ = _; rw [← hX1.out, List.length_map, HDL.out]
  have HXO : Hid (∀ u ∈ X1, u.oneCell' = true) := by show ∀ u ∈ X1, _; rw [← hX1.out]; exact oneNw dl
  have HXG : Hid (∀ j u, X1[j]? = some u → ∃ hj : j < dl.length, u = .int .u64 (dl.getD j 0)) := by
    intro j u hj
    rw [← hX1.out] at hj
    have hjl : j < dl.length := by simpa using (List.getElem?_eq_some_iff.1 hj).1
    refine ⟨hjl, ?_⟩
    rw [List.getElem?_map, List.getElem?_eq_getElem hjl] at hj
    simp only [Option.map_some, Option.some.injEq] at hj
    rw [← hj]; simp [List.getD, List.getElem?_eq_getElem hjl]
  go_enter Try.func19, Try.ntmps19
  go_upto_region 2 with (first
    | ((with_reducible refine at_load (.tmp 7) ?_); refine wpList_load_1 23 (.tmp 7) rfl w.heap.size 0 (.slice a m cap) HC0.out rfl _ Try.underlying23 rfl rfl ?_)
    | ((with_reducible refine at_makeEl (.tmp 9) ?_); refine wpList_makeU rfl (.tmp 9) rfl .i64 m rfl (by omega) ?_; intro w1 hb1 hr1; have S1 := Lib.hid (S0.out.call hb1); have R1 := Lib.hid hr1; rw [HLA.out] at R1 ⊢; clear hb1 hr1))
  obtain ⟨sp, eT, hblk⟩ := R1.out
  have HBK := Lib.hid hblk
  obtain ⟨Z, hZ⟩ : ∃ Z, Hid ((flatP (numL .u64 (List.replicate m 0) ++ [sp])).toList = Z) := ⟨_, Lib.hid rfl⟩
  have HZ1 : Hid (w1.heap[w.heap.size + 1]? = some (.cells Z.toArray eT (0, 0))) := by show _ = _; rw [← hZ.out, Array.toArray_toList]; exact hblk
  have HSRC := Lib.hid (copy_src1 S1.out.b HDR.out HXG.out (by rw [HDL.out]; exact hm0))
  have HFIT : Hid (0 + X1.length ≤ Z.length) := by show _ ≤ _; rw [HXL.out, ← hZ.out]; unfold flatP; rw [List.flatten_append, numL_flat]; simp
  have HMIN : Hid (X1.length = Nat.min m m) := by show _ = _; rw [HXL.out]; exact (Nat.min_self m).symm
  clear hblk
  go_wp2_with (first
    | (with_reducible refine wpList_copy_splice rfl (.tmp 11) (.tmp 12) 27 27 rfl 53 Try.underlying27 hiu (some ⟨w.heap.size + 1, 0, none⟩) da m m m dc rfl rfl (w.heap.size + 1) 0 Z eT HZ1.out X1 HMIN.out (fun _ => ⟨rfl, HSRC.out⟩) HFIT.out HXO.out (w.heap.size + 1) w1 (Below.refl _ _) (Nat.le_refl _) ?_; intro w2 hg2 hb2; have S2 := Lib.hid (SuS.mk (w := w) (T := #[.slice a m cap]) (g := w.heap.size + 1) (l := psL ns dl (m - 1)) (PaS.mk (Blk.below hb2 (by omega) S1.out.t) (S1.out.b.trans (hb2.mono (by omega)))) (by rw [HFIR.out]; exact splice_row (sp := sp) (t := eT) hX1.out HDL.out (by rw [hZ.out]; exact hg2.out)) (by omega)); clear hg2 hb2))
  clear S1 R1 HBK HZ1 HSRC HFIT HMIN hZ hX1 HXL HXO HXG HFIR HDR HC0
  obtain ⟨g, hg⟩ : ∃ g, w.heap.size + 1 = g := ⟨_, rfl⟩
  have hgw : w.heap.size + 1 ≤ g := by omega
  rw [hg] at S2 ⊢
  clear hg
  go_loopw [6] (fun iv wr => ∃ j : Nat, j < m ∧ iv = .int .i64 j ∧ SuS w #[.slice a m cap] g (psL ns dl j) wr) (fun iv _ => (intOf iv).toNat)
  case atStart => exact ⟨m - 1, by omega, by go_num, S2.out⟩
  case round =>
    obtain ⟨j, hj, rfl, hs⟩ := hrel
    have S3 := Lib.hid hs
    clear hs S2
    by_cases h0 : 0 < j
    case neg =>
      obtain rfl : j = 0 := by omega
      go_wp2_with fail
      go_ret
      have HRR : RowB wr g (numL .u64 (sbtL ns dl m)) := by rw [← HEND.out]; exact S3.out.r
      exact ⟨_, rfl, ⟨by have := S3.out.r.lt; omega, by rw [HSBL.out]; omega, .inr ⟨g, m, by rw [HSBL.out]; rfl, hgw, HRR⟩⟩, S3.out.p.b⟩
    have h0' : (0 : Int) < (j : Int) := by omega
    have hjn : j < ns.length := by rw [hm.out]; exact hj
    obtain ⟨p, hpl, hpj, hup, _⟩ := HUP1.out j hjn h0
    have HST := Lib.hid (HSTEP.out j p h0 hjn (by rw [upI_at hjn]; exact hup))
    have hpm : p < m := by omega
    have hpm' : (p : Int) < m := by omega
    have hjm' : (j : Int) < m := by omega
    obtain ⟨b, off, rfl, hlm, hbb, hna, hdk⟩ := HN.out.elem hjn
    have HUP := Lib.hid hna.up
    rw [hup] at HUP
    obtain ⟨x, hx⟩ : ∃ x, (psL ns dl j).getD p 0 = x := ⟨_, rfl⟩
    obtain ⟨y, hy⟩ : ∃ y, (psL ns dl j).getD j 0 = y := ⟨_, rfl⟩
    have HRX : Hid (∀ u, SuS w #[.slice (some ⟨b, off, none⟩) m cap] g (psL ns dl j) u → u.cell? ⟨g, p, none⟩ = some (.int .u64 x)) := fun u hu => by rw [← hx]; exact hu.r.num (by rw [HPL.out, hm.out]; exact hpm)
    have HRY : Hid (∀ u, SuS w #[.slice (some ⟨b, off, none⟩) m cap] g (psL ns dl j) u → u.cell? ⟨g, j, none⟩ = some (.int .u64 y)) := fun u hu => by rw [← hy]; exact hu.r.num (by rw [HPL.out, hm.out]; exact hj)
    rw [hx, hy] at HST
    obtain ⟨z, hz⟩ : ∃ z, Hid (IntKind.u64.wrap (x + y) = z) := ⟨_, Lib.hid rfl⟩
    have HZ := hz
    rw [hz.out] at HST
    clear hlm hna hdk hup hx hy hz
    go_wp2_with fail
    obtain ⟨x4, hx4⟩ : ∃ x, wr.drew = x := ⟨_, rfl⟩
    have hbd : Below wr.heap.size wr x4 := by rw [← hx4]; exact below_drew wr
    have SD := Lib.hid (S3.out.call hbd)
    clear S3
    refine wp_region_k (S := fun u' => SuS w #[.slice (some ⟨b, off, none⟩) m cap] g (psL ns dl j) u') (k := 15) (by kernel_rfl) ?_
    rw [hx4]
    clear hx4 hbd
    (try simp only [Act.put, List.setIfInBounds_toArray, List.set_cons_zero, List.set_cons_succ])
    refine wpAnyK_take (i := 0) (oi := ⟨some 21, _, _, _, _, _⟩) (v := .slice (some ⟨g, 0, none⟩) m m) [0] rfl (by kernel_rfl) (by kernel_rfl) (by kernel_rfl) (by kernel_rfl) (fun _ _ _ h => h) (Or.inl ⟨by rfl, fun wz hz => ?_⟩) SD.out ?_
    · clear hz; go_simp; first | done | with_reducible rfl | rfl
    (try simp only [Act.put, List.setIfInBounds_toArray, List.set_cons_zero, List.set_cons_succ])
    refine wpAnyK_take (i := 1) (oi := ⟨some 22, _, _, _, _, _⟩) (v := .pointer (some ⟨w.heap.size, 0, none⟩)) [1] rfl (by kernel_rfl) (by kernel_rfl) (by kernel_rfl) (by kernel_rfl) (fun _ _ _ h => h) (Or.inl ⟨by rfl, fun wz hz => ?_⟩) SD.out ?_
    · clear hz; go_simp; first | done | with_reducible rfl | rfl
    (try simp only [Act.put, List.setIfInBounds_toArray, List.set_cons_zero, List.set_cons_succ])
    refine k_load1 (oi := ⟨some 23, _, _, _, _, _⟩) 2 [2] rfl (by kernel_rfl) (by kernel_rfl) (by kernel_rfl) (by kernel_rfl) (fun _ _ _ _ h => h) rfl 23 (.tmp 22) rfl w.heap.size (0) (by first | rfl | simp [Act.eval, Act.put]) (.slice (some ⟨b, off, none⟩) m cap) _ (fun u' hu => hu.p.t.cell 0) Try.underlying23 rfl SD.out ?_
    (try simp only [Act.put, List.setIfInBounds_toArray, List.set_cons_zero, List.set_cons_succ])
    refine wpAnyK_take (i := 3) (oi := ⟨some 24, _, _, _, _, _⟩) (v := .int .i64 j) [3] rfl (by kernel_rfl) (by kernel_rfl) (by kernel_rfl) (by kernel_rfl) (fun _ _ _ h => h) (Or.inl ⟨by rfl, fun wz hz => ?_⟩) SD.out ?_
    · clear hz; go_simp; first | done | with_reducible rfl | rfl
    (try simp only [Act.put, List.setIfInBounds_toArray, List.set_cons_zero, List.set_cons_succ])
    refine wpAnyK_take (i := 4) (oi := ⟨some 25, _, _, _, _, _⟩) (v := .pointer (some ⟨b, off + j * 240, none⟩)) [4] rfl (by kernel_rfl) (by kernel_rfl) (by kernel_rfl) (by kernel_rfl) (fun _ _ _ h => h) (Or.inl ⟨by rfl, fun wz hz => ?_⟩) SD.out ?_
    · clear hz; go_simp; first | done | with_reducible rfl | rfl
    (try simp only [Act.put, List.setIfInBounds_toArray, List.set_cons_zero, List.set_cons_succ])
    refine wpAnyK_take (i := 5) (oi := ⟨some 26, _, _, _, _, _⟩) (v := .pointer (some ⟨b, off + j * 240 + 238, none⟩)) [5] rfl (by kernel_rfl) (by kernel_rfl) (by kernel_rfl) (by kernel_rfl) (fun _ _ _ h => h) (Or.inl ⟨by rfl, fun wz hz => ?_⟩) SD.out ?_
    · clear hz; go_simp; first | done | with_reducible rfl | rfl
    (try simp only [Act.put, List.setIfInBounds_toArray, List.set_cons_zero, List.set_cons_succ])
    refine k_load1 (oi := ⟨some 27, _, _, _, _, _⟩) 6 [6] rfl (by kernel_rfl) (by kernel_rfl) (by kernel_rfl) (by kernel_rfl) (fun _ _ _ _ h => h) rfl 3 (.tmp 26) rfl b (off + j * 240 + 238) (by first | rfl | simp [Act.eval, Act.put]) (.int .i64 (p : Int)) _ (fun u' hu => (hu.p.b.cell (p := ⟨b, off + j * 240 + 238, none⟩) hbb).trans HUP.out) Try.underlying3 rfl SD.out ?_
    (try simp only [Act.put, List.setIfInBounds_toArray, List.set_cons_zero, List.set_cons_succ])
    refine wpAnyK_take (i := 7) (oi := ⟨some 28, _, _, _, _, _⟩) (v := .pointer (some ⟨g, p, none⟩)) [7] rfl (by kernel_rfl) (by kernel_rfl) (by kernel_rfl) (by kernel_rfl) (fun _ _ _ h => h) (Or.inl ⟨by rfl, fun wz hz => ?_⟩) SD.out ?_
    · clear hz; go_simp; first | done | with_reducible rfl | rfl
    (try simp only [Act.put, List.setIfInBounds_toArray, List.set_cons_zero, List.set_cons_succ])
    refine k_load1 (oi := ⟨some 29, _, _, _, _, _⟩) 8 [8] rfl (by kernel_rfl) (by kernel_rfl) (by kernel_rfl) (by kernel_rfl) (fun _ _ _ _ h => h) rfl 53 (.tmp 28) rfl g (p) (by first | rfl | simp [Act.eval, Act.put]) (.int .u64 x) _ (fun u' hu => HRX.out u' hu) Try.underlying53 rfl SD.out ?_
    (try simp only [Act.put, List.setIfInBounds_toArray, List.set_cons_zero, List.set_cons_succ])
    refine wpAnyK_take (i := 9) (oi := ⟨some 30, _, _, _, _, _⟩) (v := .slice (some ⟨g, 0, none⟩) m m) [9] rfl (by kernel_rfl) (by kernel_rfl) (by kernel_rfl) (by kernel_rfl) (fun _ _ _ h => h) (Or.inl ⟨by rfl, fun wz hz => ?_⟩) SD.out ?_
    · clear hz; go_simp; first | done | with_reducible rfl | rfl
    (try simp only [Act.put, List.setIfInBounds_toArray, List.set_cons_zero, List.set_cons_succ])
    refine wpAnyK_take (i := 10) (oi := ⟨some 31, _, _, _, _, _⟩) (v := .int .i64 j) [10] rfl (by kernel_rfl) (by kernel_rfl) (by kernel_rfl) (by kernel_rfl) (fun _ _ _ h => h) (Or.inl ⟨by rfl, fun wz hz => ?_⟩) SD.out ?_
    · clear hz; go_simp; first | done | with_reducible rfl | rfl
    (try simp only [Act.put, List.setIfInBounds_toArray, List.set_cons_zero, List.set_cons_succ])
    refine wpAnyK_take (i := 11) (oi := ⟨some 32, _, _, _, _, _⟩) (v := .pointer (some ⟨g, j, none⟩)) [11] rfl (by kernel_rfl) (by kernel_rfl) (by kernel_rfl) (by kernel_rfl) (fun _ _ _ h => h) (Or.inl ⟨by rfl, fun wz hz => ?_⟩) SD.out ?_
    · clear hz; go_simp; first | done | with_reducible rfl | rfl
    (try simp only [Act.put, List.setIfInBounds_toArray, List.set_cons_zero, List.set_cons_succ])
    refine k_load1 (oi := ⟨some 33, _, _, _, _, _⟩) 12 [12] rfl (by kernel_rfl) (by kernel_rfl) (by kernel_rfl) (by kernel_rfl) (fun _ _ _ _ h => h) rfl 53 (.tmp 32) rfl g (j) (by first | rfl | simp [Act.eval, Act.put]) (.int .u64 y) _ (fun u' hu => HRY.out u' hu) Try.underlying53 rfl SD.out ?_
    (try simp only [Act.put, List.setIfInBounds_toArray, List.set_cons_zero, List.set_cons_succ])
    refine wpAnyK_take (i := 13) (oi := ⟨some 34, _, _, _, _, _⟩) (v := .int .u64 z) [13] rfl (by kernel_rfl) (by kernel_rfl) (by kernel_rfl) (by kernel_rfl) (fun _ _ _ h => h) (Or.inl ⟨by rfl, fun wz hz => ?_⟩) SD.out ?_
    · clear hz; rw [← HZ.out]; go_simp; first | done | with_reducible rfl | rfl
    (try simp only [Act.put, List.setIfInBounds_toArray, List.set_cons_zero, List.set_cons_succ])
    refine wpAnyK_take (i := 14) (oi := ⟨some 35, _, _, _, _, _⟩) (v := .pointer (some ⟨g, p, none⟩)) [14] rfl (by kernel_rfl) (by kernel_rfl) (by kernel_rfl) (by kernel_rfl) (fun _ _ _ h => h) (Or.inl ⟨by rfl, fun wz hz => ?_⟩) SD.out ?_
    · clear hz; go_simp; first | done | with_reducible rfl | rfl
    (try simp only [Act.put, List.setIfInBounds_toArray, List.set_cons_zero, List.set_cons_succ])
    refine wpAnyK_last (o := ⟨none, _, _, _, _, _⟩) (i := 15) (by kernel_rfl) rfl (by kernel_rfl) (fun K hK => ?_)
    rw [if_pos (by rfl)]
    refine wp_store_num 53 (.tmp 35) (.tmp 34) rfl g p .u64 (psL ns dl j) z SD.out.r (by rw [HPL.out, hm.out]; omega) (by first | rfl | simp [Act.eval, Act.put]) rfl hiu ?_
    intro w4 U4 B4
    rw [HST.out] at B4
    have S4 := Lib.hid (SD.out.upd U4 B4)
    refine hK.out _ _ ?_
    clear hK K U4 B4
    (try simp only [Act.put, List.setIfInBounds_toArray, List.set_cons_zero, List.set_cons_succ])
    refine wpAnyK_done (by kernel_rfl) ?_ _
    clear SD
    go_wp2_with fail
    go_roundw
    case rel => exact ⟨j - 1, by omega, by go_num, S4.out⟩
    case measure => simp [intOf]; omega
end

/-! WgE -/
section
set_option linter.unusedVariables false
set_option linter.unusedSimpArgs false
open Go.RowKit

set_option maxRecDepth 100000
/-! ### The chain -/

def chA : BkD := bk4 0 (rootK 1) zeroR zeroR

def chB : BkD := bk4 1 (rootK 2) (rootK 1) zeroR

def chC : BkD := bk4 2 (rootK 3) (rootK 2) zeroR

def ch3 : List NdD := [⟨chA, -1, 1⟩, ⟨chB, 0, 1⟩, ⟨chC, 1, 1⟩]

theorem chA_ok : chA.ok := bk4_ok (by omega) (rootK_is 1) zeroR_is zeroR_is

theorem chB_ok : chB.ok := bk4_ok (by omega) (rootK_is 2) (rootK_is 1) zeroR_is

theorem chC_ok : chC.ok := bk4_ok (by omega) (rootK_is 3) (rootK_is 2) zeroR_is

theorem ch3_ok : TrOK ch3 := by
  have h1 : TrOK [(⟨chA, -1, 1⟩ : NdD)] := TrOK.one chA 1 (by omega)
  have e1 : (insT [(⟨chA, -1, 1⟩ : NdD)] chB 1).2 = 0 := by
    have h1 : findN [(⟨chA, -1, 1⟩ : NdD)] chB.root = -1 := by kernel_rfl
    have h2 : findN [(⟨chA, -1, 1⟩ : NdD)] chB.parent = 0 := by kernel_rfl
    have h3 : slotAt [(⟨chA, -1, 1⟩ : NdD)] 0 = 0 := by kernel_rfl
    unfold insT
    rw [h1, h2, h3, if_neg (by omega), if_neg (by omega), if_neg (by omega), if_neg (by decide), if_neg (by decide)]
  have h2 := (h1.add (q := 0) (by simp) (x := chB) (st := 1) rfl (by omega) (fun _ => rfl) (fun h => by cases h) e1).2
  have e2 : (insT ([(⟨chA, -1, 1⟩ : NdD)] ++ [⟨chB, (0 : Nat), 1⟩]) chC 1).2 = 0 := by
    have h1 : findN ([(⟨chA, -1, 1⟩ : NdD)] ++ [⟨chB, (0 : Nat), 1⟩]) chC.root = -1 := by kernel_rfl
    have h2 : findN ([(⟨chA, -1, 1⟩ : NdD)] ++ [⟨chB, (0 : Nat), 1⟩]) chC.parent = 1 := by kernel_rfl
    have h3 : slotAt ([(⟨chA, -1, 1⟩ : NdD)] ++ [⟨chB, (0 : Nat), 1⟩]) 1 = 1 := by kernel_rfl
    unfold insT
    rw [h1, h2, h3, if_neg (by omega), if_neg (by omega), if_neg (by omega), if_neg (by decide), if_neg (by decide)]
  exact (h2.add (q := 1) (by simp) (x := chC) (st := 1) rfl (by omega) (fun _ => rfl) (fun h => by cases h) e2).2

theorem ch3_oks : ∀ d ∈ ch3, d.ok := by
  intro d hd
  simp only [ch3, List.mem_cons, List.not_mem_nil, or_false] at hd
  rcases hd with rfl | rfl | rfl
  · exact ⟨chA_ok, by show (-9223372036854775808 : Int) ≤ -1 ∧ (-1 : Int) ≤ _; omega, by show (-9223372036854775808 : Int) ≤ 1 ∧ (1 : Int) ≤ _; omega⟩
  · exact ⟨chB_ok, by show (-9223372036854775808 : Int) ≤ 0 ∧ (0 : Int) ≤ _; omega, by show (-9223372036854775808 : Int) ≤ 1 ∧ (1 : Int) ≤ _; omega⟩
  · exact ⟨chC_ok, by show (-9223372036854775808 : Int) ≤ 1 ∧ (1 : Int) ≤ _; omega, by show (-9223372036854775808 : Int) ≤ 1 ∧ (1 : Int) ≤ _; omega⟩
/-! ### awake -/

theorem nums_three {w : World} {g : Nat} {l m n : Int} (h : Blk w g #[.int .u64 l, .int .u64 m, .int .u64 n]) (hr : ∀ x ∈ [l, m, n], 0 ≤ x ∧ x ≤ 18446744073709551615) : NumsV w (.slice (some ⟨g, 0, none⟩) 3 3) [l, m, n] := by
  refine ⟨⟨_, _, _, rfl, rfl, by unfold maxLen; omega, .inr ⟨g, 0, rfl, h.lt, fun i hi => ?_⟩⟩, hr⟩
  have : i = 0 ∨ i = 1 ∨ i = 2 := by omega
  rcases this with rfl | rfl | rfl
  · exact h.cell 0
  · exact h.cell 1
  · exact h.cell 2

theorem ints_one {w : World} {g : Nat} {l : Int} (h : Blk w g #[.int .i64 l]) (hl : -9223372036854775808 ≤ l ∧ l ≤ 9223372036854775807) : IntsV w (.slice (some ⟨g, 0, none⟩) 1 1) [l] := by
  refine ⟨⟨_, _, _, rfl, rfl, by unfold maxLen; omega, .inr ⟨g, 0, rfl, h.lt, fun i hi => ?_⟩⟩, fun x hx => ?_⟩
  · obtain rfl : i = 0 := by omega
    exact h.cell 0
  · rw [List.mem_singleton.1 hx]; exact hl

theorem build_vtsE (a2 : Option Addr) (n2 c2 : Nat) (u : World) : (Instr.build 44 #[(1, .slice a2 n2 c2)]).run Try.prog u = .ok (.agg #[.slice none 0 0, .slice a2 n2 c2]) u := by kernel_rfl

theorem sbt_ch : sbtL ch3 [1, 2, 4] 3 = [7, 6, 4] := by kernel_rfl

theorem tot_ch : totK [1] [5, 7, 9] 3 = 14 := by kernel_rfl
/-! ### Built -/

/-- What Built gives. -/
structure BlP (n : Nat) (ns : List NdD) (vs : List VoD) (es bs : List Int) : Prop where
  ok : TrOK ns
  l9 : ns.length ≤ 9
  v : VosOK n vs es
  len : bs.length = n
  n6 : n ≤ 6
  rng : ∀ x ∈ bs, 0 ≤ x ∧ x ≤ 72057594037927936

def BltE (w : World) (e : Ending) (w' : World) : Prop :=
  ∃ tv lv ev bv n ns vs es bs, e = .returned (.tuple #[.agg #[tv], .agg #[lv, ev], bv]) ∧ NodesV w' tv ns ∧ VotesV w' lv vs ∧ IntsV w' ev es ∧ NumsV w' bv bs ∧ BlP n ns vs es bs ∧ Below w.heap.size w w'

theorem res_cellTV {P : Program} {fn : Func} {p q t : Tmp} {ty ty' : TypeId} {d d' : TypeDesc} {tmps : Array Value} {w : World} {b b' : Nat} {cs cs' : Array Value} {v : Value} (h : fn.results = #[.cell p ty, .cell q ty', .tmp t])
    (hp : tmps.getD p undef = .pointer (some ⟨b, 0, none⟩)) (hq : tmps.getD q undef = .pointer (some ⟨b', 0, none⟩)) (ht : tmps.getD t undef = v) (hB : Blk w b cs) (hB' : Blk w b' cs') (hu : P.underlying ty = some d) (hd : (match d with | .struct _ | .array _ _ => true | _ => false) = true) (hi : (P.info? ty).map (·.size) = some cs.size)
    (hu' : P.underlying ty' = some d') (hd' : (match d' with | .struct _ | .array _ _ => true | _ => false) = true) (hi' : (P.info? ty').map (·.size) = some cs'.size) :
    (results fn tmps).run P w = .ok (.tuple #[.agg cs, .agg cs', v]) w := by
  obtain ⟨t', hg⟩ := hB
  obtain ⟨t'', hg'⟩ := hB'
  have hp' : tmps[p]?.getD undef = .pointer (some ⟨b, 0, none⟩) := by simpa using hp
  have hq' : tmps[q]?.getD undef = .pointer (some ⟨b', 0, none⟩) := by simpa using hq
  have ht' : tmps[t]?.getD undef = v := by simpa using ht
  simp [results, h, hp', hq', ht', asAddr, run_loadVar_row w b t' ty cs (0, 0) d hg hu hd hi, run_loadVar_row w b' t'' ty' cs' (0, 0) d' hg' hu' hd' hi']

/-- The results' boxes, the tree's box. -/
structure BuS (w : World) (X Y T : Array Value) (bt : Nat) (u : World) : Prop where
  x : Blk u w.heap.size X
  y : Blk u (w.heap.size + 1) Y
  t : Blk u bt T
  b : Below w.heap.size w u
  gt : w.heap.size + 1 < bt

theorem BuS.call {w u u' : World} {X Y T : Array Value} {bt : Nat} (h : BuS w X Y T bt u) (hb : Below u.heap.size u u') : BuS w X Y T bt u' := ⟨h.x.call hb, h.y.call hb, h.t.call hb, h.b.trans (hb.mono h.b.size), h.gt⟩

set_option maxHeartbeats 16000000 in
theorem built13_any (av bv0 : Value) (la lb : List Int) (w : World) (hA : IntsV w av la) (hB : IntsV w bv0 lb) : Calls Try.prog 20 #[av, bv0] w (BltE w) := by
  have HTR := Lib.hid (fun u (hu : Below w.heap.size w u) => tree_any av la u (hA.below hu))
  have HAT := Lib.hid (fun u (hu : Below w.heap.size w u) => at_val bv0 lb 0 u (hB.below hu) (by omega))
  have HBI := Lib.hid (fun u (hu : Below w.heap.size w u) => hB.below hu)
  have hi1 : (Try.prog.info? 25).map (·.size) = some 1 := by kernel_rfl
  have hi2 : (Try.prog.info? 44).map (·.size) = some 2 := by kernel_rfl
  obtain ⟨hz1, hst1⟩ := zero_array (P := Try.prog) (t := 25) (n := 1) #[.slice none 0 0] (by kernel_rfl) rfl (by kernel_rfl)
  obtain ⟨hz2, hst2⟩ := zero_array (P := Try.prog) (t := 44) (n := 2) #[.slice none 0 0, .slice none 0 0] (by kernel_rfl) rfl (by kernel_rfl)
  have S0 := Lib.hid (pad_new w #[.slice none 0 0] #[.slice none 0 0, .slice none 0 0] 25 44)
  have HS0 : Hid (((w.alloc (.cells #[.slice none 0 0] 25)).alloc (.cells #[.slice none 0 0, .slice none 0 0] 44)).heap.size = w.heap.size + 2) := by show _ = _; simp
  obtain ⟨k, hk⟩ : ∃ k, atN lb 0 = k := ⟨_, rfl⟩
  rw [hk] at HAT
  have hr1 : (k : Int) % 7 = ((k % 7 : Nat) : Int) := by omega
  have hr2 : Int.tmod (k : Int) 7 = ((k % 7 : Nat) : Int) := by rw [Int.tmod_eq_emod_of_nonneg (by omega)]; omega
  have hn6 : k % 7 ≤ 6 := by omega
  obtain ⟨n, hn⟩ : ∃ n, k % 7 = n := ⟨_, rfl⟩
  rw [hn] at hr1 hr2 hn6
  clear hA hB hst1 hst2 hk hn
  go_enter Try.func20, Try.ntmps20
  go_upto_region 3 with (first
    | (go_at_call 9; refine (HTR.out _ S0.out.b).mono ?_; rintro e w1 ⟨v1, ns, rfl, hn1, hc1, hok, hl9, hb1⟩; have HN1 := Lib.hid hn1; have HOK := Lib.hid hok; have HL9 := Lib.hid hl9; have S1 := Lib.hid (S0.out.call hb1); have HG1 : Hid (w.heap.size + 1 < w1.heap.size) := (by have := hb1.size; rw [HS0.out] at this; show _ < _; omega); clear hn1 hc1 hok hl9 hb1)
    | ((with_reducible refine at_store (.tmp 7) ?_); refine wpList_store_blk rfl 25 (.tmp 7) _ rfl w1.heap.size #[v1] rfl rfl #[.slice none 0 0] (Blk.new rfl) rfl hi1 (by obtain ⟨va, vc, rfl, _⟩ := HN1.out.shape; simp [Value.oneCell']) ?_; intro w2 U2 B2; have hb2 := U2.below ((Below.refl w1.heap.size w1).alloc (Nat.le_refl _) (.cells #[.slice none 0 0] 25)) (Nat.le_refl _); have S2 : Hid (BuS w #[.slice none 0 0] #[.slice none 0 0, .slice none 0 0] #[v1] w1.heap.size w2) := ⟨S1.out.t.call hb2, S1.out.v.call hb2, B2, S1.out.b.trans (hb2.mono S1.out.b.size), HG1.out⟩; have HN2 := Lib.hid (HN1.out.call hb2); clear U2 B2 hb2)
    | (go_at_call 29; refine (HAT.out _ S2.out.b).mono ?_; rintro e w3 ⟨rfl, hb3⟩; have S3 := Lib.hid (S2.out.call hb3); have HN3 := Lib.hid (HN2.out.call hb3); clear hb3))
  obtain ⟨bt, hbt⟩ : ∃ x, w1.heap.size = x := ⟨_, rfl⟩
  rw [hbt] at S3 ⊢
  clear hbt S2 S1 HN2 HN1 HG1
  (try simp only [Act.put])
  have HVO := Lib.hid (fun u (hu : Below w3.heap.size w3 u) => votes_any v1 bv0 ns lb n (by omega) HOK.out.pos (by have := HL9.out; omega) u (HN3.out.call hu) (HBI.out u (S3.out.b.trans (hu.mono S3.out.b.size))))
  have HNU := Lib.hid (fun u (hu : Below w3.heap.size w3 u) => num_any bv0 lb n u (HBI.out u (S3.out.b.trans (hu.mono S3.out.b.size))) (by omega))
  obtain ⟨x4, hx4⟩ : ∃ x, w3.drew = x := ⟨_, rfl⟩
  have hbd : Below w3.heap.size w3 x4 := by rw [← hx4]; exact below_drew w3
  have SD : Hid (BuS w #[.slice none 0 0] #[.slice none 0 0, .slice none 0 0] #[v1] bt x4) := S3.out.call hbd
  have HB4 := Lib.hid hbd
  have HG4 : Hid (w.heap.size + 1 < x4.heap.size) := by have := SD.out.gt; have := SD.out.t.lt; show _ < _; omega
  refine wp_region_k (S := fun u' => BuS w #[.slice none 0 0] #[.slice none 0 0, .slice none 0 0] #[v1] bt u') (k := 8) (by kernel_rfl) ?_
  rw [hx4]
  clear hx4 hbd
  (try simp only [Act.put, List.setIfInBounds_toArray, List.set_cons_zero, List.set_cons_succ])
  refine k_load (oi := ⟨some 14, _, _, _, _, _⟩) 0 [0] rfl (by kernel_rfl) (by kernel_rfl) (by kernel_rfl) (by kernel_rfl) (fun _ _ _ _ h => h) rfl 25 (.tmp 7) rfl bt 0 rfl [v1] _ (fun u' hu => hu.t.range) Try.underlying25 rfl (hi1) SD.out ?_
  (try simp only [Act.put, List.setIfInBounds_toArray, List.set_cons_zero, List.set_cons_succ])
  refine k_load (oi := ⟨some 15, _, _, _, _, _⟩) 1 [7, 4, 1] rfl (by kernel_rfl) (by kernel_rfl) (by kernel_rfl) (by kernel_rfl) (fun _ _ _ _ h => h) rfl 25 (.tmp 7) rfl bt 0 rfl [v1] _ (fun u' hu => hu.t.range) Try.underlying25 rfl (hi1) SD.out ?_
  (try simp only [Act.put, List.setIfInBounds_toArray, List.set_cons_zero, List.set_cons_succ])
  refine wpAnyK_take (i := 2) (oi := ⟨some 16, _, _, _, _, _⟩) (v := .int .i64 n) [7, 4, 2] rfl (by kernel_rfl) (by kernel_rfl) (by kernel_rfl) (by kernel_rfl) (fun _ _ _ h => h) (Or.inl ⟨by rfl, fun wz hz => ?_⟩) SD.out ?_
  · clear hz; go_simp; first | done | with_reducible rfl | rfl
  (try simp only [Act.put, List.setIfInBounds_toArray, List.set_cons_zero, List.set_cons_succ])
  refine wpAnyK_take (i := 3) (oi := ⟨some 17, _, _, _, _, _⟩) (v := bv0) [7, 4, 3] rfl (by kernel_rfl) (by kernel_rfl) (by kernel_rfl) (by kernel_rfl) (fun _ _ _ h => h) (Or.inl ⟨by rfl, fun wz hz => ?_⟩) SD.out ?_
  · clear hz; go_simp; first | done | with_reducible rfl | rfl
  (try simp only [Act.put, List.setIfInBounds_toArray, List.set_cons_zero, List.set_cons_succ])
  refine wpAnyK_take (i := 5) (oi := ⟨some 19, _, _, _, _, _⟩) (v := bv0) [7, 5] rfl (by kernel_rfl) (by kernel_rfl) (by kernel_rfl) (by kernel_rfl) (fun _ _ _ h => h) (Or.inl ⟨by rfl, fun wz hz => ?_⟩) SD.out ?_
  · clear hz; go_simp; first | done | with_reducible rfl | rfl
  (try simp only [Act.put, List.setIfInBounds_toArray, List.set_cons_zero, List.set_cons_succ])
  refine wpAnyK_take (i := 6) (oi := ⟨some 20, _, _, _, _, _⟩) (v := .int .i64 n) [7, 6] rfl (by kernel_rfl) (by kernel_rfl) (by kernel_rfl) (by kernel_rfl) (fun _ _ _ h => h) (Or.inl ⟨by rfl, fun wz hz => ?_⟩) SD.out ?_
  · clear hz; go_simp; first | done | with_reducible rfl | rfl
  (try simp only [Act.put, List.setIfInBounds_toArray, List.set_cons_zero, List.set_cons_succ])
  refine wpAnyK_one (o := ⟨some 18, _, _, _, _, _⟩) (i := 4) (by kernel_rfl) rfl (fun K hK => ?_)
  rw [if_pos (by rfl)]
  go_simp
  refine (HVO.out _ HB4.out).mono ?_
  rintro e w5 ⟨lv, ev, vs, es, rfl, hlv, hev, hvo, hlN, heN, _, _, hb5⟩
  have HLN := Lib.hid hlN
  have HEN := Lib.hid heN
  have SD5 := Lib.hid (SD.out.call hb5)
  have HB5 := Lib.hid (HB4.out.trans (hb5.mono HB4.out.size))
  have HW5 := Lib.hid hb5.size
  have HLV := Lib.hid hlv
  have HEV := Lib.hid hev
  have HVK := Lib.hid hvo
  refine hK.out _ _ SD5.out ?_
  clear hK K hb5 SD hlv hev hvo hlN heN
  have SD := SD5
  clear SD5
  (try simp only [Act.put, List.setIfInBounds_toArray, List.set_cons_zero, List.set_cons_succ])
  refine wpAnyK_one (o := ⟨some 21, _, _, _, _, _⟩) (i := 7) (by kernel_rfl) rfl (fun K hK => ?_)
  rw [if_pos (by rfl)]
  go_simp
  refine (HNU.out _ HB5.out).mono ?_
  rintro e w6 ⟨nv, rfl, how, hb6⟩
  have SD6 := Lib.hid (SD.out.call hb6)
  have HLV := Lib.hid (HLV.out.call hb6)
  have HEV := Lib.hid (HEV.out.below hb6)
  have HNV : Hid (NumsV w6 nv (numK lb n)) := ⟨how.ints (by rw [numK_len]; unfold maxLen; omega), fun x hx => by have := numK_rng lb n x hx; omega⟩
  have HNN := Lib.hid how.new
  have HZ6 : Hid (w.heap.size + 1 < x4.heap.size ∧ x4.heap.size ≤ w5.heap.size) := ⟨HG4.out, HW5.out⟩
  have HN6 := Lib.hid (HN3.out.call (HB5.out.trans (hb6.mono HB5.out.size)))
  refine hK.out _ _ SD6.out ?_
  clear hK K hb6 SD how
  have SD := SD6
  clear SD6
  (try simp only [Act.put, List.setIfInBounds_toArray, List.set_cons_zero, List.set_cons_succ])
  obtain ⟨va, vc, rfl, _⟩ := HN6.out.shape
  have HONE : Hid (∀ x ∈ #[lv, ev], x.oneCell' = true) := by
    obtain ⟨la, lc, rfl, _⟩ := HLV.out.shape
    obtain ⟨ea, el, ec, rfl⟩ := ints_shape' HEV.out.1
    show ∀ x ∈ _, _
    simp [Value.oneCell']
  refine wpAnyK_last (o := ⟨none, _, _, _, _, _⟩) (i := 8) (by kernel_rfl) rfl (by kernel_rfl) (fun K hK => ?_)
  rw [if_pos (by rfl)]
  refine wp_store_blk 25 (.tmp 4) (.tmp 14) rfl w.heap.size #[.slice va ns.length vc] rfl rfl _ SD.out.x rfl hi1 (by simp [Value.oneCell']) ?_
  intro w7 U7 B7
  have HGT : Hid (w.heap.size + 1 < bt) := SD.out.gt
  have Y7 := Lib.hid (U7.blk SD.out.y (by omega))
  have SDX := Lib.hid SD.out.x
  have HB7 := Lib.hid (U7.below SD.out.b (Nat.le_refl _))
  have X7 := Lib.hid B7
  have HU7 := Lib.hid U7
  refine hK.out _ _ ?_
  clear hK K U7 B7
  (try simp only [Act.put, List.setIfInBounds_toArray, List.set_cons_zero, List.set_cons_succ])
  refine wpAnyK_last (o := ⟨none, _, _, _, _, _⟩) (i := 9) (by kernel_rfl) rfl (by kernel_rfl) (fun K hK => ?_)
  rw [if_pos (by rfl)]
  refine wp_store_blk 44 (.tmp 5) (.tmp 18) rfl (w.heap.size + 1) #[lv, ev] (by first | rfl | simp [Act.eval, Act.put]) rfl _ Y7.out rfl hi2 HONE.out ?_
  intro w8 U8 B8
  have X8 := Lib.hid (U8.blk X7.out (by omega))
  have HB8 := Lib.hid (U8.below HB7.out (by omega))
  have Y8 := Lib.hid B8
  have HU8 := Lib.hid U8
  refine hK.out _ _ ?_
  clear hK K U8 B8
  (try simp only [Act.put, List.setIfInBounds_toArray, List.set_cons_zero, List.set_cons_succ])
  refine wpAnyK_last (o := ⟨some 6, _, _, _, _, _⟩) (i := 10) (by kernel_rfl) rfl (by kernel_rfl) (fun K hK => ?_)
  rw [if_pos (by rfl)]
  go_simp
  refine hK.out _ _ ?_
  clear hK K
  (try simp only [Act.put, List.setIfInBounds_toArray, List.set_cons_zero, List.set_cons_succ])
  refine wpAnyK_done (by kernel_rfl) ?_ _
  have HOA := Lib.hid (NodesV.offBlk HN6.out SDX.out (by simp))
  have HN7 := Lib.hid (HN6.out.grownOff (upd_grown HU7.out) HOA.out)
  have HOB := Lib.hid (NodesV.offBlk HN7.out Y7.out (by simp))
  have HN8 := Lib.hid (HN7.out.grownOff (upd_grown HU8.out) HOB.out)
  have h6 := HZ6.out
  have HL8 := Lib.hid ((HLV.out.grownOff (upd_grown HU7.out) (HLN.out.off (by omega))).grownOff (upd_grown HU8.out) (HLN.out.off (by omega)))
  have HE8 : Hid (IntsV w8 ev es) := ⟨(HEV.out.1.grownOff (upd_grown HU7.out) (fun g e => by cases e; exact HEN.out.off (by omega))).grownOff (upd_grown HU8.out) (fun g e => by cases e; exact HEN.out.off (by omega)), HEV.out.2⟩
  have HM8 : Hid (NumsV w8 nv (numK lb n)) := ⟨(HNV.out.1.grownOff (upd_grown HU7.out) (fun g e => by cases e; exact HNN.out.off (by omega))).grownOff (upd_grown HU8.out) (fun g e => by cases e; exact HNN.out.off (by omega)), HNV.out.2⟩
  have HBP : Hid (BlP n ns vs es (numK lb n)) := ⟨HOK.out, HL9.out, HVK.out, numK_len lb n, hn6, numK_rng lb n⟩
  clear h6
  go_wp2_with fail
  refine bodyPost_ret (res_cellTV rfl rfl rfl rfl X8.out Y8.out Try.underlying25 rfl hi1 Try.underlying44 rfl hi2) rfl ⟨_, _, _, _, n, ns, vs, es, numK lb n, rfl, HN8.out, HL8.out, HE8.out, HM8.out, HBP.out, HB8.out⟩
end

/-! LwS -/
section
set_option linter.unusedVariables false
set_option linter.unusedSimpArgs false
open Go.RowKit

set_option maxRecDepth 100000

/-- What Built left. -/
structure LwV (w : World) (tv lv ev nv : Value) (ns : List NdD) (vs : List VoD) (es bs : List Int) (u : World) : Prop where
  n : NodesV u tv ns
  v : VotesV u lv vs
  e : IntsV u ev es
  m : NumsV u nv bs
  b : Below w.heap.size w u

theorem LwV.call {w u u' : World} {tv lv ev nv : Value} {ns : List NdD} {vs : List VoD} {es bs : List Int} (h : LwV w tv lv ev nv ns vs es bs u) (hb : Below u.heap.size u u') : LwV w tv lv ev nv ns vs es bs u' :=
  ⟨h.n.call hb, h.v.call hb, h.e.below hb, ⟨h.m.1.below hb, h.m.2⟩, h.b.trans (hb.mono h.b.size)⟩

/-- The same, and the two variables. -/
structure LwS (w : World) (bt : Nat) (tv lv ev nv : Value) (ns : List NdD) (vs : List VoD) (es bs : List Int) (u : World) : Prop where
  t : Blk u bt #[tv]
  x : Blk u (bt + 1) #[lv, ev]
  l : LwV w tv lv ev nv ns vs es bs u

theorem LwS.call {w u u' : World} {bt : Nat} {tv lv ev nv : Value} {ns : List NdD} {vs : List VoD} {es bs : List Int} (h : LwS w bt tv lv ev nv ns vs es bs u) (hb : Below u.heap.size u u') : LwS w bt tv lv ev nv ns vs es bs u' := ⟨h.t.call hb, h.x.call hb, h.l.call hb⟩

theorem lws_new {w w1 w2 w3 : World} {tv lv ev nv : Value} {ns : List NdD} {vs : List VoD} {es bs : List Int} {T V : Array Value} {s t : TypeId} (h : LwV w tv lv ev nv ns vs es bs w1) (hT : Blk w2 w1.heap.size #[tv])
    (U2 : Upd w1.heap.size ((w1.alloc (.cells T s)).alloc (.cells V t)) w2) (U3 : Upd (w1.heap.size + 1) w2 w3) (hV : Blk w3 (w1.heap.size + 1) #[lv, ev]) : LwS w w1.heap.size tv lv ev nv ns vs es bs w3 := by
  have h2 : Below w1.heap.size w1 w2 := U2.below (((Below.refl w1.heap.size w1).alloc (Nat.le_refl _) _).alloc (by simp) _) (Nat.le_refl _)
  exact ⟨U3.blk hT (by omega), hV, h.call (U3.below h2 (by omega))⟩

/-- The numbers' bound. -/
theorem BlP.small {n : Nat} {ns : List NdD} {vs : List VoD} {es bs : List Int} (h : BlP n ns vs es bs) : bs.length ≤ 1000000 := by rw [h.len]; have := h.n6; omega

theorem BlP.nl {n : Nat} {ns : List NdD} {vs : List VoD} {es bs : List Int} (h : BlP n ns vs es bs) : ns.length ≤ 100000 := by have := h.l9; omega

theorem wei1_rng (vs : List VoD) (es bs : List Int) (rs : List (List Int)) : 0 ≤ weiN vs es bs rs ∧ weiN vs es bs rs ≤ 18446744073709551615 := weiK_rng vs es bs rs _

theorem dirV_rng (vs : List VoD) (es bs : List Int) (x : NdD) : 0 ≤ dirV vs es bs x ∧ dirV vs es bs x ≤ 18446744073709551615 := by
  unfold dirV
  split
  · omega
  · exact wei1_rng _ _ _ _

theorem dirL_rng (ns : List NdD) (vs : List VoD) (es bs : List Int) (k : Nat) : ∀ x ∈ dirL ns vs es bs k, 0 ≤ x ∧ x ≤ 18446744073709551615 := by
  intro x hx
  unfold dirL at hx
  obtain ⟨d, _, rfl⟩ := List.mem_map.1 hx
  exact dirV_rng vs es bs d

theorem sbtL_rng (ns : List NdD) (dl : List Int) : ∀ (k : Nat), ∀ x ∈ sbtL ns dl k, 0 ≤ x ∧ x ≤ 18446744073709551615 := by
  intro k x hx
  obtain ⟨j, hj, rfl⟩ := List.mem_iff_getElem.1 hx
  have hl := sbtL_len ns dl k
  have e : (sbtL ns dl k)[j] = (sbtL ns dl k).getD j 0 := by simp [List.getD_eq_getElem?_getD, hj]
  rw [e, sbtL_get ns dl k (by omega), IntKind.wrap_u64]
  omega

/-- The four functions on what Built gives. -/
theorem lw_cdirect {w : World} {n : Nat} {tv lv ev nv : Value} {ns : List NdD} {vs : List VoD} {es bs : List Int} (hp : BlP n ns vs es bs) (u : World) (h : LwV w tv lv ev nv ns vs es bs u) (bv : Value) (cs : List Int) (hc : NumsV u bv cs) (hl : cs.length ≤ 1000000) :
    Calls Try.prog 22 #[.agg #[tv], .agg #[lv, ev], bv] u fun e w' => ∃ v', e = .returned v' ∧ NumsV w' v' (dirL ns vs es cs ns.length) ∧ Below u.heap.size u w' := by
  refine (cdirect_any ns hp.nl tv lv ev bv vs es cs u h.n h.v h.e hc hl).mono ?_
  rintro e w' ⟨v', rfl, hr, hb⟩
  exact ⟨v', rfl, hr.nums (dirL_rng _ _ _ _ _), hb⟩

theorem lw_direct {w : World} {n : Nat} {tv lv ev nv : Value} {ns : List NdD} {vs : List VoD} {es bs : List Int} (hp : BlP n ns vs es bs) (u : World) (h : LwV w tv lv ev nv ns vs es bs u) :
    Calls Try.prog 24 #[.agg #[tv], .agg #[lv, ev], nv] u fun e w' => ∃ v', e = .returned v' ∧ NumsV w' v' (dirL ns vs es bs ns.length) ∧ Below u.heap.size u w' := by
  refine (direct_any ns hp.nl tv lv ev nv vs es bs u h.n h.v h.e h.m).mono ?_
  rintro e w' ⟨v', rfl, hr, hb⟩
  exact ⟨v', rfl, ⟨hr.ints (by rw [dirL_len vs es bs (Nat.le_refl _)]; have := hp.l9; unfold maxLen; omega), dirL_rng _ _ _ _ _⟩, hb⟩

theorem lw_csub {w : World} {n : Nat} {tv lv ev nv : Value} {ns : List NdD} {vs : List VoD} {es bs : List Int} (hp : BlP n ns vs es bs) (u : World) (h : LwV w tv lv ev nv ns vs es bs u) (dv : Value) (dl : List Int) (hd : NumsV u dv dl) (hl : dl.length = ns.length) :
    Calls Try.prog 19 #[.agg #[tv], dv] u fun e w' => ∃ v', e = .returned v' ∧ NumsV w' v' (sbtL ns dl ns.length) ∧ Below u.heap.size u w' := by
  refine (csubtree_any ns hp.ok hp.nl dl tv dv u h.n hd hl).mono ?_
  rintro e w' ⟨v', rfl, hr, hb⟩
  exact ⟨v', rfl, hr.nums (sbtL_rng _ _ _), hb⟩

theorem lw_sub {w : World} {n : Nat} {tv lv ev nv : Value} {ns : List NdD} {vs : List VoD} {es bs : List Int} (hp : BlP n ns vs es bs) (u : World) (h : LwV w tv lv ev nv ns vs es bs u) (dv : Value) (dl : List Int) (hd : NumsV u dv dl) (hl : dl.length = ns.length) :
    Calls Try.prog 23 #[.agg #[tv], dv] u fun e w' => ∃ v', e = .returned v' ∧ NumsV w' v' (sbtL ns dl ns.length) ∧ Below u.heap.size u w' := by
  refine (subtree_any ns hp.ok hp.nl dl tv dv u h.n hd hl).mono ?_
  rintro e w' ⟨v', rfl, hr, hb⟩
  exact ⟨v', rfl, ⟨hr.ints (by rw [sbtL_len]; have := hp.l9; unfold maxLen; omega), sbtL_rng _ _ _⟩, hb⟩

theorem lw_dlen (ns : List NdD) (vs : List VoD) (es bs : List Int) : (dirL ns vs es bs ns.length).length = ns.length := dirL_len vs es bs (Nat.le_refl _)

theorem lw_same (v1 v2 : Value) (l : List Int) (u : World) (h1 : NumsV u v1 l) (h2 : NumsV u v2 l) : Calls Try.prog 18 #[v1, v2] u fun e w' => e = .returned (.bool true) ∧ Below u.heap.size u w' :=
  (snums2 v1 v2 l l u h1 h2).mono fun e w' ⟨b, he, hb, hbl⟩ => ⟨by rw [he, hb.2 rfl], hbl⟩

/-- Two lists besides. -/
structure LwD (w : World) (bt : Nat) (tv lv ev nv : Value) (ns : List NdD) (vs : List VoD) (es bs : List Int) (v1 v2 : Value) (l1 l2 : List Int) (u : World) : Prop where
  s : LwS w bt tv lv ev nv ns vs es bs u
  d : NumsV u v1 l1
  e : NumsV u v2 l2

theorem LwD.call {w u u' : World} {bt : Nat} {tv lv ev nv : Value} {ns : List NdD} {vs : List VoD} {es bs : List Int} {v1 v2 : Value} {l1 l2 : List Int} (h : LwD w bt tv lv ev nv ns vs es bs v1 v2 l1 l2 u) (hb : Below u.heap.size u u') : LwD w bt tv lv ev nv ns vs es bs v1 v2 l1 l2 u' :=
  ⟨h.s.call hb, ⟨h.d.1.below hb, h.d.2⟩, ⟨h.e.1.below hb, h.e.2⟩⟩
end

end Go.Proofs.Ytdlbobpglgjhiaa
