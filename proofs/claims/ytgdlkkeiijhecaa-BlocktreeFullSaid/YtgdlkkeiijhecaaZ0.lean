/- Several texts as one: TrA, TrB, TrC, TrD, TrE, TrF, TrG, TrH, TrJ, TrK, Kb. -/
import Derived.Test.YtgdlkkeiijhecaaNd
import Derived.Test.YtgdlkkeiijhecaaOwL
import Derived.Test.YtgdlkkeiijhecaaRt
import Derived.Test.YtgdlkkeiijhecaaEvA
import Derived.Test.YtgdlkkeiijhecaaOwn2
import Derived.Deep.CutRange
import Derived.Test.YtgdlkkeiijhecaaEvB
import Derived.Test.YtgdlkkeiijhecaaSo
import Derived.Test.YtgdlkkeiijhecaaPas
import Derived.Test.YtgdlkkeiijhecaaElN
namespace Go.Proofs.Ytgdlkkeiijhecaa

/-! TrA -/
section
set_option linter.unusedVariables false
set_option linter.unusedSimpArgs false
open Go.RowKit

set_option maxRecDepth 100000

/-- The index of the first node with this root from i on, -1 if there is none. -/
def findGo (ns : List NdD) (r : List Int) : Nat → Nat → Int
  | 0, _ => -1
  | f + 1, i => if ((ns[i]?).map (fun d => d.b.root)) = some r then i else findGo ns r f (i + 1)

def findN (ns : List NdD) (r : List Int) : Int := findGo ns r ns.length 0

theorem findGo_step {ns : List NdD} {r : List Int} {k : Nat} (hk : k < ns.length) : findGo ns r (ns.length - k) k = if ns[k].b.root = r then (k : Int) else findGo ns r (ns.length - (k + 1)) (k + 1) := by
  rw [show ns.length - k = (ns.length - (k + 1)) + 1 by omega]
  show (if ((ns[k]?).map (fun d => d.b.root)) = some r then (k : Int) else findGo ns r (ns.length - (k + 1)) (k + 1)) = _
  rw [List.getElem?_eq_getElem hk]
  simp

theorem findGo_spec (ns : List NdD) (r : List Int) : ∀ f i, (findGo ns r f i = -1 ∧ ∀ j, i ≤ j → j < i + f → (hj : j < ns.length) → ns[j].b.root ≠ r) ∨ ∃ k : Nat, i ≤ k ∧ k < i + f ∧ ∃ hk : k < ns.length, findGo ns r f i = k ∧ ns[k].b.root = r ∧ ∀ j, i ≤ j → j < k → (hj : j < ns.length) → ns[j].b.root ≠ r
  | 0, i => .inl ⟨rfl, fun j h1 h2 _ => by omega⟩
  | f + 1, i => by
    unfold findGo
    by_cases h : ((ns[i]?).map (fun d => d.b.root)) = some r
    · rw [if_pos h]
      by_cases hi : i < ns.length
      · rw [List.getElem?_eq_getElem hi] at h
        exact .inr ⟨i, Nat.le_refl _, by omega, hi, rfl, by simpa using h, fun j h1 h2 _ => by omega⟩
      · rw [List.getElem?_eq_none (by omega)] at h; cases h
    · rw [if_neg h]
      have hni : ∀ hi : i < ns.length, ns[i].b.root ≠ r := fun hi e => h (by rw [List.getElem?_eq_getElem hi]; simp [e])
      rcases findGo_spec ns r f (i + 1) with ⟨h1, h2⟩ | ⟨k, h1, h2, hk, h3, h4, h5⟩
      · refine .inl ⟨h1, fun j h3 h4 hj => ?_⟩
        by_cases e : j = i
        · subst e; exact hni hj
        · exact h2 j (by omega) (by omega) hj
      · refine .inr ⟨k, by omega, by omega, hk, h3, h4, fun j h6 h7 hj => ?_⟩
        by_cases e : j = i
        · subst e; exact hni hj
        · exact h5 j (by omega) h7 hj

theorem findN_spec (ns : List NdD) (r : List Int) : (findN ns r = -1 ∧ ∀ j, (hj : j < ns.length) → ns[j].b.root ≠ r) ∨ ∃ k : Nat, ∃ hk : k < ns.length, findN ns r = k ∧ ns[k].b.root = r ∧ ∀ j, j < k → (hj : j < ns.length) → ns[j].b.root ≠ r := by
  rcases findGo_spec ns r ns.length 0 with ⟨h1, h2⟩ | ⟨k, _, _, hk, h3, h4, h5⟩
  · exact .inl ⟨h1, fun j hj => h2 j (Nat.zero_le _) (by omega) hj⟩
  · exact .inr ⟨k, hk, h3, h4, fun j hj => h5 j (Nat.zero_le _) hj⟩

theorem findN_rng (ns : List NdD) (r : List Int) : -1 ≤ findN ns r ∧ findN ns r < ns.length := by
  rcases findN_spec ns r with ⟨h, _⟩ | ⟨k, hk, h, _⟩ <;> rw [h] <;> omega

def FindI (w : World) (ns : List NdD) (r : List Int) (T X : Array Value) (i : Value) (wr : World) : Prop :=
  ∃ k : Nat, k ≤ ns.length ∧ i = .int .i64 k ∧ findGo ns r (ns.length - k) k = findN ns r ∧ Blk wr w.heap.size T ∧ Blk wr (w.heap.size + 1) X ∧ Below w.heap.size w wr

set_option maxHeartbeats 4000000 in
theorem find_any (v : Value) (ns : List NdD) (r : List Int) (w : World) (hN : NodesV w v ns) (hr : IsBytes 32 r) :
    Calls Try.prog 23 #[.agg #[v], .agg (bytesL r).toArray] w fun e w' => e = .returned (.int .i64 (findN ns r)) ∧ Below w.heap.size w w' := by
  obtain ⟨a, cap, rfl, hmx⟩ := hN.shape
  unfold maxLen at hmx
  have HN := Lib.hid hN
  have HR := Lib.hid hr
  obtain ⟨q, hq⟩ : ∃ q, Hid (findN ns r = q) := ⟨_, Lib.hid rfl⟩
  rw [hq.out]
  obtain ⟨X, hX⟩ : ∃ X, Hid ((bytesL r).toArray = X) := ⟨_, Lib.hid rfl⟩
  rw [hX.out]
  have hsX : X.size = 32 := by rw [← hX.out, List.size_toArray, bytesL_len hr]
  have hiX : (Try.prog.info? 34).map (·.size) = some X.size := by rw [hsX]; kernel_rfl
  obtain ⟨m, hm⟩ : ∃ m, Hid (ns.length = m) := ⟨_, Lib.hid rfl⟩
  rw [hm.out] at hmx ⊢
  have HBA := Lib.hid (((Below.refl w.heap.size w).alloc (Nat.le_refl _) (.cells #[.slice a m cap] 24)).alloc (by simp) (.cells X 34))
  have HT : Hid (Blk ((w.alloc (.cells #[.slice a m cap] 24)).alloc (.cells X 34)) w.heap.size #[.slice a m cap]) := (Blk.new rfl).alloc _
  have HX : Hid (Blk ((w.alloc (.cells #[.slice a m cap] 24)).alloc (.cells X 34)) (w.heap.size + 1) X) := Blk.new (by simp)
  clear hN hr
  go_enter Try.func23, Try.ntmps23
  go_wp2_with fail
  go_loopw [5] (fun i wr => FindI w ns r #[.slice a m cap] X i wr) (fun i _ => m - (intOf i).toNat)
  case atStart => exact ⟨0, Nat.zero_le _, rfl, rfl, HT.out, HX.out, HBA.out⟩
  case round =>
    obtain ⟨k, hk, rfl, hf, ht, hx, hbl⟩ := hrel
    have HF := Lib.hid hf
    have HTr := Lib.hid ht
    have HXr := Lib.hid hx
    have HBL := Lib.hid hbl
    have hlt0 := ht.lt
    have HC0 : Hid (wr.cell? ⟨w.heap.size, 0, none⟩ = some (.slice a m cap)) := ht.cell 0
    rw [hm.out] at hk
    clear hf ht hx hbl
    by_cases hlt : k < m
    case neg =>
      obtain rfl : k = m := by omega
      have hqv : q = -1 := by rw [← hq.out, ← HF.out, hm.out, Nat.sub_self]; rfl
      have HQ := Lib.hid hqv
      clear hqv
      go_wp2_with (first
        | ((with_reducible refine at_load (.tmp 7) ?_); refine wpList_load_1 22 (.tmp 7) rfl w.heap.size 0 (.slice a k cap) HC0.out rfl _ Try.underlying22 rfl rfl ?_))
      go_ret
      exact ⟨by rw [HQ.out]; rfl, HBL.out⟩
    have hlt' : (k : Int) < m := by omega
    have hkn : k < ns.length := by rw [hm.out]; exact hlt
    obtain ⟨b, off, rfl, hlm, hbb, hna, hok⟩ := HN.out.elem (i := k) hkn
    have hrt := Below.rng HBL.out hbb hna.bk.root
    have HRT := Lib.hid hrt
    have hbw : b < wr.heap.size := Nat.lt_of_lt_of_le hbb HBL.out.size
    have hst := findGo_step (r := r) hkn
    have HEQ := fun u => eq_root hok.1.2.2.2.1 HR.out u
    have hiY : (Try.prog.info? 34).map (·.size) = some (bytesL ns[k].b.root).length := by rw [bytesL_len hok.1.2.2.2.1]; kernel_rfl
    obtain ⟨qr, hqr⟩ : ∃ q : Bool, decide (ns[k].b.root = r) = q := ⟨_, rfl⟩
    rw [hqr] at HEQ
    have HQR : Hid (qr = true ↔ ns[k].b.root = r) := by show _ ↔ _; rw [← hqr]; exact decide_eq_true_iff
    simp only [bytesL_V] at HEQ
    rw [hX.out] at HEQ
    obtain ⟨R, hR⟩ : ∃ R, bytesL ns[k].b.root = R := ⟨_, rfl⟩
    rw [hR] at HRT HEQ hiY
    have HST := Lib.hid hst
    clear hna hok hrt hst hqr hR hlm
    go_wp2_with (first
      | ((with_reducible refine at_load (.tmp 7) ?_); refine wpList_load_1 22 (.tmp 7) rfl w.heap.size 0 (.slice (some ⟨b, off, none⟩) m cap) HC0.out rfl _ Try.underlying22 rfl rfl ?_))
    refine wp_region_fam2 (by kernel_rfl) (by kernel_rfl) ?_
    intro T F hT hF hG
    have c0 : ∀ t, (F t).cell? ⟨w.heap.size, 0, none⟩ = some (.slice (some ⟨b, off, none⟩) m cap) := fun t => ((hF t).cell (p := ⟨w.heap.size, 0, none⟩) hlt0).trans HC0.out
    have CR := Lib.hid (show ∀ u, (∃ t, u = F t) → u.rangeAt b (off + k * 240 + 67) R by rintro _ ⟨t, rfl⟩; exact Below.rng (hF t) hbw HRT.out)
    have CX := Lib.hid (show ∀ u, (∃ t, u = F t) → Blk u (w.heap.size + 1) X by rintro _ ⟨t, rfl⟩; exact HXr.out.call (hF t))
    repeat (first
      | ((with_reducible refine at_qload (.tmp 18) ?_); refine wpQuiet_load_midE 34 _ rfl b (off + k * 240 + 67) (by simp [Act.eval]) R CR.out Try.underlying34 rfl hiY (by kernel_rfl) ?_; simp only [Act.put, List.setIfInBounds_toArray, List.set_cons_succ, List.set_cons_zero])
      | ((with_reducible refine at_qload (.tmp 3) ?_); refine wpQuiet_load 34 _ rfl (w.heap.size + 1) rfl X CX.out Try.underlying34 rfl hiX (by kernel_rfl) ?_; simp only [Act.put, List.setIfInBounds_toArray, List.set_cons_succ, List.set_cons_zero])
      | (go_big_quiet_step (fail)))
    refine wpQuiet_nil ?_
    rintro _ ⟨t, rfl⟩
    have hft := hF t
    obtain ⟨u, hu⟩ : ∃ u, F t = u := ⟨_, rfl⟩
    rw [hu] at hft ⊢
    have HB1 := Lib.hid (HBL.out.trans (hft.mono HBL.out.size))
    have HT1 := Lib.hid (HTr.out.call hft)
    have HX1 := Lib.hid (HXr.out.call hft)
    clear c0 CR CX hG hu hft hF hT
    clear t F T
    cases qr
    case false =>
      have hne : ¬ ns[k].b.root = r := fun h => by have := HQR.out.2 h; cases this
      rw [if_neg hne] at HST
      go_wp2_with fail
      go_roundw
      case rel => exact ⟨k + 1, by rw [hm.out]; omega, by go_num, by rw [← HST.out]; exact HF.out, HT1.out, HX1.out, HB1.out⟩
      case measure => simp [intOf]; omega
    case true =>
      rw [if_pos (HQR.out.1 rfl)] at HST
      have hqv : q = (k : Int) := by rw [← hq.out, ← HF.out]; exact HST.out
      have HQ := Lib.hid hqv
      clear hqv
      go_wp2_with fail
      go_ret
      exact ⟨by rw [HQ.out]; rfl, HB1.out⟩

set_option maxHeartbeats 4000000 in
theorem isn_any (v : Value) (ns : List NdD) (i : Int) (w : World) (hN : NodesV w v ns) :
    Calls Try.prog 34 #[.agg #[v], .int .i64 i] w fun e w' => e = .returned (.bool (decide (0 ≤ i ∧ i < ns.length))) ∧ Below w.heap.size w w' := by
  obtain ⟨a, cap, rfl, hmx⟩ := hN.shape
  unfold maxLen at hmx
  obtain ⟨m, hm⟩ : ∃ m, Hid (ns.length = m) := ⟨_, Lib.hid rfl⟩
  rw [hm.out] at hmx ⊢
  obtain ⟨q, hq⟩ : ∃ q : Bool, decide (0 ≤ i ∧ i < (m : Int)) = q := ⟨_, rfl⟩
  rw [hq]
  have HBA := Lib.hid ((Below.refl w.heap.size w).alloc (Nat.le_refl _) (.cells #[.slice a m cap] 24))
  have HC0 : Hid ((w.alloc (.cells #[.slice a m cap] 24)).cell? ⟨w.heap.size, 0, none⟩ = some (.slice a m cap)) := (Blk.new rfl).cell 0
  clear hN
  by_cases h0 : 0 ≤ i
  · have hge : ¬ i < 0 := by omega
    by_cases h1 : i < (m : Int)
    · have hqv : q = true := by rw [← hq]; exact decide_eq_true ⟨h0, h1⟩
      subst hqv
      go_enter Try.func34, Try.ntmps34
      go_wp2_with (first
        | ((with_reducible refine at_load (.tmp 9) ?_); refine wpList_load_1 22 (.tmp 9) rfl w.heap.size 0 (.slice a m cap) HC0.out rfl _ Try.underlying22 rfl rfl ?_))
      go_ret
      exact ⟨rfl, HBA.out⟩
    · have hqv : q = false := by rw [← hq]; exact decide_eq_false (fun h => h1 h.2)
      subst hqv
      go_enter Try.func34, Try.ntmps34
      go_wp2_with (first
        | ((with_reducible refine at_load (.tmp 9) ?_); refine wpList_load_1 22 (.tmp 9) rfl w.heap.size 0 (.slice a m cap) HC0.out rfl _ Try.underlying22 rfl rfl ?_))
      go_ret
      exact ⟨rfl, HBA.out⟩
  · have hqv : q = false := by rw [← hq]; exact decide_eq_false (fun h => h0 h.1)
    subst hqv
    have h0' : (0 ≤ i) = False := eq_false h0
    clear h0
    go_enter Try.func34, Try.ntmps34
    go_wp2_with fail
    go_ret
    exact ⟨rfl, HBA.out⟩
end

/-! TrB -/
section
set_option linter.unusedVariables false
set_option linter.unusedSimpArgs false
open Go.RowKit

set_option maxRecDepth 100000

theorem status_any (n : Int) (w : World) :
    Calls Try.prog 29 #[.int .i64 n] w fun e w' => e = .returned (.bool (decide (0 ≤ n ∧ n ≤ 2))) ∧ Below w.heap.size w w' := by
  by_cases h0 : 0 ≤ n
  · by_cases h1 : n ≤ 2
    · have hq : decide (0 ≤ n ∧ n ≤ 2) = true := decide_eq_true ⟨h0, h1⟩
      rw [hq]
      clear hq
      go_enter Try.func29, Try.ntmps29
      go_wp2_with fail
      go_ret
      exact ⟨rfl, Below.refl _ _⟩
    · have hq : decide (0 ≤ n ∧ n ≤ 2) = false := decide_eq_false (fun h => h1 h.2)
      rw [hq]
      have h1' : (n ≤ 2) = False := eq_false h1
      clear hq h1
      go_enter Try.func29, Try.ntmps29
      go_wp2_with fail
      go_ret
      exact ⟨rfl, Below.refl _ _⟩
  · have hq : decide (0 ≤ n ∧ n ≤ 2) = false := decide_eq_false (fun h => h0 h.1)
    rw [hq]
    have h0' : (0 ≤ n) = False := eq_false h0
    clear hq h0
    go_enter Try.func29, Try.ntmps29
    go_wp2_with fail
    go_ret
    exact ⟨rfl, Below.refl _ _⟩

theorem build_nd (x : BkD) (up st : Int) (hx : x.ok) (u : World) : (Instr.build 44 #[(0, .agg (flatP x.parts)), (1, .int .i64 up), (2, .int .i64 st)]).run Try.prog u = .ok (.agg (⟨x, up, st⟩ : NdD).cells.toArray) u := by
  have hl := BkD.flen hx
  refine build_struct (zero := flatP [zeBkP.flatten, [.int .i64 0], [.int .i64 0]]) (fun w => by kernel_rfl) Try.underlying44 (places := #[(0, 238), (238, 1), (239, 1)]) (fun w => by kernel_rfl) ?_ u
  show Instr.fill _ (flatP [zeBkP.flatten, [.int .i64 0], [.int .i64 0]]) [(0, .agg (flatP x.parts)), (1, .int .i64 up), (2, .int .i64 st)] = _
  rw [fill_part 0 zeBkP.flatten x.parts.flatten rfl rfl (by rw [hl]; rfl) rfl (by rw [hl]; rfl), fill_part (i := 1) (o := 238) 1 [.int .i64 0] [.int .i64 up] rfl rfl rfl (by simp [offP, hl]) rfl, fill_part (i := 2) (o := 239) 2 [.int .i64 0] [.int .i64 st] rfl rfl rfl (by simp [offP, hl]) rfl]
  unfold Instr.fill
  simp [flatP, NdD.cells]

theorem bz_tree (u : World) : (Instr.build 24 #[]).run Try.prog u = .ok (.agg #[.slice none 0 0]) u := by kernel_rfl

theorem b_tree (a : Option Addr) (n c : Nat) (u : World) : (Instr.build 24 #[(0, .slice a n c)]).run Try.prog u = .ok (.agg #[.slice a n c]) u := by kernel_rfl

theorem bel_node {X : Array Value} (hX : X.size = 240) (u : World) : (Instr.buildSlice 22 1 #[(0, .agg X)]).run Try.prog u = .ok (.slice (some ⟨u.heap.size, 0, none⟩) 1 1) (u.alloc (.cells X 44)) :=
  buildEl (P := Try.prog) (t := 22) (e := 44) (Z := flatP (zeBkP ++ [[.int .i64 0], [.int .i64 0]])) (X := X) (sz := 240) Try.underlying22 (fun w => by kernel_rfl) (by kernel_rfl) (by rfl) hX (by omega) (by omega) u

/-- One node in a block of its own. -/
theorem nodes_one {w : World} {g : Nat} {d : NdD} (h : Blk w g d.cells.toArray) (hd : d.ok) : NodesV w (.slice (some ⟨g, 0, none⟩) 1 1) [d] := by
  refine ⟨_, 1, rfl, by unfold maxLen; simp, .inr ⟨g, 0, rfl, h.lt, [d.cells.toArray], ?_, rfl, ?_⟩⟩
  · have := h.rng
    simpa [rowsL] using this
  · intro p hp
    simp only [List.zip_cons_cons, List.zip_nil_right, List.mem_singleton] at hp
    rw [hp]; exact ⟨rfl, hd⟩

set_option maxHeartbeats 4000000 in
theorem newt_any (x : BkD) (st : Int) (w : World) (hx : x.ok) (hst : -9223372036854775808 ≤ st ∧ st ≤ 9223372036854775807) :
    Calls Try.prog 27 #[.agg (flatP x.parts), .int .i64 st] w fun e w' => ∃ v, e = .returned (.agg #[v]) ∧ NodesV w' v [⟨x, -1, st⟩] ∧ New w.heap.size v ∧ CapOK v ∧ Below w.heap.size w w' := by
  have hok : (⟨x, -1, st⟩ : NdD).ok := ⟨hx, by show (-9223372036854775808 : Int) ≤ -1 ∧ (-1 : Int) ≤ _; omega, hst⟩
  have HN := Lib.hid (fun u => build_nd x (-1) st hx u)
  obtain ⟨d, hd⟩ : ∃ d : NdD, Hid ((⟨x, -1, st⟩ : NdD) = d) := ⟨_, Lib.hid rfl⟩
  rw [hd.out] at HN hok ⊢
  obtain ⟨Y, hY⟩ : ∃ Y, Hid (d.cells.toArray = Y) := ⟨_, Lib.hid rfl⟩
  have hsY : Hid (Y.size = 240) := by show Y.size = 240; rw [← hY.out, List.size_toArray, NdD.len hok]
  have hsX : (flatP x.parts).size = 238 := by rw [flatP_size, BkD.flen hx]
  have HOK := Lib.hid hok
  rw [hY.out] at HN
  obtain ⟨X, hX⟩ : ∃ X, flatP x.parts = X := ⟨_, rfl⟩
  rw [hX] at HN hsX ⊢
  have hiX : (Try.prog.info? 42).map (·.size) = some X.size := by rw [hsX]; kernel_rfl
  have hi1 : (Try.prog.info? 24).map (·.size) = some 1 := by kernel_rfl
  obtain ⟨hz1, hst1⟩ := zero_array (P := Try.prog) (t := 24) (n := 1) #[.slice none 0 0] (by kernel_rfl) rfl (by kernel_rfl)
  have HBA := Lib.hid (((Below.refl w.heap.size w).alloc (Nat.le_refl _) (.cells X 42)).alloc (by simp) (.cells #[.slice none 0 0] 24))
  have HX : Hid (Blk ((w.alloc (.cells X 42)).alloc (.cells #[.slice none 0 0] 24)) w.heap.size X) := (Blk.new rfl).alloc _
  have HZ : Hid (Blk ((w.alloc (.cells X 42)).alloc (.cells #[.slice none 0 0] 24)) (w.heap.size + 1) #[.slice none 0 0]) := Blk.new (by simp)
  clear hX hx hok hst1
  go_enter Try.func27, Try.ntmps27
  go_wp2_with (first
    | ((with_reducible refine at_load (.tmp 2) ?_); refine wpList_load_g 42 (.tmp 2) rfl w.heap.size rfl X _ HX.out Try.underlying42 rfl hiX rfl ?_)
    | ((with_reducible refine at_build (some 7) ?_); refine wpList_build_g 44 _ rfl #[(0, .agg X), (1, .int .i64 (-1)), (2, .int .i64 st)] (by simp [Act.eval, Act.put]) (.agg Y) (HN.out _) rfl ?_)
    | ((with_reducible refine at_buildSliceE (some 8) ?_); refine wpList_buildSliceE rfl 22 1 _ rfl #[(0, .agg Y)] (by simp [Act.eval, Act.put]) _ (bel_node hsY.out _) ?_)
    | ((with_reducible refine at_build (some 9) ?_); refine wpList_build_g 24 _ rfl #[(0, .slice (some ⟨((w.alloc (.cells X 42)).alloc (.cells #[.slice none 0 0] 24)).heap.size, 0, none⟩) 1 1)] (by simp [Act.eval, Act.put]) (.agg #[.slice (some ⟨((w.alloc (.cells X 42)).alloc (.cells #[.slice none 0 0] 24)).heap.size, 0, none⟩) 1 1]) (b_tree _ _ _ _) rfl ?_)
    | ((with_reducible refine at_store (.tmp 4) ?_); refine wpList_store_blk rfl 24 (.tmp 4) _ rfl (w.heap.size + 1) #[.slice (some ⟨((w.alloc (.cells X 42)).alloc (.cells #[.slice none 0 0] 24)).heap.size, 0, none⟩) 1 1] rfl rfl #[.slice none 0 0] (HZ.out.alloc _) rfl hi1 (by simp [Value.oneCell']) ?_; intro w5 U5 B5; have HR5 := Lib.hid B5; have HU5 := Lib.hid U5; clear U5 B5))
  have hb5 : Below w.heap.size w w5 := HU5.out.below (HBA.out.alloc HBA.out.size (.cells Y 44)) (by omega)
  have hYb : Blk w5 ((w.alloc (.cells X 42)).alloc (.cells #[.slice none 0 0] 24)).heap.size d.cells.toArray := by
    rw [hY.out]
    exact HU5.out.blk (Blk.new rfl) (by simp)
  refine bodyPost_ret (res_cellB rfl rfl HR5.out Try.underlying24 rfl hi1) rfl ⟨_, rfl, nodes_one hYb HOK.out, ?_, (fun a n c e => by cases e; omega), hb5⟩
  intro z l c e _
  cases e
  simp
  omega

/-- What Insert makes of a tree. -/
def slotAt (ns : List NdD) (i : Int) : Int := ((ns[i.toNat]?).map (fun d => d.b.slot)).getD 0

def insT (ns : List NdD) (x : BkD) (st : Int) : List NdD × Int :=
  if ¬ (0 ≤ st ∧ st ≤ 2) then ([], 2) else if 0 ≤ findN ns x.root then ([], 9) else if findN ns x.parent < 0 then ([], 10) else if x.slot ≤ slotAt ns (findN ns x.parent) then ([], 14) else if 4096 ≤ ns.length then ([], 11) else (ns ++ [⟨x, findN ns x.parent, st⟩], 0)

/-- The row behind a slice of nodes. -/
theorem NodesV.row {w : World} {a : Option Addr} {m cap : Nat} {ns : List NdD} (h : NodesV w (.slice a m cap) ns) :
    ∃ Xs, (∀ P u, AllEl NdEl P u Xs ns) ∧ (ns.length = 0 ∨ ∃ b off, a = some ⟨b, off, none⟩ ∧ b < w.heap.size ∧ w.rangeAt b off (rowsL Xs)) := by
  obtain ⟨a', cap', e, hl, hr⟩ := h
  cases e
  rcases hr with h0 | ⟨b, off, rfl, hlt, Xs, h1, h2⟩
  · obtain rfl := List.eq_nil_of_length_eq_zero h0
    exact ⟨[], fun P u => AllEl.nil _ _, .inl rfl⟩
  · exact ⟨Xs, fun P u => h2.imp fun X d hX => hX, .inr ⟨b, off, rfl, hlt, h1⟩⟩

theorem row_at {w u : World} {a : Option Addr} {n : Nat} {Ys : List (Array Value)} (h : n = 0 ∨ ∃ b off, a = some ⟨b, off, none⟩ ∧ b < w.heap.size ∧ w.rangeAt b off (rowsL Ys)) (hb : Below w.heap.size w u) : n = 0 ∨ ∃ b off, a = some ⟨b, off, none⟩ ∧ u.rangeAt b off (rowsL Ys) := by
  rcases h with h | ⟨b, off, e, hlt, hr⟩
  · exact .inl h
  · exact .inr ⟨b, off, e, Below.rng hb hlt hr⟩

theorem OwnEl.newEl {α : Type} {sz : Nat} {El : (Value → Prop) → World → Array Value → α → Prop} {e : TypeId} {w : World} {B : Nat} {v : Value} {ds : List α} (h : OwnEl El e sz w B v ds) : New B v := by
  obtain ⟨Xs, h3, _⟩ := h
  intro z l c e' _
  rcases h3.2 with ⟨rfl, _⟩ | ⟨s, cap, cur, rfl, hb, _⟩
  · cases e'
  · cases e'; exact hb

/-- The variables of Insert. -/
structure InsS (w : World) (T X Z : Array Value) (u : World) : Prop where
  t : Blk u w.heap.size T
  x : Blk u (w.heap.size + 1) X
  z : Blk u (w.heap.size + 2) Z
  b : Below w.heap.size w u

structure InsR (w : World) (T X : Array Value) (u : World) : Prop where
  t : Blk u w.heap.size T
  x : Blk u (w.heap.size + 1) X
  b : Below w.heap.size w u

theorem InsS.r {w u : World} {T X Z : Array Value} (h : InsS w T X Z u) : InsR w T X u := ⟨h.t, h.x, h.b⟩

theorem InsS.call {w u u' : World} {T X Z : Array Value} (h : InsS w T X Z u) (hb : Below u.heap.size u u') : InsS w T X Z u' := ⟨h.t.call hb, h.x.call hb, h.z.call hb, h.b.trans (hb.mono h.b.size)⟩

theorem grown_none {w w' : World} (h : w.grownBy w' none) : Below w.heap.size w w' := ⟨h.os, h.tape, h.output, h.size, fun k hk => h.block k hk (by simp)⟩

/-- What Insert promises. -/
def InsTE (ns : List NdD) (x : BkD) (st : Int) (w : World) (e : Ending) (w' : World) : Prop :=
  ∃ v', e = .returned (.tuple #[.agg #[v'], .int .i64 (insT ns x st).2]) ∧ NodesV w' v' (insT ns x st).1 ∧ New w.heap.size v' ∧ CapOK v' ∧ Below w.heap.size w w'

theorem nodes_nil (w : World) : NodesV w (.slice none 0 0) [] := ⟨none, 0, rfl, Nat.zero_le _, .inl rfl⟩

set_option maxHeartbeats 16000000 in
theorem insn_any (v : Value) (ns : List NdD) (x : BkD) (st : Int) (w : World) (hN : NodesV w v ns) (hx : x.ok) (hst : -9223372036854775808 ≤ st ∧ st ≤ 9223372036854775807) :
    Calls Try.prog 15 #[.agg #[v], .agg (flatP x.parts), .int .i64 st] w (InsTE ns x st w) := by
  obtain ⟨a, cap, rfl, hmx⟩ := hN.shape
  unfold maxLen at hmx
  have HN := Lib.hid hN
  have HX := Lib.hid hx
  have HST := Lib.hid hst
  have HFR := Lib.hid (fun u (hu : Below w.heap.size w u) => find_any _ ns x.root u (hN.call hu) hx.2.2.2.1)
  have HFP := Lib.hid (fun u (hu : Below w.heap.size w u) => find_any _ ns x.parent u (hN.call hu) hx.2.2.2.2.1)
  have HSS := Lib.hid (fun u => status_any st u)
  have hsX : (flatP x.parts).size = 238 := by rw [flatP_size, BkD.flen hx]
  have HBK : Hid (∀ u b, Blk u b (flatP x.parts) → BkAt u b 0 x) := fun u b hu => bk_at (Blk.rng hu) hx
  obtain ⟨X, hX⟩ : ∃ X, flatP x.parts = X := ⟨_, rfl⟩
  rw [hX] at HBK hsX ⊢
  have HXE := Lib.hid hX
  have hiX : (Try.prog.info? 42).map (·.size) = some X.size := by rw [hsX]; kernel_rfl
  have hi1 : (Try.prog.info? 24).map (·.size) = some 1 := by kernel_rfl
  have hir : (Try.prog.info? 34).map (·.size) = some (bytesL x.root).length := by rw [bytesL_len hx.2.2.2.1]; kernel_rfl
  have hip : (Try.prog.info? 34).map (·.size) = some (bytesL x.parent).length := by rw [bytesL_len hx.2.2.2.2.1]; kernel_rfl
  obtain ⟨hz1, hst1⟩ := zero_array (P := Try.prog) (t := 24) (n := 1) #[.slice none 0 0] (by kernel_rfl) rfl (by kernel_rfl)
  obtain ⟨m, hm⟩ : ∃ m, Hid (ns.length = m) := ⟨_, Lib.hid rfl⟩
  rw [hm.out] at hmx HFR HFP HN ⊢
  have S0 : Hid (InsS w #[.slice a m cap] X #[.slice none 0 0] (((w.alloc (.cells #[.slice a m cap] 24)).alloc (.cells X 42)).alloc (.cells #[.slice none 0 0] 24))) :=
    ⟨((Blk.new rfl).alloc _).alloc _, (Blk.new (by simp)).alloc _, Blk.new (by simp), (((Below.refl w.heap.size w).alloc (Nat.le_refl _) (.cells #[.slice a m cap] 24)).alloc (by simp) (.cells X 42)).alloc (by simp; omega) (.cells #[.slice none 0 0] 24)⟩
  obtain ⟨fr, hfr⟩ : ∃ z, findN ns x.root = z := ⟨_, rfl⟩
  obtain ⟨fp, hfp⟩ : ∃ z, findN ns x.parent = z := ⟨_, rfl⟩
  have hfpr := findN_rng ns x.parent
  rw [hfr] at HFR
  rw [hfp] at HFP hfpr
  rw [hm.out] at hfpr
  obtain ⟨R1, h1⟩ : ∃ z, bytesL x.root = z := ⟨_, rfl⟩
  obtain ⟨R2, h2⟩ : ∃ z, bytesL x.parent = z := ⟨_, rfl⟩
  have HB1 := Lib.hid h1
  have HB2 := Lib.hid h2
  rw [h1] at HFR hir
  rw [h2] at HFP hip
  clear hN hx hX hst1 h1 h2
  unfold InsTE
  obtain ⟨res, hres⟩ : ∃ z, insT ns x st = z := ⟨_, rfl⟩
  rw [hres]
  unfold insT at hres
  rw [hfr, hfp, hm.out] at hres
  by_cases hs : ¬ (0 ≤ st ∧ st ≤ 2)
  · skip
    rw [if_pos hs] at hres
    have hqs : Hid (decide (0 ≤ st ∧ st ≤ 2) = false) := decide_eq_false hs
    clear hs
    go_enter Try.func15, Try.ntmps15
    go_wp2_with (first
      | ((with_reducible refine at_build (some 12) ?_); refine wpList_build_g 24 _ rfl #[] (by simp) (.agg #[.slice none 0 0]) (bz_tree _) rfl ?_)
      | ((with_reducible refine at_store (.tmp 6) ?_); refine wpList_store_blk rfl 24 (.tmp 6) _ rfl (w.heap.size + 2) #[.slice none 0 0] rfl rfl #[.slice none 0 0] S1.out.z rfl hi1 (by simp [Value.oneCell']) ?_; intro w9 U9 B9; have HR9 := Lib.hid B9; have HB9 := Lib.hid (U9.below S1.out.b (by omega)); clear U9 B9)
      | (go_at_call 29; refine (HSS.out _).mono ?_; rintro e w1 ⟨rfl, hb1⟩; rw [hqs.out]; have S1 := Lib.hid (S0.out.call hb1); clear hb1)
      | fail)
    exact bodyPost_ret (res_cell_tmp rfl rfl rfl HR9.out Try.underlying24 rfl hi1) rfl ⟨_, by rw [← hres]; rfl, by rw [← hres]; exact nodes_nil _, New.nil _, CapOK.nil, HB9.out⟩
  rw [if_neg hs] at hres
  have hqs : Hid (decide (0 ≤ st ∧ st ≤ 2) = true) := decide_eq_true (Classical.not_not.1 hs)
  clear hs
  by_cases h9 : 0 ≤ fr
  · skip
    rw [if_pos h9] at hres
    have h9' : ¬ fr < 0 := by omega
    go_enter Try.func15, Try.ntmps15
    go_wp2_with (first
      | ((with_reducible refine at_build (some 18) ?_); refine wpList_build_g 24 _ rfl #[] (by simp) (.agg #[.slice none 0 0]) (bz_tree _) rfl ?_)
      | ((with_reducible refine at_store (.tmp 6) ?_); refine wpList_store_blk rfl 24 (.tmp 6) _ rfl (w.heap.size + 2) #[.slice none 0 0] rfl rfl #[.slice none 0 0] S2.out.z rfl hi1 (by simp [Value.oneCell']) ?_; intro w9 U9 B9; have HR9 := Lib.hid B9; have HB9 := Lib.hid (U9.below S2.out.b (by omega)); clear U9 B9)
      | (go_at_call 23; refine (HFR.out _ S1.out.b).mono ?_; rintro e w2 ⟨rfl, hb2⟩; have S2 := Lib.hid (S1.out.call hb2); clear hb2)
      | (go_at_call 29; refine (HSS.out _).mono ?_; rintro e w1 ⟨rfl, hb1⟩; rw [hqs.out]; have S1 := Lib.hid (S0.out.call hb1); clear hb1)
      | ((with_reducible refine at_load (.tmp 14) ?_); refine wpList_load_rng 34 (.tmp 14) rfl (w.heap.size + 1) 67 R1 (by have := (HBK.out _ _ S1.out.x).root; rw [Nat.zero_add, HB1.out] at this; exact this) rfl _ Try.underlying34 rfl hir rfl ?_)
      | ((with_reducible refine at_load (.tmp 3) ?_); refine wpList_load_g 24 (.tmp 3) rfl w.heap.size rfl #[.slice a m cap] _ S1.out.t Try.underlying24 rfl hi1 rfl ?_)
      | fail)
    exact bodyPost_ret (res_cell_tmp rfl rfl rfl HR9.out Try.underlying24 rfl hi1) rfl ⟨_, by rw [← hres]; rfl, by rw [← hres]; exact nodes_nil _, New.nil _, CapOK.nil, HB9.out⟩
  rw [if_neg h9] at hres
  have h9 : (0 ≤ fr) = False := eq_false h9
  by_cases h10 : fp < 0
  · skip
    rw [if_pos h10] at hres
    go_enter Try.func15, Try.ntmps15
    go_wp2_with (first
      | ((with_reducible refine at_load (.tmp 20) ?_); refine wpList_load_rng 34 (.tmp 20) rfl (w.heap.size + 1) 99 R2 (by have := (HBK.out _ _ S2.out.x).parent; rw [Nat.zero_add, HB2.out] at this; exact this) rfl _ Try.underlying34 rfl hip rfl ?_)
      | ((with_reducible refine at_load (.tmp 3) ?_); refine wpList_load_g 24 (.tmp 3) rfl w.heap.size rfl #[.slice a m cap] _ S2.out.t Try.underlying24 rfl hi1 rfl ?_)
      | ((with_reducible refine at_build (some 25) ?_); refine wpList_build_g 24 _ rfl #[] (by simp) (.agg #[.slice none 0 0]) (bz_tree _) rfl ?_)
      | ((with_reducible refine at_store (.tmp 6) ?_); refine wpList_store_blk rfl 24 (.tmp 6) _ rfl (w.heap.size + 2) #[.slice none 0 0] rfl rfl #[.slice none 0 0] S3.out.z rfl hi1 (by simp [Value.oneCell']) ?_; intro w9 U9 B9; have HR9 := Lib.hid B9; have HB9 := Lib.hid (U9.below S3.out.b (by omega)); clear U9 B9)
      | (go_at_call 23; refine (HFP.out _ S2.out.b).mono ?_; rintro e w3 ⟨rfl, hb3⟩; have S3 := Lib.hid (S2.out.call hb3); clear hb3)
      | (go_at_call 23; refine (HFR.out _ S1.out.b).mono ?_; rintro e w2 ⟨rfl, hb2⟩; have S2 := Lib.hid (S1.out.call hb2); clear hb2)
      | (go_at_call 29; refine (HSS.out _).mono ?_; rintro e w1 ⟨rfl, hb1⟩; rw [hqs.out]; have S1 := Lib.hid (S0.out.call hb1); clear hb1)
      | ((with_reducible refine at_load (.tmp 14) ?_); refine wpList_load_rng 34 (.tmp 14) rfl (w.heap.size + 1) 67 R1 (by have := (HBK.out _ _ S1.out.x).root; rw [Nat.zero_add, HB1.out] at this; exact this) rfl _ Try.underlying34 rfl hir rfl ?_)
      | ((with_reducible refine at_load (.tmp 3) ?_); refine wpList_load_g 24 (.tmp 3) rfl w.heap.size rfl #[.slice a m cap] _ S1.out.t Try.underlying24 rfl hi1 rfl ?_)
      | fail)
    exact bodyPost_ret (res_cell_tmp rfl rfl rfl HR9.out Try.underlying24 rfl hi1) rfl ⟨_, by rw [← hres]; rfl, by rw [← hres]; exact nodes_nil _, New.nil _, CapOK.nil, HB9.out⟩
  rw [if_neg h10] at hres
  obtain ⟨k, rfl⟩ : ∃ k : Nat, fp = k := ⟨fp.toNat, by omega⟩
  have h10' : ((k : Int) < 0) = False := eq_false h10
  clear h10
  have hk : k < m := by omega
  have hk' : (k : Int) < m := by omega
  have hkn : k < ns.length := by rw [hm.out]; exact hk
  obtain ⟨b, off, rfl, hlm, hbb, hna, hok⟩ := HN.out.elem hkn
  have hsl : slotAt ns (k : Int) = ns[k].b.slot := by simp [slotAt, List.getElem?_eq_getElem hkn]
  rw [hsl] at hres
  have HSL := Lib.hid hna.bk.slot
  obtain ⟨s1, hs1⟩ : ∃ z, ns[k].b.slot = z := ⟨_, rfl⟩
  obtain ⟨s0, hs0⟩ : ∃ z, x.slot = z := ⟨_, rfl⟩
  rw [hs1] at HSL hres
  rw [hs0] at hres
  have HS0 := Lib.hid hs0
  clear hna hok hsl hs1 hs0 hlm
  by_cases h14 : s0 ≤ s1
  · skip
    rw [if_pos h14] at hres
    go_enter Try.func15, Try.ntmps15
    go_wp2_with (first
      | ((with_reducible refine at_load (.tmp 20) ?_); refine wpList_load_rng 34 (.tmp 20) rfl (w.heap.size + 1) 99 R2 (by have := (HBK.out _ _ S2.out.x).parent; rw [Nat.zero_add, HB2.out] at this; exact this) rfl _ Try.underlying34 rfl hip rfl ?_)
      | ((with_reducible refine at_load (.tmp 3) ?_); refine wpList_load_g 24 (.tmp 3) rfl w.heap.size rfl #[.slice (some ⟨b, off, none⟩) m cap] _ S2.out.t Try.underlying24 rfl hi1 rfl ?_)
      | (go_at_call 23; refine (HFP.out _ S2.out.b).mono ?_; rintro e w3 ⟨rfl, hb3⟩; have S3 := Lib.hid (S2.out.call hb3); clear hb3)
      | (go_at_call 23; refine (HFR.out _ S1.out.b).mono ?_; rintro e w2 ⟨rfl, hb2⟩; have S2 := Lib.hid (S1.out.call hb2); clear hb2)
      | (go_at_call 29; refine (HSS.out _).mono ?_; rintro e w1 ⟨rfl, hb1⟩; rw [hqs.out]; have S1 := Lib.hid (S0.out.call hb1); clear hb1)
      | ((with_reducible refine at_load (.tmp 14) ?_); refine wpList_load_rng 34 (.tmp 14) rfl (w.heap.size + 1) 67 R1 (by have := (HBK.out _ _ S1.out.x).root; rw [Nat.zero_add, HB1.out] at this; exact this) rfl _ Try.underlying34 rfl hir rfl ?_)
      | ((with_reducible refine at_load (.tmp 3) ?_); refine wpList_load_g 24 (.tmp 3) rfl w.heap.size rfl #[.slice (some ⟨b, off, none⟩) m cap] _ S1.out.t Try.underlying24 rfl hi1 rfl ?_)
      | fail)
    refine wp_region_fam2 (by kernel_rfl) (by kernel_rfl) ?_
    intro T F hT hF hG
    have c0 : ∀ t, (F t).cell? ⟨w.heap.size, 0, none⟩ = some (.slice (some ⟨b, off, none⟩) m cap) := fun t => (S3.out.call (hF t)).t.cell 0
    have c1 : ∀ t, (F t).cell? ⟨w.heap.size + 1, 66, none⟩ = some (.int .u64 s0) := fun t => by
      have := (HBK.out _ _ (S3.out.call (hF t)).x).slot
      rw [Nat.zero_add, HS0.out] at this
      exact this
    have c2 : ∀ t, (F t).cell? ⟨b, off + k * 240 + 66, none⟩ = some (.int .u64 s1) := fun t => ((S3.out.call (hF t)).b.cell (p := ⟨b, off + k * 240 + 66, none⟩) hbb).trans HSL.out
    repeat (go_big_quiet_step (fail))
    refine wpQuiet_nil ?_
    rintro _ ⟨t, rfl⟩
    have S4 := Lib.hid (S3.out.call (hF t))
    obtain ⟨w4, hw4⟩ : ∃ u, F t = u := ⟨_, rfl⟩
    rw [hw4] at S4 ⊢
    clear c0 c1 c2 hG hw4 hF hT
    clear t F T
    go_wp2_with (first
      | ((with_reducible refine at_build (some 36) ?_); refine wpList_build_g 24 _ rfl #[] (by simp) (.agg #[.slice none 0 0]) (bz_tree _) rfl ?_)
      | ((with_reducible refine at_store (.tmp 6) ?_); refine wpList_store_blk rfl 24 (.tmp 6) _ rfl (w.heap.size + 2) #[.slice none 0 0] rfl rfl #[.slice none 0 0] S4.out.z rfl hi1 (by simp [Value.oneCell']) ?_; intro w9 U9 B9; have HR9 := Lib.hid B9; have HB9 := Lib.hid (U9.below S4.out.b (by omega)); clear U9 B9)
      | fail)
    exact bodyPost_ret (res_cell_tmp rfl rfl rfl HR9.out Try.underlying24 rfl hi1) rfl ⟨_, by rw [← hres]; rfl, by rw [← hres]; exact nodes_nil _, New.nil _, CapOK.nil, HB9.out⟩
  rw [if_neg h14] at hres
  have h14' : (s0 ≤ s1) = False := eq_false h14
  clear h14
  by_cases h11 : 4096 ≤ m
  · skip
    rw [if_pos h11] at hres
    have h11' : (4096 : Int) ≤ m := by omega
    go_enter Try.func15, Try.ntmps15
    go_wp2_with (first
      | ((with_reducible refine at_load (.tmp 20) ?_); refine wpList_load_rng 34 (.tmp 20) rfl (w.heap.size + 1) 99 R2 (by have := (HBK.out _ _ S2.out.x).parent; rw [Nat.zero_add, HB2.out] at this; exact this) rfl _ Try.underlying34 rfl hip rfl ?_)
      | ((with_reducible refine at_load (.tmp 3) ?_); refine wpList_load_g 24 (.tmp 3) rfl w.heap.size rfl #[.slice (some ⟨b, off, none⟩) m cap] _ S2.out.t Try.underlying24 rfl hi1 rfl ?_)
      | (go_at_call 23; refine (HFP.out _ S2.out.b).mono ?_; rintro e w3 ⟨rfl, hb3⟩; have S3 := Lib.hid (S2.out.call hb3); clear hb3)
      | (go_at_call 23; refine (HFR.out _ S1.out.b).mono ?_; rintro e w2 ⟨rfl, hb2⟩; have S2 := Lib.hid (S1.out.call hb2); clear hb2)
      | (go_at_call 29; refine (HSS.out _).mono ?_; rintro e w1 ⟨rfl, hb1⟩; rw [hqs.out]; have S1 := Lib.hid (S0.out.call hb1); clear hb1)
      | ((with_reducible refine at_load (.tmp 14) ?_); refine wpList_load_rng 34 (.tmp 14) rfl (w.heap.size + 1) 67 R1 (by have := (HBK.out _ _ S1.out.x).root; rw [Nat.zero_add, HB1.out] at this; exact this) rfl _ Try.underlying34 rfl hir rfl ?_)
      | ((with_reducible refine at_load (.tmp 3) ?_); refine wpList_load_g 24 (.tmp 3) rfl w.heap.size rfl #[.slice (some ⟨b, off, none⟩) m cap] _ S1.out.t Try.underlying24 rfl hi1 rfl ?_)
      | fail)
    refine wp_region_fam2 (by kernel_rfl) (by kernel_rfl) ?_
    intro T F hT hF hG
    have c0 : ∀ t, (F t).cell? ⟨w.heap.size, 0, none⟩ = some (.slice (some ⟨b, off, none⟩) m cap) := fun t => (S3.out.call (hF t)).t.cell 0
    have c1 : ∀ t, (F t).cell? ⟨w.heap.size + 1, 66, none⟩ = some (.int .u64 s0) := fun t => by
      have := (HBK.out _ _ (S3.out.call (hF t)).x).slot
      rw [Nat.zero_add, HS0.out] at this
      exact this
    have c2 : ∀ t, (F t).cell? ⟨b, off + k * 240 + 66, none⟩ = some (.int .u64 s1) := fun t => ((S3.out.call (hF t)).b.cell (p := ⟨b, off + k * 240 + 66, none⟩) hbb).trans HSL.out
    repeat (go_big_quiet_step (fail))
    refine wpQuiet_nil ?_
    rintro _ ⟨t, rfl⟩
    have S4 := Lib.hid (S3.out.call (hF t))
    obtain ⟨w4, hw4⟩ : ∃ u, F t = u := ⟨_, rfl⟩
    rw [hw4] at S4 ⊢
    clear c0 c1 c2 hG hw4 hF hT
    clear t F T
    go_wp2_with (first
      | ((with_reducible refine at_load (.tmp 37) ?_); refine wpList_load_1 22 (.tmp 37) rfl w.heap.size 0 (.slice (some ⟨b, off, none⟩) m cap) (S4.out.t.cell 0) rfl _ Try.underlying22 rfl rfl ?_)
      | ((with_reducible refine at_build (some 41) ?_); refine wpList_build_g 24 _ rfl #[] (by simp) (.agg #[.slice none 0 0]) (bz_tree _) rfl ?_)
      | ((with_reducible refine at_store (.tmp 6) ?_); refine wpList_store_blk rfl 24 (.tmp 6) _ rfl (w.heap.size + 2) #[.slice none 0 0] rfl rfl #[.slice none 0 0] S4.out.z rfl hi1 (by simp [Value.oneCell']) ?_; intro w9 U9 B9; have HR9 := Lib.hid B9; have HB9 := Lib.hid (U9.below S4.out.b (by omega)); clear U9 B9)
      | fail)
    exact bodyPost_ret (res_cell_tmp rfl rfl rfl HR9.out Try.underlying24 rfl hi1) rfl ⟨_, by rw [← hres]; rfl, by rw [← hres]; exact nodes_nil _, New.nil _, CapOK.nil, HB9.out⟩
  rw [if_neg h11] at hres
  have h11' : ((4096 : Int) ≤ m) = False := eq_false (by omega)
  go_enter Try.func15, Try.ntmps15
  go_wp2_with (first
    | ((with_reducible refine at_load (.tmp 20) ?_); refine wpList_load_rng 34 (.tmp 20) rfl (w.heap.size + 1) 99 R2 (by have := (HBK.out _ _ S2.out.x).parent; rw [Nat.zero_add, HB2.out] at this; exact this) rfl _ Try.underlying34 rfl hip rfl ?_)
    | ((with_reducible refine at_load (.tmp 3) ?_); refine wpList_load_g 24 (.tmp 3) rfl w.heap.size rfl #[.slice (some ⟨b, off, none⟩) m cap] _ S2.out.t Try.underlying24 rfl hi1 rfl ?_)
    | (go_at_call 23; refine (HFP.out _ S2.out.b).mono ?_; rintro e w3 ⟨rfl, hb3⟩; have S3 := Lib.hid (S2.out.call hb3); clear hb3)
    | (go_at_call 23; refine (HFR.out _ S1.out.b).mono ?_; rintro e w2 ⟨rfl, hb2⟩; have S2 := Lib.hid (S1.out.call hb2); clear hb2)
    | (go_at_call 29; refine (HSS.out _).mono ?_; rintro e w1 ⟨rfl, hb1⟩; rw [hqs.out]; have S1 := Lib.hid (S0.out.call hb1); clear hb1)
    | ((with_reducible refine at_load (.tmp 14) ?_); refine wpList_load_rng 34 (.tmp 14) rfl (w.heap.size + 1) 67 R1 (by have := (HBK.out _ _ S1.out.x).root; rw [Nat.zero_add, HB1.out] at this; exact this) rfl _ Try.underlying34 rfl hir rfl ?_)
    | ((with_reducible refine at_load (.tmp 3) ?_); refine wpList_load_g 24 (.tmp 3) rfl w.heap.size rfl #[.slice (some ⟨b, off, none⟩) m cap] _ S1.out.t Try.underlying24 rfl hi1 rfl ?_)
    | fail)
  refine wp_region_fam2 (by kernel_rfl) (by kernel_rfl) ?_
  intro T F hT hF hG
  have c0 : ∀ t, (F t).cell? ⟨w.heap.size, 0, none⟩ = some (.slice (some ⟨b, off, none⟩) m cap) := fun t => (S3.out.call (hF t)).t.cell 0
  have c1 : ∀ t, (F t).cell? ⟨w.heap.size + 1, 66, none⟩ = some (.int .u64 s0) := fun t => by
    have := (HBK.out _ _ (S3.out.call (hF t)).x).slot
    rw [Nat.zero_add, HS0.out] at this
    exact this
  have c2 : ∀ t, (F t).cell? ⟨b, off + k * 240 + 66, none⟩ = some (.int .u64 s1) := fun t => ((S3.out.call (hF t)).b.cell (p := ⟨b, off + k * 240 + 66, none⟩) hbb).trans HSL.out
  repeat (go_big_quiet_step (fail))
  refine wpQuiet_nil ?_
  rintro _ ⟨t, rfl⟩
  have S4 := Lib.hid (S3.out.call (hF t))
  obtain ⟨w4, hw4⟩ : ∃ u, F t = u := ⟨_, rfl⟩
  rw [hw4] at S4 ⊢
  clear c0 c1 c2 hG hw4 hF hT
  clear t F T
  go_wp2_with (first
    | ((with_reducible refine at_load (.tmp 37) ?_); refine wpList_load_1 22 (.tmp 37) rfl w.heap.size 0 (.slice (some ⟨b, off, none⟩) m cap) (S4.out.t.cell 0) rfl _ Try.underlying22 rfl rfl ?_)
    | fail)
  obtain ⟨Ys, hA, hrow⟩ := HN.out.row
  have HA := Lib.hid hA
  have HRW := Lib.hid hrow
  clear hA hrow
  have SD : Hid (InsS w #[.slice (some ⟨b, off, none⟩) m cap] X #[.slice none 0 0] w4.drew) := S4.out.call ⟨rfl, rfl, rfl, Nat.le_refl _, fun _ _ => rfl⟩
  have hdok : (⟨x, (k : Int), st⟩ : NdD).ok := ⟨HX.out, by show -9223372036854775808 ≤ (k : Int) ∧ (k : Int) ≤ 9223372036854775807; omega, HST.out⟩
  have HND := Lib.hid (fun u => build_nd x (k : Int) st HX.out u)
  obtain ⟨d, hd⟩ : ∃ d : NdD, Hid ((⟨x, (k : Int), st⟩ : NdD) = d) := ⟨_, Lib.hid rfl⟩
  rw [hd.out] at HND hdok
  obtain ⟨Y, hY⟩ : ∃ Y, Hid (d.cells.toArray = Y) := ⟨_, Lib.hid rfl⟩
  have hsY : Hid (Y.size = 240) := by show Y.size = 240; rw [← hY.out, List.size_toArray, NdD.len hdok]
  rw [hY.out, HXE.out] at HND
  have HDOK := Lib.hid hdok
  clear hdok
  refine wp_region_held_drew (S := fun z => InsR w #[.slice (some ⟨b, off, none⟩) m cap] X z) (by kernel_rfl) (SD.out.r) (fun _ => ?_)
  (try simp only [Act.put, List.setIfInBounds_toArray, List.set_cons_zero, List.set_cons_succ])
  refine wpAnyH_take (i := 0) (oi := ⟨some 42, _, _, _, _, _⟩) (v := .pointer (some ⟨w.heap.size, 0, none⟩)) rfl (by kernel_rfl) (by kernel_rfl) (by kernel_rfl) (fun _ _ _ h => h) (Or.inl ⟨by rfl, fun wz hz => ?_⟩) SD.out.r ?_
  · clear hz; go_simp; first | done | with_reducible rfl | rfl
  (try simp only [Act.put, List.setIfInBounds_toArray, List.set_cons_zero, List.set_cons_succ])
  refine held_load1 (oi := ⟨some 43, _, _, _, _, _⟩) 1 rfl (by kernel_rfl) (by kernel_rfl) (by kernel_rfl) (fun _ _ _ _ h => h) rfl 22 (.tmp 42) rfl w.heap.size (0) rfl (.slice (some ⟨b, off, none⟩) m cap) _ (fun u' hu => hu.t.cell 0) Try.underlying22 rfl SD.out.r ?_
  (try simp only [Act.put, List.setIfInBounds_toArray, List.set_cons_zero, List.set_cons_succ])
  refine held_load (oi := ⟨some 45, _, _, _, _, _⟩) 3 rfl (by kernel_rfl) (by kernel_rfl) (by kernel_rfl) (fun _ _ _ _ h => h) rfl 42 (.tmp 4) rfl (w.heap.size + 1) 0 rfl X.toList _ (fun u' hu => hu.x.range) Try.underlying42 rfl (by simpa using hiX) SD.out.r ?_
  simp only [Array.toArray_toList]
  (try simp only [Act.put, List.setIfInBounds_toArray, List.set_cons_zero, List.set_cons_succ])
  refine wpAnyH_take (i := 4) (oi := ⟨some 46, _, _, _, _, _⟩) (v := .int .i64 k) rfl (by kernel_rfl) (by kernel_rfl) (by kernel_rfl) (fun _ _ _ h => h) (Or.inl ⟨by rfl, fun wz hz => ?_⟩) SD.out.r ?_
  · clear hz; go_simp; first | done | with_reducible rfl | rfl
  (try simp only [Act.put, List.setIfInBounds_toArray, List.set_cons_zero, List.set_cons_succ])
  refine wpAnyH_take (i := 5) (oi := ⟨some 47, _, _, _, _, _⟩) (v := .int .i64 st) rfl (by kernel_rfl) (by kernel_rfl) (by kernel_rfl) (fun _ _ _ h => h) (Or.inl ⟨by rfl, fun wz hz => ?_⟩) SD.out.r ?_
  · clear hz; go_simp; first | done | with_reducible rfl | rfl
  (try simp only [Act.put, List.setIfInBounds_toArray, List.set_cons_zero, List.set_cons_succ])
  refine held_build (oi := ⟨some 48, _, _, _, _, _⟩) 6 rfl (by kernel_rfl) (by kernel_rfl) (by kernel_rfl) (fun _ _ _ _ h => h) rfl 44 _ rfl #[(0, .agg X), (1, .int .i64 k), (2, .int .i64 st)] (by simp [Act.eval]) (.agg Y) (HND.out) SD.out.r ?_
  (try simp only [Act.put, List.setIfInBounds_toArray, List.set_cons_zero, List.set_cons_succ])
  refine wpAnyH_ready (rs := [2, 7]) (by kernel_rfl) (by simp) ?_
  refine AllReadyH.cons (o := ⟨some 44, _, _, _, _, _⟩) rfl (fun K hK => ?_) (AllReadyH.cons (o := ⟨some 49, _, _, _, _, _⟩) rfl (fun K hK => ?_) AllReadyH.nil)
  · skip
    refine wp_appEls ndOK Try.underlying22 info_node (by rfl) (by omega) (.const (.slice none 0 0)) (.tmp 43) rfl (w.heap.size + 3) (.slice none 0 0) [] rfl (OwnEl.nil _ _) (some ⟨b, off, none⟩) m cap ns Ys rfl hm.out (row_at HRW.out SD.out.b) (HA.out _ _) (by simp [hm.out]; omega) (by simp [hm.out]; unfold maxLen; omega) (by have := SD.out.z.lt; simp at this ⊢; omega) ?_
    intro v3 w3' ho3 hg3 _
    rw [List.nil_append] at ho3
    have HO3 := Lib.hid ho3
    have HG3 := Lib.hid (grown_none hg3)
    have S5 := Lib.hid (SD.out.call HG3.out)
    clear ho3 hg3
    refine hK.out _ _ (S5.out.r) (fun _ => ?_)
    clear hK K
    (try simp only [Act.put, List.setIfInBounds_toArray, List.set_cons_zero, List.set_cons_succ])
    refine wpAnyH_ready (rs := [7]) (by kernel_rfl) (by simp) ?_
    refine AllReadyH.cons (o := ⟨some 49, _, _, _, _, _⟩) rfl (fun K hK => ?_) AllReadyH.nil
    refine wp_buildSlice 22 1 _ rfl #[(0, .agg Y)] (by simp [Act.eval, Act.put]) _ (bel_node hsY.out w3') ?_
    have hal : Below (w3').heap.size (w3') ((w3').alloc (.cells Y 44)) := (Below.refl _ _).alloc (Nat.le_refl _) _
    have HAL := Lib.hid hal
    clear hal
    have HO6 := Lib.hid (HO3.out.call ndOK HAL.out)
    have S6 := Lib.hid (S5.out.call HAL.out)
    have BY6 : Hid (Blk (w3'.alloc (.cells Y 44)) w3'.heap.size Y) := Blk.new rfl
    refine hK.out _ _ (S6.out.r) (fun _ => ?_)
    clear hK K
    (try simp only [Act.put, List.setIfInBounds_toArray, List.set_cons_zero, List.set_cons_succ])
    refine wpAnyH_ready (rs := [8]) (by kernel_rfl) (by simp) ?_
    refine AllReadyH.cons (o := ⟨some 50, _, _, _, _, _⟩) rfl (fun K hK => ?_) AllReadyH.nil
    refine wp_appEl ndOK Try.underlying22 info_node (by rfl) (by omega) (.tmp 44) (.tmp 49) rfl (w.heap.size + 3) v3 ns rfl HO6.out w3'.heap.size 1 Y d rfl ⟨hY.out.symm, HDOK.out⟩ BY6.out.range (by simp [hm.out]; omega) (by simp [hm.out]; unfold maxLen; omega) (by have := S6.out.z.lt; omega) ?_
    intro v8 w8 ho8 hg8 _
    have HO8 := Lib.hid ho8
    have S8 : Hid (InsS w #[.slice (some ⟨b, off, none⟩) m cap] X #[.slice none 0 0] w8) := (by
      have hne : ∀ j, j < w.heap.size + 3 → some j ≠ v3.ownBlock := fun j hj e => by have := (HO6.out.lt j e.symm).1; omega
      exact ⟨S6.out.t.grown hg8 (hne _ (by omega)), S6.out.x.grown hg8 (hne _ (by omega)), S6.out.z.grown hg8 (hne _ (by omega)), S6.out.b.grown hg8 S6.out.b.size (fun j hj => by have := (HO6.out.lt j hj).1; omega)⟩)
    clear ho8 hg8
    refine hK.out _ _ (S8.out.r) (fun _ => ?_)
    clear hK K
    (try simp only [Act.put, List.setIfInBounds_toArray, List.set_cons_zero, List.set_cons_succ])
    
    obtain ⟨va, vn, vcap, hv8⟩ : ∃ va vn vcap, v8 = .slice va vn vcap := by obtain ⟨p, q, e, _⟩ := HO8.out.shape; exact ⟨p, _, q, e⟩
    rw [hv8] at HO8 ⊢
    clear hv8
    refine held_build (oi := ⟨some 51, _, _, _, _, _⟩) 9 rfl (by kernel_rfl) (by kernel_rfl) (by kernel_rfl) (fun _ _ _ _ h => h) rfl 24 _ rfl #[(0, .slice va vn vcap)] (by simp [Act.eval]) (.agg #[.slice va vn vcap]) (fun u => b_tree va vn vcap u) S8.out.r ?_
    (try simp only [Act.put, List.setIfInBounds_toArray, List.set_cons_zero, List.set_cons_succ])
    refine wpAnyH_ready (rs := [10]) (by kernel_rfl) (by simp) ?_
    refine AllReadyH.cons (o := ⟨none, _, _, _, _, _⟩) rfl (fun K hK => ?_) AllReadyH.nil
    refine wp_store_blk 24 (.tmp 6) _ rfl (w.heap.size + 2) #[.slice va vn vcap] rfl rfl #[.slice none 0 0] S8.out.z rfl hi1 (by simp [Value.oneCell']) ?_
    intro w9 U9 B9
    have HR9 := Lib.hid B9
    have HU9 := Lib.hid U9
    have HB9 := Lib.hid (U9.below S8.out.b (by omega))
    clear U9 B9
    have R9 : Hid (InsR w #[.slice (some ⟨b, off, none⟩) m cap] X w9) := ⟨HU9.out.blk S8.out.t (by omega), HU9.out.blk S8.out.x (by omega), HB9.out⟩
    refine hK.out _ _ (R9.out) (fun _ => ?_)
    clear hK K
    (try simp only [Act.put, List.setIfInBounds_toArray, List.set_cons_zero, List.set_cons_succ])
    refine wpAnyH_ready (rs := [11]) (by kernel_rfl) (by simp) ?_
    refine AllReadyH.cons (o := ⟨some 7, _, _, _, _, _⟩) rfl (fun K hK => ?_) AllReadyH.nil
    go_simp
    refine hK.out _ _ (R9.out) (fun _ => ?_)
    clear hK K
    (try simp only [Act.put, List.setIfInBounds_toArray, List.set_cons_zero, List.set_cons_succ])
    refine wpAnyH_done (by kernel_rfl) ?_ _
    have HO9 := HO8.out.grown ndOK (upd_grown HU9.out) (fun n hn e => by have := (HO8.out.lt n hn).1; cases e; omega) (fun X d h => h)
    go_wp2_with fail
    refine bodyPost_ret (res_cell_tmp rfl rfl rfl HR9.out Try.underlying24 rfl hi1) rfl ⟨_, by rw [← hres]; rfl, ?_, ?_, ?_, HB9.out⟩
    · rw [← hres]
      show NodesV w9 _ (ns ++ [⟨x, (k : Int), st⟩])
      rw [hd.out]
      exact HO9.elV ndOK
    · exact HO8.out.newEl.mono (by omega)
    · intro a n c e
      obtain ⟨a', c', e', _, hle, _⟩ := HO8.out.shape
      rw [e'] at e; cases e; exact hle
  · skip
    refine wp_buildSlice 22 1 _ rfl #[(0, .agg Y)] (by simp [Act.eval, Act.put]) _ (bel_node hsY.out w4.drew) ?_
    have hal : Below (w4.drew).heap.size (w4.drew) ((w4.drew).alloc (.cells Y 44)) := (Below.refl _ _).alloc (Nat.le_refl _) _
    have HAL := Lib.hid hal
    clear hal
    have S5' := Lib.hid (SD.out.call HAL.out)
    have BY5 : Hid (Blk (w4.drew.alloc (.cells Y 44)) w4.drew.heap.size Y) := Blk.new rfl
    refine hK.out _ _ (S5'.out.r) (fun _ => ?_)
    clear hK K
    (try simp only [Act.put, List.setIfInBounds_toArray, List.set_cons_zero, List.set_cons_succ])
    refine wpAnyH_ready (rs := [2]) (by kernel_rfl) (by simp) ?_
    refine AllReadyH.cons (o := ⟨some 44, _, _, _, _, _⟩) rfl (fun K hK => ?_) AllReadyH.nil
    refine wp_appEls ndOK Try.underlying22 info_node (by rfl) (by omega) (.const (.slice none 0 0)) (.tmp 43) rfl (w.heap.size + 3) (.slice none 0 0) [] rfl (OwnEl.nil _ _) (some ⟨b, off, none⟩) m cap ns Ys rfl hm.out (row_at HRW.out S5'.out.b) (HA.out _ _) (by simp [hm.out]; omega) (by simp [hm.out]; unfold maxLen; omega) (by have := S5'.out.z.lt; simp at this ⊢; omega) ?_
    intro v3 w3' ho3 hg3 _
    rw [List.nil_append] at ho3
    have HO3 := Lib.hid ho3
    have HG3 := Lib.hid (grown_none hg3)
    have S5 := Lib.hid (S5'.out.call HG3.out)
    have BY6 := Lib.hid (BY5.out.call HG3.out)
    clear ho3 hg3
    refine hK.out _ _ (S5.out.r) (fun _ => ?_)
    clear hK K
    (try simp only [Act.put, List.setIfInBounds_toArray, List.set_cons_zero, List.set_cons_succ])
    refine wpAnyH_ready (rs := [8]) (by kernel_rfl) (by simp) ?_
    refine AllReadyH.cons (o := ⟨some 50, _, _, _, _, _⟩) rfl (fun K hK => ?_) AllReadyH.nil
    refine wp_appEl ndOK Try.underlying22 info_node (by rfl) (by omega) (.tmp 44) (.tmp 49) rfl (w.heap.size + 3) v3 ns rfl HO3.out w4.drew.heap.size 1 Y d rfl ⟨hY.out.symm, HDOK.out⟩ BY6.out.range (by simp [hm.out]; omega) (by simp [hm.out]; unfold maxLen; omega) (by have := S5.out.z.lt; omega) ?_
    intro v8 w8 ho8 hg8 _
    have HO8 := Lib.hid ho8
    have S8 : Hid (InsS w #[.slice (some ⟨b, off, none⟩) m cap] X #[.slice none 0 0] w8) := (by
      have hne : ∀ j, j < w.heap.size + 3 → some j ≠ v3.ownBlock := fun j hj e => by have := (HO3.out.lt j e.symm).1; omega
      exact ⟨S5.out.t.grown hg8 (hne _ (by omega)), S5.out.x.grown hg8 (hne _ (by omega)), S5.out.z.grown hg8 (hne _ (by omega)), S5.out.b.grown hg8 S5.out.b.size (fun j hj => by have := (HO3.out.lt j hj).1; omega)⟩)
    clear ho8 hg8
    refine hK.out _ _ (S8.out.r) (fun _ => ?_)
    clear hK K
    (try simp only [Act.put, List.setIfInBounds_toArray, List.set_cons_zero, List.set_cons_succ])
    
    obtain ⟨va, vn, vcap, hv8⟩ : ∃ va vn vcap, v8 = .slice va vn vcap := by obtain ⟨p, q, e, _⟩ := HO8.out.shape; exact ⟨p, _, q, e⟩
    rw [hv8] at HO8 ⊢
    clear hv8
    refine held_build (oi := ⟨some 51, _, _, _, _, _⟩) 9 rfl (by kernel_rfl) (by kernel_rfl) (by kernel_rfl) (fun _ _ _ _ h => h) rfl 24 _ rfl #[(0, .slice va vn vcap)] (by simp [Act.eval]) (.agg #[.slice va vn vcap]) (fun u => b_tree va vn vcap u) S8.out.r ?_
    (try simp only [Act.put, List.setIfInBounds_toArray, List.set_cons_zero, List.set_cons_succ])
    refine wpAnyH_ready (rs := [10]) (by kernel_rfl) (by simp) ?_
    refine AllReadyH.cons (o := ⟨none, _, _, _, _, _⟩) rfl (fun K hK => ?_) AllReadyH.nil
    refine wp_store_blk 24 (.tmp 6) _ rfl (w.heap.size + 2) #[.slice va vn vcap] rfl rfl #[.slice none 0 0] S8.out.z rfl hi1 (by simp [Value.oneCell']) ?_
    intro w9 U9 B9
    have HR9 := Lib.hid B9
    have HU9 := Lib.hid U9
    have HB9 := Lib.hid (U9.below S8.out.b (by omega))
    clear U9 B9
    have R9 : Hid (InsR w #[.slice (some ⟨b, off, none⟩) m cap] X w9) := ⟨HU9.out.blk S8.out.t (by omega), HU9.out.blk S8.out.x (by omega), HB9.out⟩
    refine hK.out _ _ (R9.out) (fun _ => ?_)
    clear hK K
    (try simp only [Act.put, List.setIfInBounds_toArray, List.set_cons_zero, List.set_cons_succ])
    refine wpAnyH_ready (rs := [11]) (by kernel_rfl) (by simp) ?_
    refine AllReadyH.cons (o := ⟨some 7, _, _, _, _, _⟩) rfl (fun K hK => ?_) AllReadyH.nil
    go_simp
    refine hK.out _ _ (R9.out) (fun _ => ?_)
    clear hK K
    (try simp only [Act.put, List.setIfInBounds_toArray, List.set_cons_zero, List.set_cons_succ])
    refine wpAnyH_done (by kernel_rfl) ?_ _
    have HO9 := HO8.out.grown ndOK (upd_grown HU9.out) (fun n hn e => by have := (HO8.out.lt n hn).1; cases e; omega) (fun X d h => h)
    go_wp2_with fail
    refine bodyPost_ret (res_cell_tmp rfl rfl rfl HR9.out Try.underlying24 rfl hi1) rfl ⟨_, by rw [← hres]; rfl, ?_, ?_, ?_, HB9.out⟩
    · rw [← hres]
      show NodesV w9 _ (ns ++ [⟨x, (k : Int), st⟩])
      rw [hd.out]
      exact HO9.elV ndOK
    · exact HO8.out.newEl.mono (by omega)
    · intro a n c e
      obtain ⟨a', c', e', _, hle, _⟩ := HO8.out.shape
      rw [e'] at e; cases e; exact hle
end

/-! TrC -/
section
set_option linter.unusedVariables false
set_option linter.unusedSimpArgs false
open Go.RowKit

set_option maxRecDepth 100000

theorem i64_and16 (n : Int) : bits .and .i64 n 65535 = n % 65536 := by
  have h3 : (BitVec.ofInt 64 65535).toNat = 2 ^ 16 - 1 := by decide
  have key : (BitVec.ofInt 64 n &&& BitVec.ofInt 64 65535).toNat = (n % ((2 ^ 64 : Nat) : Int)).toNat % 2 ^ 16 := by
    rw [BitVec.toNat_and, BitVec.toNat_ofInt, h3, Nat.and_two_pow_sub_one_eq_mod]
  show IntKind.i64.wrap ((BitVec.ofInt 64 n &&& BitVec.ofInt 64 65535).toNat : Nat) = n % 65536
  rw [key, IntKind.wrap_i64]
  omega

theorem i64_and24 (n : Int) : bits .and .i64 n 16777215 = n % 16777216 := by
  have h3 : (BitVec.ofInt 64 16777215).toNat = 2 ^ 24 - 1 := by decide
  have key : (BitVec.ofInt 64 n &&& BitVec.ofInt 64 16777215).toNat = (n % ((2 ^ 64 : Nat) : Int)).toNat % 2 ^ 24 := by
    rw [BitVec.toNat_and, BitVec.toNat_ofInt, h3, Nat.and_two_pow_sub_one_eq_mod]
  show IntKind.i64.wrap ((BitVec.ofInt 64 n &&& BitVec.ofInt 64 16777215).toNat : Nat) = n % 16777216
  rw [key, IntKind.wrap_i64]
  omega

theorem i64_and16_nat (n : Int) : ∃ m : Nat, m ≤ 65535 ∧ bits .and .i64 n 65535 = m := ⟨(n % 65536).toNat, by omega, by rw [i64_and16]; omega⟩

theorem i64_and24_nat (n : Int) : ∃ m : Nat, m ≤ 16777215 ∧ bits .and .i64 n 16777215 = m := ⟨(n % 16777216).toNat, by omega, by rw [i64_and24]; omega⟩

/-- What At gives, as a plain function. -/
def atN (l : List Int) (i : Nat) : Nat := if l.length = 0 then i % 65536 else (l.getD (i % l.length) 0 % 16777216).toNat + i / l.length

set_option maxHeartbeats 4000000 in
theorem at_val (v : Value) (l : List Int) (i : Nat) (w : World) (h : IntsV w v l) (hi : i ≤ 1000000) :
    Calls Try.prog 30 #[v, .int .i64 i] w fun e w' => e = .returned (.int .i64 (atN l i)) ∧ Below w.heap.size w w' := by
  obtain ⟨a, len, cap, rfl⟩ := ints_shape' h.1
  have HI := Lib.hid h
  have HL := Lib.hid h.len
  have hmx := h.len.2
  unfold maxLen at hmx
  obtain ⟨q, hq⟩ : ∃ q, atN l i = q := ⟨_, rfl⟩
  rw [hq]
  unfold atN at hq
  rw [HL.out.1] at hq
  have HQ := Lib.hid hq
  clear h hq
  by_cases h0 : len = 0
  · subst h0
    have hk : bits .and .i64 i 65535 = (q : Int) := by rw [i64_and16, ← HQ.out, if_pos rfl]; omega
    go_enter Try.func30, Try.ntmps30
    go_wp2_with fail
    go_ret
    exact ⟨rfl, Below.refl _ _⟩
  have hz : ((len : Int) == 0) = false := by simp; omega
  have hz0 : ¬ (len : Int) = 0 := by omega
  have hr : i % len < len := Nat.mod_lt _ (by omega)
  have HQ2 : Hid ((l.getD (i % len) 0 % 16777216).toNat + i / len = q) := by have := HQ.out; rw [if_neg h0] at this; exact this
  have hdl : i / len ≤ i := Nat.div_le_self _ _
  obtain ⟨b, off, rfl, hbb, hce⟩ := HI.out.at (k := i % len) (by rw [HL.out.1]; exact hr)
  have hm : Int.tmod (i : Int) (len : Int) = ((i % len : Nat) : Int) := by rw [Int.tmod_eq_emod_of_nonneg (by omega)]; rfl
  have hd : Int.tdiv (i : Int) (len : Int) = ((i / len : Nat) : Int) := by rw [Int.tdiv_eq_ediv_of_nonneg (by omega)]; rfl
  obtain ⟨r, hrr⟩ : ∃ r, i % len = r := ⟨_, rfl⟩
  obtain ⟨d, hdd⟩ : ∃ d, i / len = d := ⟨_, rfl⟩
  rw [hrr] at hm hce hr HQ2
  rw [hdd] at hd hdl HQ2
  obtain ⟨x, hx⟩ : ∃ x, l.getD r 0 = x := ⟨_, rfl⟩
  rw [hx] at hce HQ2
  have ha : bits .and .i64 x 16777215 = (((x % 16777216).toNat : Nat) : Int) := by rw [i64_and24]; omega
  have hyb : (x % 16777216).toNat ≤ 16777215 := by omega
  obtain ⟨y, hy⟩ : ∃ y, (x % 16777216).toNat = y := ⟨_, rfl⟩
  rw [hy] at ha hyb HQ2
  have HCE := Lib.hid hce
  have hri : (r : Int) < len := by omega
  clear hrr hdd hx hce hy h0 HQ
  go_enter Try.func30, Try.ntmps30
  go_wp2_with fail
  refine wp_region_fam2 (by kernel_rfl) (by kernel_rfl) ?_
  intro T F hT hF hG
  have c0 : ∀ t, (F t).cell? ⟨b, off + r, none⟩ = some (.int .i64 x) := fun t => ((hF t).cell (p := ⟨b, off + r, none⟩) hbb).trans HCE.out
  repeat (go_big_quiet_step (fail))
  refine wpQuiet_nil ?_
  rintro _ ⟨t, rfl⟩
  have hft := hF t
  go_wp2_with fail
  go_ret
  exact ⟨by rw [← HQ2.out]; simp, hft⟩

theorem at_any (v : Value) (l : List Int) (i : Nat) (w : World) (h : IntsV w v l) (hi : i ≤ 1000000) :
    Calls Try.prog 30 #[v, .int .i64 i] w fun e w' => (∃ k : Nat, k ≤ 20000000 ∧ e = .returned (.int .i64 k)) ∧ Below w.heap.size w w' := by
  refine (at_val v l i w h hi).mono ?_
  rintro e w' ⟨rfl, hb⟩
  refine ⟨⟨_, ?_, rfl⟩, hb⟩
  unfold atN
  have := Nat.div_le_self i l.length
  split <;> omega
end

/-! TrD -/
section
set_option linter.unusedVariables false
set_option linter.unusedSimpArgs false
open Go.RowKit

/-- A valid closed tree. -/
structure TrOK (ns : List NdD) : Prop where
  pos : 0 < ns.length
  root : ∀ h : 0 < ns.length, ns[0].up = -1
  up : ∀ i (hi : i < ns.length), 0 < i → ∃ u : Nat, ∃ hu : u < ns.length, u < i ∧ ns[i].up = u ∧ ns[i].b.parent = ns[u].b.root ∧ ns[u].b.slot < ns[i].b.slot ∧ (ns[i].st = 1 → ns[u].st = 1) ∧ (ns[u].st = 2 → ns[i].st = 2)
  ne : ∀ i j (hi : i < ns.length) (hj : j < ns.length), i < j → ns[i].b.root ≠ ns[j].b.root
  st : ∀ i (hi : i < ns.length), 0 ≤ ns[i].st ∧ ns[i].st ≤ 2

theorem TrOK.one (x : BkD) (st : Int) (h : 0 ≤ st ∧ st ≤ 2) : TrOK [⟨x, -1, st⟩] where
  pos := by simp
  root := fun _ => rfl
  up := fun i hi h0 => by simp at hi; omega
  ne := fun i j hi hj h => by simp at hi hj; omega
  st := fun i hi => by
    obtain rfl : i = 0 := by simpa using hi
    exact h

theorem TrOK.find {ns : List NdD} (h : TrOK ns) {q : Nat} (hq : q < ns.length) : findN ns ns[q].b.root = q := by
  rcases findN_spec ns ns[q].b.root with ⟨_, h2⟩ | ⟨k, hk, h1, h2, h3⟩
  · exact absurd rfl (h2 q hq)
  · rw [h1]
    by_cases e : k = q
    · rw [e]
    · rcases Nat.lt_or_gt_of_ne e with hl | hl
      · exact absurd h2 (h.ne k q hk hq hl)
      · exact absurd rfl (h3 q hl hq)

theorem insT_cases {ns : List NdD} {x : BkD} {st : Int} (he : (insT ns x st).2 = 0) : findN ns x.root < 0 ∧ 0 ≤ findN ns x.parent ∧ slotAt ns (findN ns x.parent) < x.slot ∧ ns.length < 4096 ∧ (insT ns x st).1 = ns ++ [⟨x, findN ns x.parent, st⟩] := by
  unfold insT at he ⊢
  split at he
  · cases he
  · rename_i h1
    split at he
    · cases he
    · rename_i h2
      split at he
      · cases he
      · rename_i h3
        split at he
        · cases he
        · rename_i h4
          split at he
          · cases he
          · rename_i h5
            rw [if_neg h1, if_neg h2, if_neg h3, if_neg h4, if_neg h5]
            exact ⟨by omega, by omega, by omega, by omega, rfl⟩

theorem insT_bad {ns : List NdD} {x : BkD} {st : Int} (he : (insT ns x st).2 ≠ 0) : (insT ns x st).1 = [] := by
  unfold insT at he ⊢
  split
  · rfl
  · split
    · rfl
    · split
      · rfl
      · split
        · rfl
        · split
          · rfl
          · rename_i h1 h2 h3 h4 h5
            rw [if_neg h1, if_neg h2, if_neg h3, if_neg h4, if_neg h5] at he
            exact absurd rfl he

theorem TrOK.add {ns : List NdD} (h : TrOK ns) {q : Nat} (hq : q < ns.length) {x : BkD} {st : Int} (hp : x.parent = ns[q].b.root) (hst : 0 ≤ st ∧ st ≤ 2) (c1 : st = 1 → ns[q].st = 1) (c2 : ns[q].st = 2 → st = 2) (he : (insT ns x st).2 = 0) :
    (insT ns x st).1 = ns ++ [⟨x, q, st⟩] ∧ TrOK (ns ++ [⟨x, q, st⟩]) := by
  obtain ⟨h1, h2, h3, h4, h5⟩ := insT_cases he
  have hf : findN ns x.parent = q := by rw [hp]; exact h.find hq
  rw [hf] at h3 h5
  have hs : slotAt ns (q : Int) = ns[q].b.slot := by simp [slotAt, List.getElem?_eq_getElem hq]
  rw [hs] at h3
  refine ⟨h5, ⟨by simp, fun _ => ?_, fun i hi h0 => ?_, fun i j hi hj hij => ?_, fun i hi => ?_⟩⟩
  · rw [List.getElem_append_left h.pos]; exact h.root h.pos
  · by_cases hil : i < ns.length
    · obtain ⟨u, hu, a1, a2, a3, a4, a5, a6⟩ := h.up i hil h0
      refine ⟨u, by simp; omega, a1, ?_⟩
      rw [List.getElem_append_left hil, List.getElem_append_left hu]
      exact ⟨a2, a3, a4, a5, a6⟩
    · obtain rfl : i = ns.length := by simp at hi; omega
      refine ⟨q, by simp; omega, hq, ?_⟩
      rw [List.getElem_append_right (Nat.le_refl _), List.getElem_append_left hq]
      simp only [Nat.sub_self, List.getElem_cons_zero]
      exact ⟨by trivial, hp, h3, c1, c2⟩
  · have hil : i < ns.length := by simp at hj; omega
    rw [List.getElem_append_left hil]
    by_cases hjl : j < ns.length
    · rw [List.getElem_append_left hjl]; exact h.ne i j hil hjl hij
    · obtain rfl : j = ns.length := by simp at hj; omega
      rw [List.getElem_append_right (Nat.le_refl _)]
      simp only [Nat.sub_self, List.getElem_cons_zero]
      rcases findN_spec ns x.root with ⟨_, b2⟩ | ⟨k, hk, b1, _, _⟩
      · exact b2 i hil
      · rw [b1] at h1; omega
  · by_cases hil : i < ns.length
    · rw [List.getElem_append_left hil]; exact h.st i hil
    · obtain rfl : i = ns.length := by simp at hi; omega
      rw [List.getElem_append_right (Nat.le_refl _)]
      simpa using hst

theorem NodesV.off {w : World} {v : Value} {ns : List NdD} (h : NodesV w v ns) {g : Nat} (hg : w.heap.size ≤ g) : Off g v := by
  obtain ⟨a, cap, rfl, hl, hr⟩ := h
  intro z l c e h0
  cases e
  rcases hr with h1 | ⟨b, off, e, hb, _⟩
  · omega
  · cases e; simp only; omega

theorem NodesV.grownOff {w w' : World} {v : Value} {ns : List NdD} {g : Nat} (h : NodesV w v ns) (hg : w.grownBy w' (some g)) (ho : Off g v) : NodesV w' v ns := by
  obtain ⟨a, cap, rfl, hl, hr⟩ := h
  refine ⟨a, cap, rfl, hl, ?_⟩
  rcases hr with h0 | ⟨b, off, rfl, hlt, Xs, h1, h2⟩
  · exact .inl h0
  · by_cases h0 : ns.length = 0
    · exact .inl h0
    have hne : some b ≠ some g := fun e => ho _ _ _ rfl (by omega) (by cases e; rfl)
    exact .inr ⟨b, off, rfl, Nat.lt_of_lt_of_le hlt hg.size, Xs, fun j u hj => by rw [hg.cell_far ⟨b, off + j, none⟩ hlt hne]; exact h1 j u hj, h2.imp fun X d hX => hX⟩

/-- The variables of Tree: its result in block P, the tree in block B. -/
structure TrV (w : World) (P B : Nat) (s : Value) (ns : List NdD) (u : World) : Prop where
  r : Blk u P #[.slice none 0 0]
  t : Blk u B #[s]
  n : NodesV u s ns
  o1 : Off P s
  o2 : Off B s
  b : Below w.heap.size w u
  lt : P < B
  eq : P = w.heap.size
  cap : CapOK s

theorem TrV.call {w u u' : World} {P B : Nat} {s : Value} {ns : List NdD} (h : TrV w P B s ns u) (hb : Below u.heap.size u u') : TrV w P B s ns u' := ⟨h.r.call hb, h.t.call hb, h.n.call hb, h.o1, h.o2, h.b.trans (hb.mono h.b.size), h.lt, h.eq, h.cap⟩

/-- Another block that is younger was written. -/
theorem TrV.upd {w u u' : World} {P B g : Nat} {s : Value} {ns : List NdD} (h : TrV w P B s ns u) (U : Upd g u u') (hg : B < g) (ho : Off g s) : TrV w P B s ns u' :=
  ⟨U.blk h.r (by have := h.lt; omega), U.blk h.t (by omega), h.n.grownOff (upd_grown U) ho, h.o1, h.o2, U.below h.b (by have h1 := h.lt; have h2 := h.eq; omega), h.lt, h.eq, h.cap⟩
end

/-! TrE -/
section
set_option linter.unusedVariables false
set_option linter.unusedSimpArgs false
open Go.RowKit

set_option maxRecDepth 100000

/-- A block of which only these fields are set. -/
def bk4 (slot : Int) (root parent payload : List Int) : BkD := ⟨⟨0, zeroR⟩, ⟨0, zeroR⟩, slot, root, parent, payload, 0, 0, ⟨0, zeroR⟩, ⟨0, zeroR⟩, false⟩

theorem bk4_ok {slot : Int} {root parent payload : List Int} (h1 : 0 ≤ slot ∧ slot ≤ 18446744073709551615) (h2 : IsBytes 32 root) (h3 : IsBytes 32 parent) (h4 : IsBytes 32 payload) : (bk4 slot root parent payload).ok :=
  ⟨⟨by show (0 : Int) ≤ 0; omega, by show (0 : Int) ≤ _; omega, zeroR_is⟩, ⟨by show (0 : Int) ≤ 0; omega, by show (0 : Int) ≤ _; omega, zeroR_is⟩, h1, h2, h3, h4, W256.zero, W256.zero, ⟨by show (0 : Int) ≤ 0; omega, by show (0 : Int) ≤ _; omega, zeroR_is⟩, ⟨by show (0 : Int) ≤ 0; omega, by show (0 : Int) ≤ _; omega, zeroR_is⟩⟩

def zeBk10 : List (List Value) := [(.int .u64 0 :: bytesL zeroR) ++ (.int .u64 0 :: bytesL zeroR), [.int .u64 0], bytesL zeroR, bytesL zeroR, bytesL zeroR, List.replicate 4 (.int .u64 0), List.replicate 4 (.int .u64 0), .int .u64 0 :: bytesL zeroR, .int .u64 0 :: bytesL zeroR, [.bool false]]

theorem zeBk_hz (w : World) : (zeroValue 42).run Try.prog w = .ok (.agg (flatP zeBk10)) w := by kernel_rfl

theorem zeBk_pl (w : World) : ∃ fields, Try.prog.underlying 42 = some (.struct fields) ∧ Sem.run Try.prog (fields.mapM fun f => do pure (f.offset, ← sizeOf f.type)) w = .ok #[(0, 66), (66, 1), (67, 32), (99, 32), (131, 32), (163, 4), (167, 4), (171, 33), (204, 33), (237, 1)] w :=
  ⟨_, Try.underlying42, by kernel_rfl⟩

theorem zeBk_off : offP zeBk10 2 = 67 ∧ offP zeBk10 4 = 131 := by constructor <;> rfl

/-- The block of the root: root and payload. -/
theorem build_b0 {r p : List Int} (hr : IsBytes 32 r) (hp : IsBytes 32 p) (u : World) : (Instr.build 42 #[(2, .agg (bytesL r).toArray), (4, .agg (bytesL p).toArray)]).run Try.prog u = .ok (.agg (flatP (bk4 0 r zeroR p).parts)) u := by
  have hl := bytesL_len hr
  have hl2 := bytesL_len hp
  refine build_struct (zero := flatP zeBk10) zeBk_hz Try.underlying42 (places := #[(0, 66), (66, 1), (67, 32), (99, 32), (131, 32), (163, 4), (167, 4), (171, 33), (204, 33), (237, 1)]) (fun w => by kernel_rfl) ?_ u
  show Instr.fill _ (flatP zeBk10) [(2, .agg (bytesL r).toArray), (4, .agg (bytesL p).toArray)] = _
  rw [fill_part (i := 2) (o := 67) 2 (bytesL zeroR) (bytesL r) rfl rfl (by rw [hl]; rfl) rfl (by rw [hl]; rfl), fill_part (i := 4) (o := 131) 4 (bytesL zeroR) (bytesL p) rfl rfl (by rw [hl2]; rfl) (by simp [zeBk10, offP, hl, bytesL_len zeroR_is]) (by rw [hl2]; rfl)]
  unfold Instr.fill
  simp [flatP, zeBk10, bk4, BkD.parts, CpD.cells, wideL, l0, l1, l2, l3, List.replicate]

/-- .. of another node. -/
theorem build_b1 {s : Int} {r q p : List Int} (hr : IsBytes 32 r) (hq : IsBytes 32 q) (hp : IsBytes 32 p) (u : World) : (Instr.build 42 #[(2, .agg (bytesL r).toArray), (3, .agg (bytesL q).toArray), (1, .int .u64 s), (4, .agg (bytesL p).toArray)]).run Try.prog u = .ok (.agg (flatP (bk4 s r q p).parts)) u := by
  have hl := bytesL_len hr
  have hl1 := bytesL_len hq
  have hl2 := bytesL_len hp
  refine build_struct (zero := flatP zeBk10) zeBk_hz Try.underlying42 (places := #[(0, 66), (66, 1), (67, 32), (99, 32), (131, 32), (163, 4), (167, 4), (171, 33), (204, 33), (237, 1)]) (fun w => by kernel_rfl) ?_ u
  show Instr.fill _ (flatP zeBk10) [(2, .agg (bytesL r).toArray), (3, .agg (bytesL q).toArray), (1, .int .u64 s), (4, .agg (bytesL p).toArray)] = _
  rw [fill_part (i := 2) (o := 67) 2 (bytesL zeroR) (bytesL r) rfl rfl (by rw [hl]; rfl) rfl (by rw [hl]; rfl), fill_part (i := 3) (o := 99) 3 (bytesL zeroR) (bytesL q) rfl rfl (by rw [hl1]; rfl) (by simp [zeBk10, offP, hl, bytesL_len zeroR_is]) (by rw [hl1]; rfl), fill_part (i := 1) (o := 66) 1 [.int .u64 0] [.int .u64 s] rfl rfl rfl rfl rfl, fill_part (i := 4) (o := 131) 4 (bytesL zeroR) (bytesL p) rfl rfl (by rw [hl2]; rfl) (by simp [zeBk10, offP, hl, hl1, bytesL_len zeroR_is]) (by rw [hl2]; rfl)]
  unfold Instr.fill
  simp [flatP, zeBk10, bk4, BkD.parts, CpD.cells, wideL, l0, l1, l2, l3, List.replicate]

/-- What Tree gives. -/
def TreeE (w : World) (e : Ending) (w' : World) : Prop :=
  ∃ v ns, e = .returned (.agg #[v]) ∧ NodesV w' v ns ∧ CapOK v ∧ TrOK ns ∧ ns.length ≤ 9 ∧ Below w.heap.size w w'

/-- The loop's relation. -/
def TreeI (w : World) (B c : Nat) (i : Value) (wr : World) : Prop :=
  ∃ (n : Nat) (ns : List NdD) (s : Value), i = .int .i64 n ∧ 1 ≤ n ∧ n ≤ 1 + c ∧ ns.length = n ∧ TrOK ns ∧ TrV w w.heap.size B s ns wr

/-- .. and the node that was picked, in block bp. -/
def TrQ (w : World) (B bp : Nat) (s : Value) (ns : List NdD) (u : World) : Prop :=
  ∃ (q : Nat) (hq : q < ns.length), TrV w w.heap.size B s ns u ∧ Blk u bp ns[q].cells.toArray

/-- .. and the new block, in block bq. -/
def TrB (w : World) (B bp bq : Nat) (s : Value) (ns : List NdD) (d : NdD) (u : World) : Prop :=
  ∃ bd : BkD, bd.ok ∧ bd.parent = d.b.root ∧ TrV w w.heap.size B s ns u ∧ Blk u bp d.cells.toArray ∧ Blk u bq (flatP bd.parts)

theorem BkD.off5 {x : BkD} (h : x.ok) : offP x.parts 5 = 131 := by
  obtain ⟨h1, h2, _, h3, h4, h5, _, _, h6, h7⟩ := h
  simp [BkD.parts, offP, CpD.len h1, CpD.len h2, bytesL_len h3, bytesL_len h4]

theorem TrB.call {w u u' : World} {B bp bq : Nat} {s : Value} {ns : List NdD} {d : NdD} (h : TrB w B bp bq s ns d u) (hb : Below u.heap.size u u') : TrB w B bp bq s ns d u' := by
  obtain ⟨bd, h1, h2, h3, h4, h5⟩ := h
  exact ⟨bd, h1, h2, h3.call hb, h4.call hb, h5.call hb⟩

/-- .. and the status. -/
def TrS (w : World) (B bp bq : Nat) (s : Value) (ns : List NdD) (d : NdD) (s8 : Value) (u : World) : Prop :=
  ∃ st : Int, s8 = .int .i64 st ∧ (0 ≤ st ∧ st ≤ 2) ∧ (st = 1 → d.st = 1) ∧ (d.st = 2 → st = 2) ∧ TrB w B bp bq s ns d u

theorem tmod_nat (a b : Nat) : Int.tmod (a : Int) (b : Int) = ((a % b : Nat) : Int) := by rw [Int.tmod_eq_emod_of_nonneg (by omega)]; rfl

set_option maxHeartbeats 16000000 in
theorem tree_any (v : Value) (l : List Int) (w : World) (hl : IntsV w v l) : Calls Try.prog 12 #[v] w (TreeE w) := by
  have HRS := Lib.hid root_some
  have HA0 : Hid (∀ u, Below w.heap.size w u → Calls Try.prog 30 #[v, .int .i64 0] u fun e w' => (∃ k : Nat, k ≤ 20000000 ∧ e = .returned (.int .i64 k)) ∧ Below u.heap.size u w') := fun u hu => at_any v l 0 u (hl.below hu) (by omega)
  have HA1 : Hid (∀ u, Below w.heap.size w u → Calls Try.prog 30 #[v, .int .i64 1] u fun e w' => (∃ k : Nat, k ≤ 20000000 ∧ e = .returned (.int .i64 k)) ∧ Below u.heap.size u w') := fun u hu => at_any v l 1 u (hl.below hu) (by omega)
  obtain ⟨m2, hm2⟩ : ∃ m, atN l 2 = m := ⟨_, rfl⟩
  have HA2 : Hid (∀ u, Below w.heap.size w u → Calls Try.prog 30 #[v, .int .i64 2] u fun e w' => e = .returned (.int .i64 m2) ∧ Below u.heap.size u w') := fun u hu => by rw [← hm2]; exact at_val v l 2 u (hl.below hu) (by omega)
  have HAK : Hid (∀ (n : Nat) u, n ≤ 1000 → Below w.heap.size w u → Calls Try.prog 30 #[v, .int .i64 (2 + (n : Int))] u fun e w' => (∃ k : Nat, k ≤ 20000000 ∧ e = .returned (.int .i64 k)) ∧ Below u.heap.size u w') := fun n u hn hu => by
    have h := at_any v l (2 + n) u (hl.below hu) (by omega)
    rw [show ((2 + n : Nat) : Int) = 2 + (n : Int) by omega] at h
    exact h
  have ht9 : (m2 : Int) % 9 = ((m2 % 9 : Nat) : Int) := by omega
  have hc8 : m2 % 9 ≤ 8 := by omega
  obtain ⟨c, hc⟩ : ∃ c, m2 % 9 = c := ⟨_, rfl⟩
  rw [hc] at ht9 hc8
  have hi1 : (Try.prog.info? 24).map (·.size) = some 1 := by kernel_rfl
  obtain ⟨hz1, hst1⟩ := zero_array (P := Try.prog) (t := 24) (n := 1) #[.slice none 0 0] (by kernel_rfl) rfl (by kernel_rfl)
  obtain ⟨ZN, hZN⟩ : ∃ Z, flatP (zeBkP ++ [[.int .i64 0], [.int .i64 0]]) = Z := ⟨_, rfl⟩
  have hszN : ZN.size = 240 := by rw [← hZN]; rfl
  obtain ⟨hz240, hst240⟩ := zero_array (P := Try.prog) (t := 44) (n := 240) ZN (by rw [← hZN]; kernel_rfl) hszN (by rw [← hZN]; kernel_rfl)
  obtain ⟨ZB, hZB⟩ : ∃ Z, flatP zeBk10 = Z := ⟨_, rfl⟩
  have hszB : ZB.size = 238 := by rw [← hZB]; rfl
  obtain ⟨hz238, hst238⟩ := zero_array (P := Try.prog) (t := 42) (n := 238) ZB (by rw [← hZB]; kernel_rfl) hszB (by rw [← hZB]; kernel_rfl)
  clear hst240 hst238 hZN hZB
  have HR0 : Hid (Blk (w.alloc (.cells #[.slice none 0 0] 24)) w.heap.size #[.slice none 0 0]) := Blk.new rfl
  have HB0 := Lib.hid ((Below.refl w.heap.size w).alloc (Nat.le_refl _) (.cells #[.slice none 0 0] 24))
  have HB0I := Lib.hid (fun (r p : List Int) (hr : IsBytes 32 r) (hp : IsBytes 32 p) (u : World) => build_b0 hr hp u)
  clear hm2 hc hst1 hl
  go_enter Try.func12, Try.ntmps12
  go_wp2_with (first
    | (go_at_call 27; refine (newt_any b0 _ w4 HOK0.out (by constructor <;> omega)).mono ?_; rintro e w5 ⟨s, rfl, hn5, hw5, hc5, hb5⟩; have HN5 := Lib.hid hn5; have HW5 := Lib.hid hw5; have HB5 := Lib.hid (HB4.out.trans (hb5.mono HB4.out.size)); have HR5 := Lib.hid (HR4.out.call hb5); have HC5 := Lib.hid hc5; have hs1 : s.oneCell' = true := (by obtain ⟨a, c, e, _⟩ := hn5.shape; rw [e]; rfl); have hlt5 := HR5.out.lt; clear hn5 hw5 hc5 hb5)
    | ((with_reducible refine at_store (.tmp 3) ?_); refine wpList_store_blk rfl 24 (.tmp 3) _ rfl w5.heap.size #[s] rfl rfl #[.slice none 0 0] (Blk.new rfl) rfl hi1 (by simpa using hs1) ?_; intro w6 U6 B6; have hb56 := U6.below ((Below.refl w5.heap.size w5).alloc (Nat.le_refl _) (.cells #[.slice none 0 0] 24)) (Nat.le_refl _); have HV6 : Hid (TrV w w.heap.size w5.heap.size s [⟨b0, -1, (k4 : Int) % 3⟩] w6) := ⟨HR5.out.call hb56, B6, HN5.out.call hb56, HW5.out.off (by have := HR4.out.lt; omega), HN5.out.off (Nat.le_refl _), HB5.out.trans (hb56.mono HB5.out.size), hlt5, rfl, HC5.out⟩; clear hb56 U6 B6)
    | ((with_reducible refine at_build (some 17) ?_); refine wpList_build_g 42 _ rfl #[(2, .agg (bytesL r1).toArray), (4, .agg (bytesL r3).toArray)] (by simp [Act.eval, Act.put]) (.agg (flatP (bk4 0 r1 zeroR r3).parts)) (HB0I.out r1 r3 HQ1.out HQ3.out _) rfl ?_; obtain ⟨b0, hb0⟩ : ∃ b : BkD, Hid (bk4 0 r1 zeroR r3 = b) := ⟨_, Lib.hid rfl⟩; rw [hb0.out]; have HOK0 : Hid b0.ok := (by show b0.ok; rw [← hb0.out]; exact bk4_ok (by omega) HQ1.out zeroR_is HQ3.out))
    | (go_at_call_of 30 (1 : Int); refine (HA1.out _ HB3.out).mono ?_; rintro e w4 ⟨⟨k4, hk4, rfl⟩, hb4⟩; have ht3 := tmod_nat k4 3; have HB4 := Lib.hid (HB3.out.trans (hb4.mono HB3.out.size)); have HR4 := Lib.hid (HR3.out.call hb4); clear hb4)
    | (go_at_call_of 30 (0 : Int); refine (HA0.out _ HB1.out).mono ?_; rintro e w2 ⟨⟨k2, hk2, rfl⟩, hb2⟩; have ht2 := tmod_nat k2 2; have HB2 := Lib.hid (HB1.out.trans (hb2.mono HB1.out.size)); have HR2 := Lib.hid (HR1.out.call hb2); clear hb2)
    | (go_at_call 13; refine (HRS.out _ w2).mono ?_; rintro e w3 ⟨⟨r3, hr3, rfl⟩, hb3⟩; have HQ3 := Lib.hid hr3; have HB3 := Lib.hid (HB2.out.trans (hb3.mono HB2.out.size)); have HR3 := Lib.hid (HR2.out.call hb3); clear hr3 hb3)
    | (go_at_call 13; refine (HRS.out _ _).mono ?_; rintro e w1 ⟨⟨r1, hr1, rfl⟩, hb1⟩; have HQ1 := Lib.hid hr1; have HB1 := Lib.hid (HB0.out.trans (hb1.mono HB0.out.size)); have HR1 := Lib.hid (HR0.out.call hb1); clear hr1 hb1))
  have HI0 : Hid (TreeI w w5.heap.size c (.int .i64 1) w6) := ⟨1, _, s, rfl, by omega, by omega, rfl, TrOK.one b0 _ (by omega), HV6.out⟩
  obtain ⟨B, hB⟩ : ∃ B, w5.heap.size = B := ⟨_, rfl⟩
  rw [hB] at HI0 ⊢
  clear hB HV6 HR5 HB5 HN5 HW5 hs1 hlt5
  go_loopw [4] (fun i wr => TreeI w B c i wr) (fun i _ => 10 - (intOf i).toNat)
  case atStart => exact HI0.out
  case round =>
    obtain ⟨n, ns, s', rfl, hn1, hn9, hlen, hok, hV⟩ := hrel
    obtain ⟨sa, sc, rfl, hmx⟩ := hV.n.shape
    have HLEN := Lib.hid hlen
    have HOK := Lib.hid hok
    have HV := Lib.hid hV
    have HCP := Lib.hid hV.cap
    rw [hlen] at HV HCP
    clear hlen hok hV hmx HI0
    by_cases hlt : n < 1 + c
    case neg =>
      have hlt' : ¬ (n : Int) < 1 + (c : Int) := by omega
      go_wp2_with (first
        | (go_at_call_of 30 (2 : Int); refine (HA2.out _ HV.out.b).mono ?_; rintro e w7 ⟨rfl, hb7⟩; have HV7 := Lib.hid (HV.out.call hb7); clear hb7)
        | ((with_reducible refine at_load (.tmp 3) ?_); refine wpList_load_g 24 (.tmp 3) rfl B rfl #[.slice sa n sc] _ HV7.out.t Try.underlying24 rfl hi1 rfl ?_)
        | ((with_reducible refine at_store (.tmp 2) ?_); refine wpList_store_blk rfl 24 (.tmp 2) _ rfl w.heap.size #[.slice sa n sc] rfl rfl #[.slice none 0 0] HV7.out.r rfl hi1 (by simp [Value.oneCell']) ?_; intro w9 U9 B9; have HR9 := Lib.hid B9; have HB9 := Lib.hid (U9.below HV7.out.b (Nat.le_refl _)); have HN9 := Lib.hid (HV7.out.n.grownOff (upd_grown U9) HV7.out.o1); clear U9 B9))
      exact bodyPost_ret (res_cellB rfl rfl HR9.out Try.underlying24 rfl hi1) rfl ⟨_, ns, rfl, HN9.out, HCP.out, HOK.out, by rw [HLEN.out]; omega, HB9.out⟩
    have hlt' : (n : Int) < 1 + (c : Int) := by omega
    have hn0 : ¬ (n : Int) = 0 := by omega
    go_upto_if 27 with (first
      | (go_at_call_of 30 (2 : Int); refine (HA2.out _ HV.out.b).mono ?_; rintro e w7 ⟨rfl, hb7⟩; have HV7 := Lib.hid (HV.out.call hb7); clear hb7))
    go_wp2_with fail
    refine (HAK.out n w7 (by omega) HV7.out.b).mono ?_
    rintro e w8 ⟨⟨k, hk, rfl⟩, hb8⟩
    have HV8 := Lib.hid (HV7.out.call hb8)
    clear hb8
    go_wp2_with fail
    have hqn : k % n < n := Nat.mod_lt _ (by omega)
    obtain ⟨q0, hq0⟩ : ∃ q, k % n = q := ⟨_, rfl⟩
    have hq1 : (k : Int) % (n : Int) = (q0 : Int) := by rw [← hq0]; rfl
    have hq2 : Int.tmod (k : Int) (n : Int) = (q0 : Int) := by rw [tmod_nat, hq0]
    rw [hq0] at hqn
    have hqn' : (q0 : Int) < n := by omega
    have hql : q0 < ns.length := by rw [HLEN.out]; exact hqn
    have HND := Lib.hid (HV8.out.n.elem hql)
    obtain ⟨rb, ro, rfl, hlm, hrb, hna, hdk⟩ := HND.out
    have HNA := Lib.hid hna.all
    have HDK := Lib.hid hdk
    obtain ⟨L, hL⟩ : ∃ L, ns[q0].cells = L := ⟨_, rfl⟩
    have hLl : L.length = 240 := by rw [← hL]; exact NdD.len hdk
    have HL1 : Hid (∀ v ∈ L, v.oneCell' = true) := by show ∀ v ∈ L, _; rw [← hL]; exact NdD.one _
    rw [hL] at HNA
    have HLL := Lib.hid hL
    have hbt := HV8.out.t.lt
    have HVT := Lib.hid HV8.out.t
    have hiL : (Try.prog.info? 44).map (·.size) = some L.length := by rw [hLl]; kernel_rfl
    clear hlm hna hdk hL hq0
    refine own1 7 8 L.toArray ZN (by kernel_rfl) (by kernel_rfl) rfl rfl rfl rfl hz240 (by rw [hszN, List.size_toArray, hLl]) (by simpa using hiL) (fun v hv => HL1.out v (by simpa using hv)) ?_
    apply Exists.intro
    refine ⟨?HA, ?h1, ?hQ⟩
    case HA =>
      intro W1 hW1 T F hT hF hG
      have hWF : ∀ t, Below w8.heap.size w8 (F t) := fun t => hW1.trans ((hF t).mono hW1.size)
      show wpQuiet _ _ _ _ [_, _, _, _, _, _, _] _
      have c0 : ∀ t, (F t).cell? ⟨B, 0, none⟩ = some (.slice (some ⟨rb, ro, none⟩) n sc) := fun t => ((hWF t).cell (p := ⟨B, 0, none⟩) hbt).trans (HVT.out.cell 0)
      have CL := Lib.hid (show ∀ u, (∃ t, u = F t) → u.rangeAt rb (ro + q0 * 240) L by rintro _ ⟨t, rfl⟩; exact Below.rng (hWF t) hrb HNA.out)
      repeat (first
        | ((with_reducible refine at_qload (.tmp 39) ?_); refine wpQuiet_load_midE 44 _ rfl rb (ro + q0 * 240) (by simp [Act.eval]) L CL.out Try.underlying44 rfl hiL (by kernel_rfl) ?_; simp only [Act.put, List.setIfInBounds_toArray, List.set_cons_succ, List.set_cons_zero])
        | (go_big_quiet_step (fail)))
      exact wpQuiet_nil rfl
    case h1 => rfl
    case hQ =>
      intro bp w9 hbp hb9 hk9
      simp only [Act.put, List.setIfInBounds_toArray, List.set_cons_succ, List.set_cons_zero]
      have HP9 : Hid (Blk w9 bp L.toArray) := hk9
      have HV9 := Lib.hid (HV8.out.call hb9)
      have HOF := Lib.hid (HV8.out.n.off hbp)
      have hBp : B < bp := by omega
      have hz3 : ((k : Int) / 16) % 3 = ((k / 16 % 3 : Nat) : Int) := by omega
      obtain ⟨z3, hz3'⟩ : ∃ z, k / 16 % 3 = z := ⟨_, rfl⟩
      rw [hz3'] at hz3
      have hpn : (n : Int) - 1 = ((n - 1 : Nat) : Int) := by omega
      have hpl : n - 1 < n := by omega
      obtain ⟨p, hp⟩ : ∃ p, n - 1 = p := ⟨_, rfl⟩
      rw [hp] at hpn hpl
      have hpl' : (p : Int) < n := by omega
      have hpL : p < ns.length := by rw [HLEN.out]; exact hpl
      have HND2 := Lib.hid (HV9.out.n.elem hpL)
      clear hk9 hb9 hz3' hp HNA HVT HND
      go_upto_if 44 with fail
      go_cut [] from 22 to 115 (fun wx => TrQ w B bp (.slice (some ⟨rb, ro, none⟩) n sc) ns wx)
      case first =>
        by_cases hzz : 0 < (z3 : Int)
        · obtain ⟨rb2, ro2, he2, hlm2, hrb2, hna2, hdk2⟩ := HND2.out
          cases he2
          have HNA2 := Lib.hid hna2.all
          obtain ⟨L2, hL2⟩ : ∃ L, ns[p].cells = L := ⟨_, rfl⟩
          have hL2l : L2.length = 240 := by rw [← hL2]; exact NdD.len hdk2
          have HL2 : Hid (∀ v ∈ L2, v.oneCell' = true) := by show ∀ v ∈ L2, _; rw [← hL2]; exact NdD.one _
          have HE2 := Lib.hid hL2
          rw [hL2] at HNA2
          have hiL2 : (Try.prog.info? 44).map (·.size) = some L2.length := by rw [hL2l]; kernel_rfl
          clear hlm2 hna2 hdk2 hL2
          go_wp2_with (first
            | ((with_reducible refine at_load (.tmp 45) ?_); refine wpList_load_1 22 (.tmp 45) rfl B 0 (.slice (some ⟨rb, ro, none⟩) n sc) (HV9.out.t.cell 0) rfl _ Try.underlying22 rfl rfl ?_)
            | ((with_reducible refine at_load (.tmp 49) ?_); refine wpList_load_rng 44 (.tmp 49) rfl rb (ro + p * 240) L2 HNA2.out rfl _ Try.underlying44 rfl hiL2 rfl ?_)
            | ((with_reducible refine at_store (.tmp 6) ?_); refine wpList_store_blk rfl 44 (.tmp 6) _ rfl bp L2.toArray rfl rfl L.toArray HP9.out (by simp [hLl, hL2l]) (by simpa using hiL2) (fun v hv => HL2.out v (by simpa using hv)) ?_; intro w10 U10 B10; have HV10 := Lib.hid (HV9.out.upd U10 hBp HOF.out); have HP10 := Lib.hid B10; clear U10 B10))
          go_meet
          case rel => exact ⟨p, hpL, HV10.out, by rw [HE2.out]; exact HP10.out⟩
        · have hzz' : (0 < (z3 : Int)) = False := eq_false hzz
          go_wp2_with fail
          go_meet
          case rel => exact ⟨q0, hql, HV9.out, by rw [HLL.out]; exact HP9.out⟩
      case rest =>
        obtain ⟨q, hq, hvc, hpc⟩ := hcut
        have HVC := Lib.hid hvc
        have HPC := Lib.hid hpc
        have hqok := HV8.out.n.oks ns[q] (List.getElem_mem hq)
        have HQOK := Lib.hid hqok
        have hnat := nd_at hpc.rng hqok
        have HNT : Hid (∀ u, Blk u bp ns[q].cells.toArray → NdAt u bp 0 ns[q]) := fun u hu => nd_at hu.rng HQOK.out
        obtain ⟨d, hd⟩ : ∃ d, ns[q] = d := ⟨_, rfl⟩
        have HQE := Lib.hid hd
        rw [hd] at HNT HQOK HPC
        have hbpc := HPC.out.lt
        obtain ⟨s0, hs0⟩ : ∃ z, d.b.slot = z := ⟨_, rfl⟩
        have HS0 := Lib.hid hs0
        obtain ⟨Rp, hRp⟩ : ∃ z, bytesL d.b.root = z := ⟨_, rfl⟩
        have HRP := Lib.hid hRp
        have hiRp : (Try.prog.info? 34).map (·.size) = some Rp.length := by rw [← hRp, bytesL_len HQOK.out.1.2.2.2.1]; kernel_rfl
        clear hvc hpc hqok hnat hd hs0 hRp
        go_wp2_with fail
        obtain ⟨XK, hXK⟩ : ∃ XK : Int → Array Value, Hid (∀ k, (bytesL (rootK k)).toArray = XK k) := ⟨_, Lib.hid fun _ => rfl⟩
        have HRY : Hid (∀ k u, Calls Try.prog 13 #[.int .i64 k] u fun e w' => e = .returned (.agg (XK k)) ∧ Below u.heap.size u w') := fun k u => by rw [← hXK.out k]; exact root_k k u
        obtain ⟨bd, hbd⟩ : ∃ bd, bk4 (IntKind.u64.wrap (IntKind.u64.wrap (s0 + 1) + (k : Int) / 256 % 3)) (rootK (wrap64 (1 + wrap64 ((n : Int) * (1 + (k : Int) / 64 % 3))))) d.b.root (rootK (1000 + (n : Int))) = bd := ⟨_, rfl⟩
        have hbok : bd.ok := by rw [← hbd]; exact bk4_ok (wrap_u64r _) (rootK_is _) HQOK.out.1.2.2.2.1 (rootK_is _)
        have hbpar : bd.parent = d.b.root := by rw [← hbd]; rfl
        obtain ⟨BX, hBX⟩ : ∃ BX, flatP bd.parts = BX := ⟨_, rfl⟩
        have hbs : BX.size = 238 := by rw [← hBX, flatP_size, BkD.flen hbok]
        have hb1 : ∀ v ∈ BX, v.oneCell' = true := by rw [← hBX]; intro v hv; exact BkD.one bd v (by simpa [flatP] using hv)
        have HBI : Hid (∀ u, (Instr.build 42 #[(2, .agg (XK (wrap64 (1 + wrap64 ((n : Int) * (1 + (k : Int) / 64 % 3)))))), (3, .agg Rp.toArray), (1, .int .u64 (IntKind.u64.wrap (IntKind.u64.wrap (s0 + 1) + (k : Int) / 256 % 3))), (4, .agg (XK (1000 + (n : Int))))]).run Try.prog u = .ok (.agg BX) u) := fun u => by
          rw [← hXK.out, ← hXK.out, ← HRP.out, ← hBX, ← hbd]
          exact build_b1 (rootK_is _) HQOK.out.1.2.2.2.1 (rootK_is _) u
        have HBX1 := Lib.hid hb1
        have HBXE := Lib.hid hBX
        have HBOK := Lib.hid hbok
        have HBP := Lib.hid hbpar
        clear hbd hbok hbpar hBX hb1 hXK
        refine own1 24 25 BX ZB (by kernel_rfl) (by kernel_rfl) rfl rfl rfl rfl hz238 (by rw [hszB, hbs]) (by rw [hbs]; kernel_rfl) HBX1.out ?_
        apply Exists.intro
        refine ⟨?HA, ?h1, ?hQ⟩
        case HA =>
          intro W1 hW1 T F hT hF hG
          have hWF : ∀ t, Below wc.heap.size wc (F t) := fun t => hW1.trans ((hF t).mono hW1.size)
          show wpQuiet _ _ _ _ [_, _, _, _, _, _, _, _, _, _, _, _, _, _, _, _, _, _, _, _, _, _, _, _] _
          have c0 : ∀ t, (F t).cell? ⟨bp, 66, none⟩ = some (.int .u64 s0) := fun t => by have := (HNT.out _ (HPC.out.call (hWF t))).bk.slot; rw [HS0.out, Nat.zero_add] at this; exact this
          have CL := Lib.hid (show ∀ u, (∃ t, u = F t) → u.rangeAt bp 67 Rp by rintro _ ⟨t, rfl⟩; have := (HNT.out _ (HPC.out.call (hWF t))).bk.root; rw [HRP.out, Nat.zero_add] at this; exact this)
          repeat (first
            | ((with_reducible refine at_qload (.tmp 60) ?_); refine wpQuiet_load_midE 34 _ rfl bp 67 (by simp [Act.eval]) Rp CL.out Try.underlying34 rfl hiRp (by kernel_rfl) ?_; simp only [Act.put, List.setIfInBounds_toArray, List.set_cons_succ, List.set_cons_zero])
            | ((with_reducible refine at_qbuild (some 74) ?_); refine wpQuiet_build 42 _ rfl #[(2, .agg (XK (wrap64 (1 + wrap64 ((n : Int) * (1 + (k : Int) / 64 % 3)))))), (3, .agg Rp.toArray), (1, .int .u64 (IntKind.u64.wrap (IntKind.u64.wrap (s0 + 1) + (k : Int) / 256 % 3))), (4, .agg (XK (1000 + (n : Int))))] (by simp [Act.eval]) (.agg BX) HBI.out (by kernel_rfl) ?_; simp only [Act.put, List.setIfInBounds_toArray, List.set_cons_succ, List.set_cons_zero])
            | (go_big_quiet_step ((go_at_call 13; exact fam_call hF hG (Nat.le_refl _) (HRY.out _ _)))))
          exact wpQuiet_nil rfl
        case h1 => rfl
        case hQ =>
          intro bq w11 hbq hb11 hk11
          simp only [Act.put, List.setIfInBounds_toArray, List.set_cons_succ, List.set_cons_zero]
          have HOQ := Lib.hid (HVC.out.n.off hbq)
          have HT11 : Hid (TrB w B bp bq (.slice (some ⟨rb, ro, none⟩) n sc) ns d w11) := ⟨bd, HBOK.out, HBP.out, HVC.out.call hb11, HPC.out.call hb11, by rw [HBXE.out]; exact hk11⟩
          have hpq : bp < bq := by omega
          have hz4 : (k : Int) / 1024 % 4 = ((k / 1024 % 4 : Nat) : Int) := by omega
          obtain ⟨z4, hz4'⟩ : ∃ z, k / 1024 % 4 = z := ⟨_, rfl⟩
          rw [hz4'] at hz4
          have hz5 : (k : Int) / 4096 % 3 = ((k / 4096 % 3 : Nat) : Int) := by omega
          have hz5l : k / 4096 % 3 ≤ 2 := by omega
          obtain ⟨z5, hz5'⟩ : ∃ z, k / 4096 % 3 = z := ⟨_, rfl⟩
          rw [hz5'] at hz5 hz5l
          clear hk11 hb11 hz4' hz5' HBX1 HBXE HBOK HBP HBI HVC HPC hbs
          go_upto_if 78 with fail
          go_cut [] from 22 to 115 (fun wx => TrB w B bp bq (.slice (some ⟨rb, ro, none⟩) n sc) ns d wx)
          case first =>
            by_cases h4 : z4 = 0
            · have h4' : ((z4 : Int) == 0) = true := by simp [h4]
              obtain ⟨bd, hbo, hbp2, hv, hp, hb⟩ := HT11.out
              have HV12 := Lib.hid hv; have HP12 := Lib.hid hp; have HK12 := Lib.hid hb; have HBO := Lib.hid hbo; have HBP2 := Lib.hid hbp2
              have HPY := Lib.hid (show w11.rangeAt bp 131 (bytesL d.b.payload) by have := (HNT.out _ hp).bk.payload; rw [Nat.zero_add] at this; exact this)
              have hiP : (Try.prog.info? 34).map (·.size) = some (bytesL d.b.payload).length := by rw [bytesL_len HQOK.out.1.2.2.2.2.2.1]; kernel_rfl
              clear h4 hv hp hb hbo hbp2
              go_wp2_with (first
                | ((with_reducible refine at_load (.tmp 80) ?_); refine wpList_load_rng 34 (.tmp 80) rfl bp 131 (bytesL d.b.payload) HPY.out rfl _ Try.underlying34 rfl hiP rfl ?_)
                | ((with_reducible refine at_store (.tmp 82) ?_); refine wpList_store_part rfl 34 (.tmp 82) _ rfl bq bd.parts 5 (bytesL bd.payload) (bytesL d.b.payload) HK12.out rfl (by rw [BkD.off5 HBO.out]; rfl) rfl (by rw [bytesL_len HQOK.out.1.2.2.2.2.2.1, bytesL_len HBO.out.2.2.2.2.2.1]) hiP (bytesL_one _) ?_; intro w13 U B13; have HT13 : Hid (TrB w B bp bq (.slice (some ⟨rb, ro, none⟩) n sc) ns d w13) := (by refine ⟨{bd with payload := d.b.payload}, ?_, HBP2.out, HV12.out.upd U (by omega) HOQ.out, U.blk HP12.out (by omega), B13⟩; obtain ⟨o1, o2, o3, o4, o5, o6, o7⟩ := HBO.out; exact ⟨o1, o2, o3, o4, o5, HQOK.out.1.2.2.2.2.2.1, o7⟩); clear U B13))
              go_meet
              case rel => exact HT13.out
            · have h4' : ((z4 : Int) == 0) = false := by simp [h4]
              clear h4
              go_wp2_with fail
              go_meet
              case rel => exact HT11.out
          case rest =>
            have HT14 := Lib.hid hcut
            have hsd := HOK.out.st q hq
            rw [HQE.out] at hsd
            obtain ⟨sd, hsd'⟩ : ∃ z, d.st = z := ⟨_, rfl⟩
            rw [hsd'] at hsd
            have HSD := Lib.hid hsd'
            have hz5b : (z5 : Int) ≤ 2 := by omega
            have HC3 : Hid (∀ u : World, (u.alloc (.cells #[.int .i64 0, .int .i64 1, .int .i64 2] 3)).cell? ⟨u.heap.size, z5, none⟩ = some (.int .i64 (z5 : Int))) := fun u => by
              have hb := (Blk.new (w := u) (cs := #[.int .i64 0, .int .i64 1, .int .i64 2]) (t := 3) rfl)
              have h3 : z5 = 0 ∨ z5 = 1 ∨ z5 = 2 := by omega
              rcases h3 with rfl | rfl | rfl
              · exact hb.cell 0
              · exact hb.cell 1
              · exact hb.cell 2
            obtain ⟨_, _, _, hvx, hpx, _⟩ := HT14.out
            have HST0 := Lib.hid (show wc.cell? ⟨bp, 239, none⟩ = some (.int .i64 sd) by have := (HNT.out _ hpx).st; rw [hsd', Nat.zero_add] at this; exact this)
            have hbpw := hpx.lt
            have HAL : Hid (Below wc.heap.size wc (wc.alloc (.cells #[.int .i64 0, .int .i64 1, .int .i64 2] 3))) := (Below.refl _ _).alloc (Nat.le_refl _) _
            have HST1 := Lib.hid ((HAL.out.cell (p := ⟨bp, 239, none⟩) hbpw).trans HST0.out)
            clear hcut hsd' hvx hpx
            go_upto_if 91 with (first
              | ((with_reducible refine at_load (.tmp 87) ?_); refine wpList_load_1 3 (.tmp 87) rfl wc.heap.size z5 (.int .i64 (z5 : Int)) (HC3.out wc) rfl _ Try.underlying3 rfl rfl ?_)
              | ((with_reducible refine at_load (.tmp 89) ?_); refine wpList_load_1 3 (.tmp 89) rfl bp 239 (.int .i64 sd) HST1.out rfl _ Try.underlying3 rfl rfl ?_))
            go_cut [8] from 22 to 115 (fun s8 wx => TrS w B bp bq (.slice (some ⟨rb, ro, none⟩) n sc) ns d s8 wx)
            case first =>
              have HT15 : Hid (TrB w B bp bq (.slice (some ⟨rb, ro, none⟩) n sc) ns d (wc.alloc (.cells #[.int .i64 0, .int .i64 1, .int .i64 2] 3))) := HT14.out.call HAL.out
              by_cases h2 : sd = 2
              · have h2' : (sd == 2) = true := by simp [h2]
                have HS2 := Lib.hid h2
                clear h2
                go_wp2_with fail
                go_meet
                case rel => exact ⟨2, rfl, by omega, fun h => by omega, fun _ => rfl, HT15.out⟩
              · have h2' : (sd == 2) = false := by simp [h2]
                by_cases h0 : sd = 0
                · have h0' : (sd == 0) = true := by simp [h0]
                  by_cases h1 : z5 = 1
                  · have h1' : ((z5 : Int) == 1) = true := by simp [h1]
                    have HS0' := Lib.hid h0
                    clear h0 h1
                    go_wp2_with (first
                      | ((with_reducible refine at_load (.tmp 92) ?_); refine wpList_load_1 3 (.tmp 92) rfl bp 239 (.int .i64 sd) HST1.out rfl _ Try.underlying3 rfl rfl ?_))
                    go_meet
                    case rel => exact ⟨0, rfl, by omega, fun h => by omega, fun h => by have := HS0'.out; rw [HSD.out] at h; omega, HT15.out⟩
                  · have h1' : ((z5 : Int) == 1) = false := by simp; omega
                    have HS0' := Lib.hid h0
                    have HN1 := Lib.hid h1
                    clear h0 h1
                    go_wp2_with (first
                      | ((with_reducible refine at_load (.tmp 92) ?_); refine wpList_load_1 3 (.tmp 92) rfl bp 239 (.int .i64 sd) HST1.out rfl _ Try.underlying3 rfl rfl ?_))
                    go_meet
                    case rel => exact ⟨(z5 : Int), rfl, by omega, fun h => by have := HN1.out; omega, fun h => by have := HS0'.out; rw [HSD.out] at h; omega, HT15.out⟩
                · have h0' : (sd == 0) = false := by simp [h0]
                  have HN0 := Lib.hid h0
                  have HN2 := Lib.hid h2
                  clear h0 h2
                  go_wp2_with (first
                    | ((with_reducible refine at_load (.tmp 92) ?_); refine wpList_load_1 3 (.tmp 92) rfl bp 239 (.int .i64 sd) HST1.out rfl _ Try.underlying3 rfl rfl ?_))
                  go_meet
                  case rel => exact ⟨(z5 : Int), rfl, by omega, fun _ => by have h1 := HN0.out; have h2 := HN2.out; rw [HSD.out]; omega, fun h => by have := HN2.out; rw [HSD.out] at h; exact absurd h this, HT15.out⟩
            case rest =>
              obtain ⟨st, rfl, hst, hc1, hc2, bd, hbo, hbp, hvx, hpx, hkx⟩ := hcut
              have HV20 := Lib.hid hvx
              have HK20 := Lib.hid hkx
              have HBO := Lib.hid hbo
              have HINS := Lib.hid (insn_any (.slice (some ⟨rb, ro, none⟩) n sc) ns bd st wc hvx.n hbo (by omega))
              have hadd := fun he => HOK.out.add hq (x := bd) (st := st) (by rw [HQE.out]; exact hbp) hst (by rw [HQE.out]; exact hc1) (by rw [HQE.out]; exact hc2) he
              have hbsz : (flatP bd.parts).size = 238 := by rw [flatP_size, BkD.flen hbo]
              obtain ⟨BX2, hBX2⟩ : ∃ X, flatP bd.parts = X := ⟨_, rfl⟩
              rw [hBX2] at HINS HK20 hbsz
              have hiB : (Try.prog.info? 42).map (·.size) = some BX2.size := by rw [hbsz]; kernel_rfl
              have hBw := hvx.t.lt
              by_cases he : (insT ns bd st).2 = 0
              · obtain ⟨hres, hok2⟩ := hadd he
                have HR2 := Lib.hid hres
                have HOK2 := Lib.hid hok2
                have HEZ := Lib.hid he
                have hnn : ((n : Int) + 1 != (n : Int) + 1) = false := by simp
                clear hadd hres hok2 he hc1 hc2 hbo hbp hvx hpx hkx hBX2
                go_wp2_with (first
                  | ((with_reducible refine at_load (.tmp 3) ?_); refine wpList_load_g 24 (.tmp 3) rfl B rfl #[.slice (some ⟨rb, ro, none⟩) n sc] _ HV20.out.t Try.underlying24 rfl hi1 rfl ?_)
                  | ((with_reducible refine at_load (.tmp 7) ?_); refine wpList_load_g 42 (.tmp 7) rfl bq rfl BX2 _ HK20.out Try.underlying42 rfl hiB rfl ?_)
                  | (go_at_call 15; refine HINS.out.mono ?_; rintro e w21 ⟨v', rfl, hn21, hw21, hc21, hb21⟩; rw [HEZ.out]; rw [HR2.out] at hn21; have HV21 := Lib.hid (HV20.out.call hb21); obtain ⟨va, vc, hv', _⟩ := hn21.shape; rw [List.length_append, HLEN.out, List.length_singleton] at hv'; have HN21 := Lib.hid hn21; have HW21 := Lib.hid hw21; have HSH := Lib.hid hv'; have HC21 := Lib.hid hc21; rw [hv'] at HN21 HW21 HC21; rw [hv']; clear hn21 hw21 hc21 hb21 hv')
                  | ((with_reducible refine at_store (.tmp 9) ?_); refine wpList_store_blk rfl 24 (.tmp 9) _ rfl w21.heap.size #[.slice va (n + 1) vc] rfl rfl #[.slice none 0 0] (Blk.new rfl) rfl hi1 (by simp [Value.oneCell']) ?_; intro w22 U22 B22; have hb22 := U22.below ((Below.refl w21.heap.size w21).alloc (Nat.le_refl _) (.cells #[.slice none 0 0] 24)) (Nat.le_refl _); have HV22 := Lib.hid (HV21.out.call hb22); have HN22 := Lib.hid (HN21.out.call hb22); have HK22 := Lib.hid B22; clear U22 B22 hb22)
                  | ((with_reducible refine at_load (.tmp 9) ?_); refine wpList_load_g 24 (.tmp 9) rfl w21.heap.size rfl #[.slice va (n + 1) vc] _ HK22.out Try.underlying24 rfl hi1 rfl ?_)
                  | ((with_reducible refine at_store (.tmp 3) ?_); refine wpList_store_blk rfl 24 (.tmp 3) _ rfl B #[.slice va (n + 1) vc] rfl rfl #[.slice (some ⟨rb, ro, none⟩) n sc] HV22.out.t rfl hi1 (by simp [Value.oneCell']) ?_; intro w23 U23 B23; have HV23 : Hid (TrV w w.heap.size B (.slice va (n + 1) vc) (ns ++ [⟨bd, (q : Int), st⟩]) w23) := (by refine ⟨U23.blk HV22.out.r (by have := HV22.out.lt; omega), B23, HN22.out.grownOff (upd_grown U23) (HW21.out.off (by omega)), HW21.out.off (by have := HV22.out.lt; omega), HW21.out.off (by omega), U23.below HV22.out.b (by have h1 := HV22.out.lt; omega), HV22.out.lt, rfl, HC21.out⟩); have HC23 := Lib.hid (HV23.out.t.cell 0); clear U23 B23)
                  | ((with_reducible refine at_load (.tmp 109) ?_); refine wpList_load_1 22 (.tmp 109) rfl B 0 (.slice va (n + 1) vc) HC23.out rfl _ Try.underlying22 rfl rfl ?_))
                go_roundw
                case rel => exact ⟨n + 1, ns ++ [⟨bd, (q : Int), st⟩], _, by go_num, by omega, by omega, by rw [List.length_append, HLEN.out]; rfl, HOK2.out, HV23.out⟩
                case measure => simp [intOf]; omega
              · have hbad := insT_bad he
                have HBD := Lib.hid hbad
                obtain ⟨ev, hev⟩ : ∃ z, (insT ns bd st).2 = z := ⟨_, rfl⟩
                rw [hev] at he
                have hez : (ev == 0) = false := by simp [he]
                have HEV := Lib.hid hev
                have hnn : ((n : Int) != (n : Int) + 1) = true := by simp; omega
                clear hadd hbad hev he hc1 hc2 hbo hbp hvx hpx hkx hBX2
                go_wp2_with (first
                  | ((with_reducible refine at_load (.tmp 3) ?_); refine wpList_load_g 24 (.tmp 3) rfl B rfl #[.slice (some ⟨rb, ro, none⟩) n sc] _ HV22.out.t Try.underlying24 rfl hi1 rfl ?_)
                  | ((with_reducible refine at_load (.tmp 3) ?_); refine wpList_load_g 24 (.tmp 3) rfl B rfl #[.slice (some ⟨rb, ro, none⟩) n sc] _ HV20.out.t Try.underlying24 rfl hi1 rfl ?_)
                  | ((with_reducible refine at_load (.tmp 7) ?_); refine wpList_load_g 42 (.tmp 7) rfl bq rfl BX2 _ HK20.out Try.underlying42 rfl hiB rfl ?_)
                  | (go_at_call 15; refine HINS.out.mono ?_; rintro e w21 ⟨v', rfl, hn21, hw21, hc21, hb21⟩; rw [HEV.out]; rw [HBD.out] at hn21; have HV21 := Lib.hid (HV20.out.call hb21); obtain ⟨va, vc, hv', _⟩ := hn21.shape; rw [List.length_nil] at hv'; rw [hv']; clear hn21 hw21 hc21 hb21 hv')
                  | ((with_reducible refine at_store (.tmp 9) ?_); refine wpList_store_blk rfl 24 (.tmp 9) _ rfl w21.heap.size #[.slice va 0 vc] rfl rfl #[.slice none 0 0] (Blk.new rfl) rfl hi1 (by simp [Value.oneCell']) ?_; intro w22 U22 B22; have hb22 := U22.below ((Below.refl w21.heap.size w21).alloc (Nat.le_refl _) (.cells #[.slice none 0 0] 24)) (Nat.le_refl _); have HV22 := Lib.hid (HV21.out.call hb22); have HC22 := Lib.hid (HV22.out.t.cell 0); clear U22 B22 hb22)
                  | ((with_reducible refine at_load (.tmp 109) ?_); refine wpList_load_1 22 (.tmp 109) rfl B 0 (.slice (some ⟨rb, ro, none⟩) n sc) HC22.out rfl _ Try.underlying22 rfl rfl ?_)
                  | ((with_reducible refine at_store (.tmp 2) ?_); refine wpList_store_blk rfl 24 (.tmp 2) _ rfl w.heap.size #[.slice (some ⟨rb, ro, none⟩) n sc] rfl rfl #[.slice none 0 0] HV22.out.r rfl hi1 (by simp [Value.oneCell']) ?_; intro w24 U9 B9; have HR9 := Lib.hid B9; have HB9 := Lib.hid (U9.below HV22.out.b (Nat.le_refl _)); have HN9 := Lib.hid (HV22.out.n.grownOff (upd_grown U9) HV22.out.o1); clear U9 B9))
                exact bodyPost_ret (res_cellB rfl rfl HR9.out Try.underlying24 rfl hi1) rfl ⟨_, ns, rfl, HN9.out, HCP.out, HOK.out, by rw [HLEN.out]; omega, HB9.out⟩
end

/-! TrF -/
section
set_option linter.unusedVariables false
set_option linter.unusedSimpArgs false
open Go.RowKit

set_option maxRecDepth 100000

/-- The path from the root to a node. -/
def upAt (ns : List NdD) (i : Nat) : Nat := (((ns[i]?).map NdD.up).getD 0).toNat

def pathF (ns : List NdD) : Nat → Nat → List Int
  | 0, _ => []
  | f + 1, i => if i = 0 then [0] else pathF ns f (upAt ns i) ++ [(i : Int)]

def pathN (ns : List NdD) (i : Int) : List Int := if 0 ≤ i ∧ i < ns.length then pathF ns (i.toNat + 1) i.toNat else []

theorem TrOK.upAt {ns : List NdD} (h : TrOK ns) {i : Nat} (hi : i < ns.length) (h0 : 0 < i) : upAt ns i < i ∧ upAt ns i < ns.length ∧ ns[i].up = upAt ns i := by
  obtain ⟨u, hu, h1, h2, _⟩ := h.up i hi h0
  have e : Go.Proofs.Ytgdlkkeiijhecaa.upAt ns i = u := by simp [Go.Proofs.Ytgdlkkeiijhecaa.upAt, List.getElem?_eq_getElem hi, h2]
  rw [e]
  exact ⟨h1, hu, h2⟩

/-- Fuel beyond the index changes nothing. -/
theorem pathF_two {ns : List NdD} (h : TrOK ns) : ∀ i, i < ns.length → ∀ f g, i + 1 ≤ f → i + 1 ≤ g → pathF ns f i = pathF ns g i := by
  intro i
  induction i using Nat.strongRecOn with
  | ind i ih =>
    intro hi f g hf hg
    obtain ⟨f', rfl⟩ : ∃ f', f = f' + 1 := ⟨f - 1, by omega⟩
    obtain ⟨g', rfl⟩ : ∃ g', g = g' + 1 := ⟨g - 1, by omega⟩
    show (if i = 0 then [0] else pathF ns f' (upAt ns i) ++ [(i : Int)]) = (if i = 0 then [0] else pathF ns g' (upAt ns i) ++ [(i : Int)])
    by_cases h0 : i = 0
    · rw [if_pos h0, if_pos h0]
    · rw [if_neg h0, if_neg h0]
      obtain ⟨h1, h2, _⟩ := h.upAt hi (by omega)
      rw [ih _ h1 h2 f' g' (by omega) (by omega)]

theorem pathN_zero {ns : List NdD} (h : 0 < ns.length) : pathN ns (0 : Int) = [0] := by unfold pathN; rw [if_pos (by omega)]; rfl

theorem pathN_step {ns : List NdD} (h : TrOK ns) {i : Nat} (hi : i < ns.length) (h0 : 0 < i) : pathN ns (i : Int) = pathN ns (upAt ns i : Int) ++ [(i : Int)] := by
  obtain ⟨h1, h2, _⟩ := h.upAt hi h0
  unfold pathN
  rw [if_pos (by omega), if_pos (by omega)]
  show (if i = 0 then [0] else pathF ns i (upAt ns i) ++ [(i : Int)]) = _
  rw [if_neg (by omega), pathF_two h _ h2 i ((upAt ns i : Int).toNat + 1) (by omega) (by omega)]
  rfl

theorem pathN_out {ns : List NdD} {i : Int} (h : ¬ (0 ≤ i ∧ i < ns.length)) : pathN ns i = [] := by unfold pathN; rw [if_neg h]

theorem pathF_len (ns : List NdD) : ∀ f i, (pathF ns f i).length ≤ f
  | 0, _ => by simp [pathF]
  | f + 1, i => by
    have := pathF_len ns f (upAt ns i)
    show (if i = 0 then [0] else pathF ns f (upAt ns i) ++ [(i : Int)]).length ≤ _
    split
    · simp
    · simp; omega

theorem pathN_len (ns : List NdD) (i : Int) : (pathN ns i).length ≤ ns.length := by
  unfold pathN
  split
  · have := pathF_len ns (i.toNat + 1) i.toNat; omega
  · simp

/-- The nodes of a path: each is in the tree, and none is behind the last one. -/
theorem pathN_mem {ns : List NdD} (h : TrOK ns) : ∀ i : Nat, i < ns.length → ∀ x ∈ pathN ns (i : Int), 0 ≤ x ∧ x ≤ i := by
  intro i
  induction i using Nat.strongRecOn with
  | ind i ih =>
    intro hi x hx
    by_cases h0 : i = 0
    · subst h0
      rw [show ((0 : Nat) : Int) = 0 from rfl, pathN_zero h.pos] at hx
      rw [List.mem_singleton.1 hx]; omega
    · rw [pathN_step h hi (by omega)] at hx
      obtain ⟨h1, h2, _⟩ := h.upAt hi (by omega)
      rcases List.mem_append.1 hx with hm | hm
      · have := ih _ h1 h2 x hm; omega
      · rw [List.mem_singleton.1 hm]; omega

theorem pathN_rng {ns : List NdD} (h : TrOK ns) (i : Int) : ∀ x ∈ pathN ns i, 0 ≤ x ∧ x < ns.length := by
  intro x hx
  by_cases hi : 0 ≤ i ∧ i < ns.length
  · obtain ⟨k, rfl⟩ : ∃ k : Nat, i = k := ⟨i.toNat, by omega⟩
    have := pathN_mem h k (by omega) x hx; omega
  · rw [pathN_out hi] at hx; cases hx

theorem OwnK.lower {k : IntKind} {e : TypeId} {w : World} {B B' : Nat} {v : Value} {xs : List Int} (h : OwnK k e w B v xs) (hB : B' ≤ B) : OwnK k e w B' v xs := by
  refine ⟨h.1, ?_⟩
  rcases h.2 with h' | ⟨g, cap, cur, e', h2, h3⟩
  · exact .inl h'
  · exact .inr ⟨g, cap, cur, e', Nat.le_trans hB h2, h3⟩

/-- What Path promises. -/
def PathE (ns : List NdD) (i : Int) (w : World) (e : Ending) (w' : World) : Prop :=
  ∃ v', e = .returned v' ∧ OwnK .i64 3 w' w.heap.size v' (pathN ns i) ∧ Below w.heap.size w w'

set_option maxHeartbeats 8000000 in
theorem path_out (v : Value) (ns : List NdD) (i : Int) (w : World) (hN : NodesV w v ns) (hi : ¬ (0 ≤ i ∧ i < ns.length)) :
    Calls Try.prog 21 #[.agg #[v], .int .i64 i] w (PathE ns i w) := by
  have HIS := Lib.hid (fun u (hu : Below w.heap.size w u) => isn_any v ns i u (hN.call hu))
  have HD : Hid (decide (0 ≤ i ∧ i < (ns.length : Int)) = false) := decide_eq_false hi
  have S0 := Lib.hid (pas_new w #[v] 24)
  have hi1 : (Try.prog.info? 24).map (·.size) = some 1 := by kernel_rfl
  have HP := Lib.hid (pathN_out hi)
  clear hN hi
  go_enter Try.func21, Try.ntmps21
  go_wp2_with (first
    | ((with_reducible refine at_load (.tmp 2) ?_); refine wpList_load_g 24 (.tmp 2) rfl w.heap.size rfl #[v] _ S0.out.t Try.underlying24 rfl hi1 rfl ?_)
    | (go_at_call 34; refine (HIS.out _ S0.out.b).mono ?_; rintro e w1 ⟨rfl, hb1⟩; rw [HD.out]; have S1 := Lib.hid (S0.out.call hb1); clear hb1))
  go_ret
  exact ⟨_, rfl, by rw [HP.out]; exact OwnK.nil _ _ _ _, S1.out.b⟩

set_option maxHeartbeats 16000000 in
theorem path_in (ns : List NdD) (hok : TrOK ns) (hlen : ns.length ≤ 100000) : ∀ (i : Nat) (hi : i < ns.length) (v : Value) (w : World) (hN : NodesV w v ns),
    Calls Try.prog 21 #[.agg #[v], .int .i64 i] w (PathE ns i w) := by
  intro i
  induction i using Nat.strongRecOn with
  | ind i ih =>
    intro hi v w hN
    obtain ⟨a, cap, rfl, hmx⟩ := hN.shape
    unfold maxLen at hmx
    have HIS := Lib.hid (fun u (hu : Below w.heap.size w u) => isn_any _ ns i u (hN.call hu))
    have HD : Hid (decide (0 ≤ (i : Int) ∧ (i : Int) < (ns.length : Int)) = true) := decide_eq_true (by omega)
    have HN := Lib.hid hN
    have HOK := Lib.hid hok
    have HLM := Lib.hid hlen
    have HII := Lib.hid info_int
    have hi1 : (Try.prog.info? 24).map (·.size) = some 1 := by kernel_rfl
    obtain ⟨m, hm⟩ : ∃ m, Hid (ns.length = m) := ⟨_, Lib.hid rfl⟩
    rw [hm.out] at hmx HIS HN ⊢
    have S0 := Lib.hid (pas_new w #[.slice a m cap] 24)
    by_cases h0 : i = 0
    · subst h0
      have HP : Hid (pathN ns ((0 : Nat) : Int) = [0]) := pathN_zero hok.pos
      clear hN ih hi hok
      go_enter Try.func21, Try.ntmps21
      go_wp2_with (first
        | ((with_reducible refine at_load (.tmp 2) ?_); refine wpList_load_g 24 (.tmp 2) rfl w.heap.size rfl #[.slice a m cap] _ S0.out.t Try.underlying24 rfl hi1 rfl ?_)
        | (go_at_call 34; refine (HIS.out _ S0.out.b).mono ?_; rintro e w1 ⟨rfl, hb1⟩; rw [hm.out] at HD; rw [HD.out]; have S1 := Lib.hid (S0.out.call hb1); clear hb1))
      go_ret
      exact ⟨_, rfl, by rw [HP.out]; exact own_one _ _ _ S1.out.b.size, S1.out.b.alloc S1.out.b.size _⟩
    · have hz : ((i : Int) == 0) = false := by simp; omega
      obtain ⟨hu1, hu2, hu3⟩ := hok.upAt hi (by omega)
      have HP := Lib.hid (pathN_step hok hi (by omega))
      have HIH := Lib.hid (fun z (hz : NodesV z (.slice a ns.length cap) ns) => ih (upAt ns i) hu1 hu2 _ z hz)
      have HLE := Lib.hid (pathN_len ns (upAt ns i : Int))
      obtain ⟨b, off, rfl, hlm, hbb, hna, _⟩ := HN.out.elem hi
      have HUP := Lib.hid hna.up
      rw [hu3] at HUP
      obtain ⟨u, hu⟩ : ∃ u, upAt ns i = u := ⟨_, rfl⟩
      rw [hu] at HUP HIH HP HLE
      have hik : (i : Int) < m := by rw [← hm.out]; omega
      rw [hm.out] at HD hi HIH
      clear hN ih hok hlm hna hu1 hu2 hu3 hu h0
      go_enter Try.func21, Try.ntmps21
      go_wp2_with (first
        | ((with_reducible refine at_load (.tmp 2) ?_); refine wpList_load_g 24 (.tmp 2) rfl w.heap.size rfl #[.slice (some ⟨b, off, none⟩) m cap] _ S0.out.t Try.underlying24 rfl hi1 rfl ?_)
        | (go_at_call 34; refine (HIS.out _ S0.out.b).mono ?_; rintro e w1 ⟨rfl, hb1⟩; rw [HD.out]; have S1 := Lib.hid (S0.out.call hb1); clear hb1))
      have SD : Hid (PaS w #[.slice (some ⟨b, off, none⟩) m cap] w1.drew) := S1.out.call ⟨rfl, rfl, rfl, Nat.le_refl _, fun _ _ => rfl⟩
      refine wp_region_held_drew (S := fun z => PaS w #[.slice (some ⟨b, off, none⟩) m cap] z) (by kernel_rfl) (SD.out) (fun _ => ?_)
      (try simp only [Act.put, List.setIfInBounds_toArray, List.set_cons_zero, List.set_cons_succ])
      refine held_load (oi := ⟨some 12, _, _, _, _, _⟩) 0 rfl (by kernel_rfl) (by kernel_rfl) (by kernel_rfl) (fun _ _ _ _ h => h) rfl 24 (.tmp 2) rfl w.heap.size 0 rfl [.slice (some ⟨b, off, none⟩) m cap] _ (fun u' hu => hu.t.rng) Try.underlying24 rfl hi1 SD.out ?_
      (try simp only [Act.put, List.setIfInBounds_toArray, List.set_cons_zero, List.set_cons_succ])
      refine wpAnyH_take (i := 1) (oi := ⟨some 13, _, _, _, _, _⟩) (v := .pointer (some ⟨w.heap.size, 0, none⟩)) rfl (by kernel_rfl) (by kernel_rfl) (by kernel_rfl) (fun _ _ _ h => h) (Or.inl ⟨by rfl, fun wz hz => ?_⟩) SD.out ?_
      · clear hz; go_simp; first | done | with_reducible rfl | rfl
      (try simp only [Act.put, List.setIfInBounds_toArray, List.set_cons_zero, List.set_cons_succ])
      refine held_load1 (oi := ⟨some 14, _, _, _, _, _⟩) 2 rfl (by kernel_rfl) (by kernel_rfl) (by kernel_rfl) (fun _ _ _ _ h => h) rfl 22 (.tmp 13) rfl w.heap.size (0) rfl (.slice (some ⟨b, off, none⟩) m cap) _ (fun u' hu => hu.t.cell 0) Try.underlying22 rfl SD.out ?_
      (try simp only [Act.put, List.setIfInBounds_toArray, List.set_cons_zero, List.set_cons_succ])
      refine wpAnyH_take (i := 3) (oi := ⟨some 15, _, _, _, _, _⟩) (v := .int .i64 i) rfl (by kernel_rfl) (by kernel_rfl) (by kernel_rfl) (fun _ _ _ h => h) (Or.inl ⟨by rfl, fun wz hz => ?_⟩) SD.out ?_
      · clear hz; go_simp; first | done | with_reducible rfl | rfl
      (try simp only [Act.put, List.setIfInBounds_toArray, List.set_cons_zero, List.set_cons_succ])
      refine wpAnyH_take (i := 4) (oi := ⟨some 16, _, _, _, _, _⟩) (v := .pointer (some ⟨b, off + i * 240, none⟩)) rfl (by kernel_rfl) (by kernel_rfl) (by kernel_rfl) (fun _ _ _ h => h) (Or.inl ⟨by rfl, fun wz hz => ?_⟩) SD.out ?_
      · clear hz; go_simp; first | done | with_reducible rfl | rfl
      (try simp only [Act.put, List.setIfInBounds_toArray, List.set_cons_zero, List.set_cons_succ])
      refine wpAnyH_take (i := 5) (oi := ⟨some 17, _, _, _, _, _⟩) (v := .pointer (some ⟨b, off + i * 240 + 238, none⟩)) rfl (by kernel_rfl) (by kernel_rfl) (by kernel_rfl) (fun _ _ _ h => h) (Or.inl ⟨by rfl, fun wz hz => ?_⟩) SD.out ?_
      · clear hz; go_simp; first | done | with_reducible rfl | rfl
      (try simp only [Act.put, List.setIfInBounds_toArray, List.set_cons_zero, List.set_cons_succ])
      refine held_load1 (oi := ⟨some 18, _, _, _, _, _⟩) 6 rfl (by kernel_rfl) (by kernel_rfl) (by kernel_rfl) (fun _ _ _ _ h => h) rfl 3 (.tmp 17) rfl b (off + i * 240 + 238) rfl (.int .i64 (u : Int)) _ (fun u' hu => (hu.b.cell (p := ⟨b, off + i * 240 + 238, none⟩) hbb).trans HUP.out) Try.underlying3 rfl SD.out ?_
      (try simp only [Act.put, List.setIfInBounds_toArray, List.set_cons_zero, List.set_cons_succ])
      refine wpAnyH_take (i := 8) (oi := ⟨some 20, _, _, _, _, _⟩) (v := .int .i64 i) rfl (by kernel_rfl) (by kernel_rfl) (by kernel_rfl) (fun _ _ _ h => h) (Or.inl ⟨by rfl, fun wz hz => ?_⟩) SD.out ?_
      · clear hz; go_simp; first | done | with_reducible rfl | rfl
      (try simp only [Act.put, List.setIfInBounds_toArray, List.set_cons_zero, List.set_cons_succ])
      refine wpAnyH_ready (rs := [7, 9]) (by kernel_rfl) (by simp) ?_
      refine AllReadyH.cons (o := ⟨some 19, _, _, _, _, _⟩) rfl (fun K hK => ?_) (AllReadyH.cons (o := ⟨some 21, _, _, _, _, _⟩) rfl (fun K hK => ?_) AllReadyH.nil)
      · skip
        have HSZ : Hid (w1.drew.heap.size ≤ w1.drew.heap.size) := Nat.le_refl _
        go_simp
        refine (HIH.out w1.drew (HN.out.call SD.out.b)).mono ?_
        rintro e w3 ⟨v3, rfl, ho3, hb3⟩
        have HO3 := Lib.hid ho3
        have HB3 := Lib.hid hb3
        have S3 := Lib.hid (SD.out.call hb3)
        clear ho3 hb3
        refine hK.out _ _ (S3.out) (fun _ => ?_)
        clear hK K
        (try simp only [Act.put, List.setIfInBounds_toArray, List.set_cons_zero, List.set_cons_succ])
        refine wpAnyH_ready (rs := [9]) (by kernel_rfl) (by simp) ?_
        refine AllReadyH.cons (o := ⟨some 21, _, _, _, _, _⟩) rfl (fun K hK => ?_) AllReadyH.nil
        refine wp_buildSlice 29 1 _ rfl #[(0, .int .i64 i)] (by simp [Act.eval, Act.put]) _ (bs_int i w3) ?_
        have hal : Below w3.heap.size w3 (w3.alloc (.cells #[.int .i64 (i : Int)] 3)) := (Below.refl _ _).alloc (Nat.le_refl _) _
        have HO4 := Lib.hid (HO3.out.call hal)
        have S4 := Lib.hid (S3.out.call hal)
        have HN4 : Hid (Ints .i64 (w3.alloc (.cells #[.int .i64 (i : Int)] 3)) (.slice (some ⟨w3.heap.size, 0, none⟩) 1 1) [(i : Int)]) := one_ints _ _
        have HBM : Hid (w1.drew.heap.size ≤ (w3.alloc (.cells #[.int .i64 (i : Int)] 3)).heap.size) := by have := HB3.out.size; have := hal.size; show _ ≤ _; omega
        clear hal
        refine hK.out _ _ (S4.out) (fun _ => ?_)
        clear hK K
        (try simp only [Act.put, List.setIfInBounds_toArray, List.set_cons_zero, List.set_cons_succ])
        refine wpAnyH_ready (rs := [10]) (by kernel_rfl) (by simp) ?_
        refine AllReadyH.cons (o := ⟨some 22, _, _, _, _, _⟩) rfl (fun K hK => ?_) AllReadyH.nil
        refine (fun hgo => wp_appK HII.out (by omega) Try.underlying29 (.tmp 19) (.tmp 21) rfl w1.drew.heap.size v3 (pathN ns (u : Int)) rfl HO4.out (.slice (some ⟨w3.heap.size, 0, none⟩) 1 1) [(i : Int)] rfl HN4.out (by have := HLE.out; have := HLM.out; simp; omega) (by first | exact Nat.le_refl _ | exact HB3.out.size | exact HBM.out) hgo) ?_
        intro v8 w8 ho8 hg8 _
        rw [← HP.out] at ho8
        have HO8 := Lib.hid ho8
        have S8 := Lib.hid (S4.out.grown hg8 (fun j hj => by have := (HO4.out.lt j hj).1; have := SD.out.t.lt; have := HSZ.out; omega))
        clear ho8 hg8
        refine hK.out _ _ (S8.out) (fun _ => ?_)
        clear hK K
        (try simp only [Act.put, List.setIfInBounds_toArray, List.set_cons_zero, List.set_cons_succ])
        refine wpAnyH_ready (rs := [11]) (by kernel_rfl) (by simp) ?_
        refine AllReadyH.cons (o := ⟨some 4, _, _, _, _, _⟩) rfl (fun K hK => ?_) AllReadyH.nil
        go_simp
        refine hK.out _ _ (S8.out) (fun _ => ?_)
        clear hK K
        (try simp only [Act.put, List.setIfInBounds_toArray, List.set_cons_zero, List.set_cons_succ])
        refine wpAnyH_done (by kernel_rfl) ?_ _
        go_wp2_with fail
        go_ret
        exact ⟨_, rfl, OwnK.lower HO8.out (by have := SD.out.b.size; have := HSZ.out; omega), S8.out.b⟩
      · skip
        refine wp_buildSlice 29 1 _ rfl #[(0, .int .i64 i)] (by simp [Act.eval, Act.put]) _ (bs_int i w1.drew) ?_
        have hal : Below w1.drew.heap.size w1.drew (w1.drew.alloc (.cells #[.int .i64 (i : Int)] 3)) := (Below.refl _ _).alloc (Nat.le_refl _) _
        have S4 := Lib.hid (SD.out.call hal)
        have HN4 : Hid (Ints .i64 (w1.drew.alloc (.cells #[.int .i64 (i : Int)] 3)) (.slice (some ⟨w1.drew.heap.size, 0, none⟩) 1 1) [(i : Int)]) := one_ints _ _
        have HSZ := Lib.hid hal.size
        clear hal
        refine hK.out _ _ (S4.out) (fun _ => ?_)
        clear hK K
        (try simp only [Act.put, List.setIfInBounds_toArray, List.set_cons_zero, List.set_cons_succ])
        refine wpAnyH_ready (rs := [7]) (by kernel_rfl) (by simp) ?_
        refine AllReadyH.cons (o := ⟨some 19, _, _, _, _, _⟩) rfl (fun K hK => ?_) AllReadyH.nil
        go_simp
        refine (HIH.out (w1.drew.alloc (.cells #[.int .i64 (i : Int)] 3)) (HN.out.call S4.out.b)).mono ?_
        rintro e w3 ⟨v3, rfl, ho3, hb3⟩
        have HO3 := Lib.hid ho3
        have HB3 := Lib.hid hb3
        have S3 := Lib.hid (S4.out.call hb3)
        clear ho3 hb3
        have HN5 := Lib.hid (HN4.out.below HB3.out)
        have HBM : Hid ((w1.drew.alloc (.cells #[.int .i64 (i : Int)] 3)).heap.size ≤ w3.heap.size) := HB3.out.size
        refine hK.out _ _ (S3.out) (fun _ => ?_)
        clear hK K
        (try simp only [Act.put, List.setIfInBounds_toArray, List.set_cons_zero, List.set_cons_succ])
        refine wpAnyH_ready (rs := [10]) (by kernel_rfl) (by simp) ?_
        refine AllReadyH.cons (o := ⟨some 22, _, _, _, _, _⟩) rfl (fun K hK => ?_) AllReadyH.nil
        refine (fun hgo => wp_appK HII.out (by omega) Try.underlying29 (.tmp 19) (.tmp 21) rfl (w1.drew.alloc (.cells #[.int .i64 (i : Int)] 3)).heap.size v3 (pathN ns (u : Int)) rfl HO3.out (.slice (some ⟨w1.drew.heap.size, 0, none⟩) 1 1) [(i : Int)] rfl HN5.out (by have := HLE.out; have := HLM.out; simp; omega) (by first | exact Nat.le_refl _ | exact HB3.out.size | exact HBM.out) hgo) ?_
        intro v8 w8 ho8 hg8 _
        rw [← HP.out] at ho8
        have HO8 := Lib.hid ho8
        have S8 := Lib.hid (S3.out.grown hg8 (fun j hj => by have := (HO3.out.lt j hj).1; have := SD.out.t.lt; have := HSZ.out; omega))
        clear ho8 hg8
        refine hK.out _ _ (S8.out) (fun _ => ?_)
        clear hK K
        (try simp only [Act.put, List.setIfInBounds_toArray, List.set_cons_zero, List.set_cons_succ])
        refine wpAnyH_ready (rs := [11]) (by kernel_rfl) (by simp) ?_
        refine AllReadyH.cons (o := ⟨some 4, _, _, _, _, _⟩) rfl (fun K hK => ?_) AllReadyH.nil
        go_simp
        refine hK.out _ _ (S8.out) (fun _ => ?_)
        clear hK K
        (try simp only [Act.put, List.setIfInBounds_toArray, List.set_cons_zero, List.set_cons_succ])
        refine wpAnyH_done (by kernel_rfl) ?_ _
        go_wp2_with fail
        go_ret
        exact ⟨_, rfl, OwnK.lower HO8.out (by have := SD.out.b.size; have := HSZ.out; omega), S8.out.b⟩
end

/-! TrG -/
section
set_option linter.unusedVariables false
set_option linter.unusedSimpArgs false
open Go.RowKit

set_option maxRecDepth 100000

theorem path_any (ns : List NdD) (hok : TrOK ns) (hlen : ns.length ≤ 100000) (i : Int) (v : Value) (w : World) (hN : NodesV w v ns) :
    Calls Try.prog 21 #[.agg #[v], .int .i64 i] w (PathE ns i w) := by
  by_cases h : 0 ≤ i ∧ i < ns.length
  · obtain ⟨k, rfl⟩ : ∃ k : Nat, i = k := ⟨i.toNat, by omega⟩
    exact path_in ns hok hlen k (by omega) v w hN
  · exact path_out v ns i w hN h

theorem path_ints {ns : List NdD} (hok : TrOK ns) (hlen : ns.length ≤ 100000) {i : Int} {w : World} {B : Nat} {v : Value} (h : OwnK .i64 3 w B v (pathN ns i)) : IntsV w v (pathN ns i) :=
  ⟨h.ints (by have := pathN_len ns i; unfold maxLen; omega), fun x hx => by have := pathN_rng hok i x hx; omega⟩

/-- The numbers below k with this property, in order. -/
def selK (p : Nat → Bool) : Nat → List Int
  | 0 => []
  | k + 1 => if p k then selK p k ++ [(k : Int)] else selK p k

theorem selK_yes {p : Nat → Bool} {k : Nat} (h : p k = true) : selK p (k + 1) = selK p k ++ [(k : Int)] := by show (if p k = true then selK p k ++ [(k : Int)] else selK p k) = _; rw [if_pos h]

theorem selK_no {p : Nat → Bool} {k : Nat} (h : p k = false) : selK p (k + 1) = selK p k := by show (if p k = true then selK p k ++ [(k : Int)] else selK p k) = _; rw [if_neg (by rw [h]; simp)]

theorem selK_len (p : Nat → Bool) : ∀ k, (selK p k).length ≤ k
  | 0 => by simp [selK]
  | k + 1 => by
    have := selK_len p k
    cases h : p k
    · rw [selK_no h]; omega
    · rw [selK_yes h]; simp; omega

theorem selK_mem {p : Nat → Bool} {x : Int} : ∀ {k : Nat}, x ∈ selK p k ↔ ∃ j : Nat, j < k ∧ x = j ∧ p j = true
  | 0 => by simp [selK]
  | k + 1 => by
    cases h : p k
    · rw [selK_no h, selK_mem]
      constructor
      · rintro ⟨j, h1, h2, h3⟩; exact ⟨j, by omega, h2, h3⟩
      · rintro ⟨j, h1, h2, h3⟩
        by_cases e : j = k
        · subst e; rw [h] at h3; cases h3
        · exact ⟨j, by omega, h2, h3⟩
    · rw [selK_yes h, List.mem_append, selK_mem, List.mem_singleton]
      constructor
      · rintro (⟨j, h1, h2, h3⟩ | h4)
        · exact ⟨j, by omega, h2, h3⟩
        · exact ⟨k, by omega, h4, h⟩
      · rintro ⟨j, h1, h2, h3⟩
        by_cases e : j = k
        · subst e; exact .inr h2
        · exact .inl ⟨j, by omega, h2, h3⟩

theorem selK_rng (p : Nat → Bool) (k : Nat) : ∀ x ∈ selK p k, 0 ≤ x ∧ x < k := fun x hx => by
  obtain ⟨j, h1, rfl, _⟩ := selK_mem.1 hx; omega

/-- A loop that lists what has the property. -/
def SelI (w : World) (T : Array Value) (p : Nat → Bool) (m : Nat) (v i : Value) (wr : World) : Prop :=
  ∃ k : Nat, k ≤ m ∧ i = .int .i64 k ∧ OwnK .i64 3 wr (w.heap.size + 1) v (selK p k) ∧ PaS w T wr

theorem OwnK.off1 {w wr : World} {v : Value} {xs : List Int} (h : OwnK .i64 3 wr (w.heap.size + 1) v xs) : ∀ j, v.ownBlock = some j → w.heap.size < j := fun j hj => by have := (h.lt j hj).1; omega

/-- What such a function promises. -/
def SelE (l : List Int) (w : World) (e : Ending) (w' : World) : Prop := ∃ v', e = .returned v' ∧ OwnK .i64 3 w' w.heap.size v' l ∧ Below w.heap.size w w'

def descN (ns : List NdD) (i : Int) : List Int := selK (fun k => decide (i ∈ pathN ns (k : Int))) ns.length
end

/-! TrH -/
section
set_option linter.unusedVariables false
set_option linter.unusedSimpArgs false
open Go.RowKit

set_option maxRecDepth 100000

def upI (ns : List NdD) (k : Nat) : Int := ((ns[k]?).map NdD.up).getD 0

theorem upI_at {ns : List NdD} {k : Nat} (h : k < ns.length) : upI ns k = ns[k].up := by simp [upI, List.getElem?_eq_getElem h]

def childN (ns : List NdD) (i : Int) : List Int := if 0 ≤ i ∧ i < ns.length then selK (fun k => decide (upI ns k = i)) ns.length else []

set_option maxHeartbeats 8000000 in
theorem child_out (ns : List NdD) (i : Int) (v : Value) (w : World) (hN : NodesV w v ns) (hi : ¬ (0 ≤ i ∧ i < ns.length)) :
    Calls Try.prog 19 #[.agg #[v], .int .i64 i] w (SelE (childN ns i) w) := by
  obtain ⟨a, cap, rfl, hmx⟩ := hN.shape
  unfold maxLen at hmx
  have HIS := Lib.hid (fun u (hu : Below w.heap.size w u) => isn_any _ ns i u (hN.call hu))
  have HD : Hid (decide (0 ≤ i ∧ i < (ns.length : Int)) = false) := decide_eq_false hi
  have HRES : Hid (childN ns i = []) := by show childN ns i = []; unfold childN; rw [if_neg hi]
  have hi1 : (Try.prog.info? 24).map (·.size) = some 1 := by kernel_rfl
  obtain ⟨m, hm⟩ : ∃ m, ns.length = m := ⟨_, rfl⟩
  rw [hm] at hmx HIS HD ⊢
  have S0 := Lib.hid (pas_new w #[.slice a m cap] 24)
  clear hN hi hm
  go_enter Try.func19, Try.ntmps19
  go_wp2_with fail
  go_loopw [5, 6] (fun v i wr => v = .slice none 0 0 ∧ i = .int .i64 0 ∧ PaS w #[.slice a m cap] wr) (fun _ i _ => 1 - (intOf i).toNat)
  case atStart => exact ⟨rfl, rfl, S0.out⟩
  case round =>
    obtain ⟨rfl, rfl, hs⟩ := hrel
    have S1 := Lib.hid hs
    have HC0 := Lib.hid (hs.t.cell 0)
    clear hs
    by_cases h0 : 0 < m
    · have h0' : (0 : Int) < m := by omega
      go_wp2_with (first
        | ((with_reducible refine at_load (.tmp 8) ?_); refine wpList_load_1 22 (.tmp 8) rfl w.heap.size 0 (.slice a m cap) HC0.out rfl _ Try.underlying22 rfl rfl ?_)
        | ((with_reducible refine at_load (.tmp 2) ?_); refine wpList_load_g 24 (.tmp 2) rfl w.heap.size rfl #[.slice a m cap] _ S1.out.t Try.underlying24 rfl hi1 rfl ?_)
        | (go_at_call 34; refine (HIS.out _ S1.out.b).mono ?_; rintro e w2 ⟨rfl, hb2⟩; rw [HD.out]; have S2 := Lib.hid (S1.out.call hb2); clear hb2))
      go_ret
      exact ⟨_, rfl, by rw [HRES.out]; exact OwnK.nil _ _ _ _, S2.out.b⟩
    · have h0' : ¬ (0 : Int) < m := by omega
      go_wp2_with (first
        | ((with_reducible refine at_load (.tmp 8) ?_); refine wpList_load_1 22 (.tmp 8) rfl w.heap.size 0 (.slice a m cap) HC0.out rfl _ Try.underlying22 rfl rfl ?_))
      go_ret
      exact ⟨_, rfl, by rw [HRES.out]; exact OwnK.nil _ _ _ _, S1.out.b⟩

set_option maxHeartbeats 8000000 in
theorem child_in (ns : List NdD) (i : Int) (v : Value) (w : World) (hN : NodesV w v ns) (hi : 0 ≤ i ∧ i < ns.length) (hlen : ns.length ≤ 100000) :
    Calls Try.prog 19 #[.agg #[v], .int .i64 i] w (SelE (childN ns i) w) := by
  obtain ⟨a, cap, rfl, hmx⟩ := hN.shape
  unfold maxLen at hmx
  have HIS := Lib.hid (fun u (hu : Below w.heap.size w u) => isn_any _ ns i u (hN.call hu))
  have HD : Hid (decide (0 ≤ i ∧ i < (ns.length : Int)) = true) := decide_eq_true hi
  have HII := Lib.hid info_int
  have HN := Lib.hid hN
  have hi1 : (Try.prog.info? 24).map (·.size) = some 1 := by kernel_rfl
  unfold childN
  rw [if_pos hi]
  obtain ⟨p, hp⟩ : ∃ p : Nat → Bool, (fun (k : Nat) => decide (upI ns k = i)) = p := ⟨_, rfl⟩
  have HPP : Hid (∀ k : Nat, decide (upI ns k = i) = p k) := fun k => by rw [← hp]
  rw [hp]
  obtain ⟨m, hm⟩ : ∃ m, Hid (ns.length = m) := ⟨_, Lib.hid rfl⟩
  rw [hm.out] at hmx HIS HD hlen HN ⊢
  have S0 := Lib.hid (pas_new w #[.slice a m cap] 24)
  clear hN hi hp
  go_enter Try.func19, Try.ntmps19
  go_wp2_with fail
  go_loopw [5, 6] (fun v i wr => SelI w #[.slice a m cap] p m v i wr) (fun _ i _ => m - (intOf i).toNat)
  case atStart => exact ⟨0, Nat.zero_le _, rfl, OwnK.nil _ _ _ _, S0.out⟩
  case round =>
    obtain ⟨k, hk, rfl, hown, hs⟩ := hrel
    have HOW := Lib.hid hown
    have S1 := Lib.hid hs
    have HXL := Lib.hid (selK_len p k)
    have HC0 := Lib.hid (hs.t.cell 0)
    clear hown hs
    by_cases hlt : k < m
    case neg =>
      obtain rfl : k = m := by omega
      go_wp2_with (first
        | ((with_reducible refine at_load (.tmp 8) ?_); refine wpList_load_1 22 (.tmp 8) rfl w.heap.size 0 (.slice a k cap) HC0.out rfl _ Try.underlying22 rfl rfl ?_))
      go_ret
      exact ⟨_, rfl, HOW.out.lower (by omega), S1.out.b⟩
    have hlt' : (k : Int) < m := by omega
    have hkn : k < ns.length := by rw [hm.out]; exact hlt
    obtain ⟨b, off, rfl, hlm, hbb, hna, _⟩ := HN.out.elem hkn
    have HUP := Lib.hid hna.up
    have hpk := HPP.out k
    rw [upI_at hkn] at hpk
    obtain ⟨u, hu⟩ : ∃ u, ns[k].up = u := ⟨_, rfl⟩
    rw [hu] at HUP hpk
    clear hlm hna hu
    cases hpk2 : p k
    case false =>
      have HNX := Lib.hid (selK_no hpk2)
      rw [hpk2] at hpk
      have hbe : (u == i) = false := by simpa using hpk
      clear hpk hpk2
      go_wp2_with (first
        | ((with_reducible refine at_load (.tmp 8) ?_); refine wpList_load_1 22 (.tmp 8) rfl w.heap.size 0 (.slice (some ⟨b, off, none⟩) m cap) HC0.out rfl _ Try.underlying22 rfl rfl ?_)
        | ((with_reducible refine at_load (.tmp 2) ?_); refine wpList_load_g 24 (.tmp 2) rfl w.heap.size rfl #[.slice (some ⟨b, off, none⟩) m cap] _ S1.out.t Try.underlying24 rfl hi1 rfl ?_)
        | (go_at_call 34; refine (HIS.out _ S1.out.b).mono ?_; rintro e w2 ⟨rfl, hb2⟩; rw [HD.out]; have S2 := Lib.hid (S1.out.call hb2); have HO2 := Lib.hid (HOW.out.call hb2); have HU2 := Lib.hid ((S2.out.b.cell (p := ⟨b, off + k * 240 + 238, none⟩) hbb).trans HUP.out); clear hb2)
        | ((with_reducible refine at_load (.tmp 19) ?_); refine wpList_load_1 22 (.tmp 19) rfl w.heap.size 0 (.slice (some ⟨b, off, none⟩) m cap) (S2.out.t.cell 0) rfl _ Try.underlying22 rfl rfl ?_)
        | ((with_reducible refine at_load (.tmp 23) ?_); refine wpList_load_1 3 (.tmp 23) rfl b (off + k * 240 + 238) (.int .i64 u) HU2.out rfl _ Try.underlying3 rfl rfl ?_))
      go_roundw
      case rel => exact ⟨k + 1, by omega, by go_num, by rw [HNX.out]; exact HO2.out, S2.out⟩
      case measure => simp [intOf]; omega
    case true =>
      have HNX := Lib.hid (selK_yes hpk2)
      rw [hpk2] at hpk
      have hbe : (u == i) = true := by simpa using hpk
      clear hpk hpk2
      go_wp2_with (first
        | ((with_reducible refine at_load (.tmp 8) ?_); refine wpList_load_1 22 (.tmp 8) rfl w.heap.size 0 (.slice (some ⟨b, off, none⟩) m cap) HC0.out rfl _ Try.underlying22 rfl rfl ?_)
        | ((with_reducible refine at_load (.tmp 2) ?_); refine wpList_load_g 24 (.tmp 2) rfl w.heap.size rfl #[.slice (some ⟨b, off, none⟩) m cap] _ S1.out.t Try.underlying24 rfl hi1 rfl ?_)
        | (go_at_call 34; refine (HIS.out _ S1.out.b).mono ?_; rintro e w2 ⟨rfl, hb2⟩; rw [HD.out]; have S2 := Lib.hid (S1.out.call hb2); have HO2 := Lib.hid (HOW.out.call hb2); have HU2 := Lib.hid ((S2.out.b.cell (p := ⟨b, off + k * 240 + 238, none⟩) hbb).trans HUP.out); clear hb2)
        | ((with_reducible refine at_load (.tmp 19) ?_); refine wpList_load_1 22 (.tmp 19) rfl w.heap.size 0 (.slice (some ⟨b, off, none⟩) m cap) (S2.out.t.cell 0) rfl _ Try.underlying22 rfl rfl ?_)
        | ((with_reducible refine at_load (.tmp 23) ?_); refine wpList_load_1 3 (.tmp 23) rfl b (off + k * 240 + 238) (.int .i64 u) HU2.out rfl _ Try.underlying3 rfl rfl ?_)
        | ((with_reducible refine at_app (.tmp 27) (.tmp 29) ?_); refine wpList_app1 HII.out (by omega) Try.underlying29 (.tmp 27) (.tmp 29) rfl rfl (w.heap.size + 1) _ _ rfl (HO2.out.grown (World.grownBy_alloc _ (.cells #[.int .i64 (k : Int)] 3) none) (fun n _ => by simp)) w2.heap.size 1 (k : Int) rfl ((Blk.new rfl).cell 0) (by have := HXL.out; omega) (by have := S2.out.t.lt; simp; omega) ?_; intro v3 w3 h3 g3 o3; rw [← HNX.out] at h3; have HO3 := Lib.hid h3; have S3 := Lib.hid ((S2.out.call ((Below.refl w2.heap.size w2).alloc (Nat.le_refl _) (.cells #[.int .i64 (k : Int)] 3))).grown g3 HO2.out.off1); clear h3 g3 o3))
      go_roundw
      case rel => exact ⟨k + 1, by omega, by go_num, HO3.out, S3.out⟩
      case measure => simp [intOf]; omega

theorem child_any (ns : List NdD) (i : Int) (v : Value) (w : World) (hN : NodesV w v ns) (hlen : ns.length ≤ 100000) :
    Calls Try.prog 19 #[.agg #[v], .int .i64 i] w (SelE (childN ns i) w) := by
  by_cases h : 0 ≤ i ∧ i < ns.length
  · exact child_in ns i v w hN h hlen
  · exact child_out ns i v w hN h

theorem childN_len (ns : List NdD) (i : Int) : (childN ns i).length ≤ ns.length := by
  unfold childN
  split
  · exact selK_len _ _
  · simp

def leafN (ns : List NdD) : List Int := selK (fun k => decide ((childN ns (k : Int)).length = 0)) ns.length

set_option maxHeartbeats 8000000 in
theorem leaves_any (ns : List NdD) (v : Value) (w : World) (hN : NodesV w v ns) (hlen : ns.length ≤ 100000) :
    Calls Try.prog 25 #[.agg #[v]] w (SelE (leafN ns) w) := by
  obtain ⟨a, cap, rfl, hmx⟩ := hN.shape
  unfold maxLen at hmx
  have HCH := Lib.hid (fun (k : Int) u (hu : Below w.heap.size w u) => child_any ns k _ u (hN.call hu) hlen)
  have HCL := Lib.hid (fun (k : Int) => childN_len ns k)
  have HII := Lib.hid info_int
  have hi1 : (Try.prog.info? 24).map (·.size) = some 1 := by kernel_rfl
  unfold leafN
  obtain ⟨p, hp⟩ : ∃ p : Nat → Bool, (fun (k : Nat) => decide ((childN ns (k : Int)).length = 0)) = p := ⟨_, rfl⟩
  have HPP : Hid (∀ k : Nat, decide ((childN ns (k : Int)).length = 0) = p k) := fun k => by rw [← hp]
  rw [hp]
  obtain ⟨m, hm⟩ : ∃ m, ns.length = m := ⟨_, rfl⟩
  rw [hm] at hmx HCH HCL hlen ⊢
  have S0 := Lib.hid (pas_new w #[.slice a m cap] 24)
  clear hN hp hm
  go_enter Try.func25, Try.ntmps25
  go_wp2_with fail
  go_loopw [3, 4] (fun v i wr => SelI w #[.slice a m cap] p m v i wr) (fun _ i _ => m - (intOf i).toNat)
  case atStart => exact ⟨0, Nat.zero_le _, rfl, OwnK.nil _ _ _ _, S0.out⟩
  case round =>
    obtain ⟨k, hk, rfl, hown, hs⟩ := hrel
    have HOW := Lib.hid hown
    have S1 := Lib.hid hs
    have HXL := Lib.hid (selK_len p k)
    have HC0 := Lib.hid (hs.t.cell 0)
    clear hown hs
    by_cases hlt : k < m
    case neg =>
      obtain rfl : k = m := by omega
      go_wp2_with (first
        | ((with_reducible refine at_load (.tmp 6) ?_); refine wpList_load_1 22 (.tmp 6) rfl w.heap.size 0 (.slice a k cap) HC0.out rfl _ Try.underlying22 rfl rfl ?_))
      go_ret
      exact ⟨_, rfl, HOW.out.lower (by omega), S1.out.b⟩
    have hlt' : (k : Int) < m := by omega
    have hpk := HPP.out k
    have HCK := Lib.hid (HCH.out (k : Int) wr S1.out.b)
    have hcl := HCL.out (k : Int)
    obtain ⟨C, hC⟩ : ∃ C, childN ns (k : Int) = C := ⟨_, rfl⟩
    rw [hC] at hpk HCK hcl
    clear hC
    cases hpk2 : p k
    case false =>
      have HNX := Lib.hid (selK_no hpk2)
      rw [hpk2] at hpk
      have HCN := Lib.hid (of_decide_eq_false hpk)
      clear hpk hpk2
      go_wp2_with (first
        | ((with_reducible refine at_load (.tmp 6) ?_); refine wpList_load_1 22 (.tmp 6) rfl w.heap.size 0 (.slice a m cap) HC0.out rfl _ Try.underlying22 rfl rfl ?_)
        | ((with_reducible refine at_load (.tmp 1) ?_); refine wpList_load_g 24 (.tmp 1) rfl w.heap.size rfl #[.slice a m cap] _ S1.out.t Try.underlying24 rfl hi1 rfl ?_)
        | (go_at_call 19; refine HCK.out.mono ?_; rintro e w2 ⟨v2, rfl, ho2, hb2⟩; obtain ⟨a2, c2, rfl, _⟩ := ho2.cap; have hz2 : ((C.length : Int) == 0) = false := (by have := HCN.out; exact beq_false_of_ne (by omega)); have S2 := Lib.hid (S1.out.call hb2); have HO2 := Lib.hid (HOW.out.call hb2); clear hb2 ho2))
      go_roundw
      case rel => exact ⟨k + 1, by omega, by go_num, by rw [HNX.out]; exact HO2.out, S2.out⟩
      case measure => simp [intOf]; omega
    case true =>
      have HNX := Lib.hid (selK_yes hpk2)
      rw [hpk2] at hpk
      have HCN := Lib.hid (of_decide_eq_true hpk)
      clear hpk hpk2
      go_wp2_with (first
        | ((with_reducible refine at_load (.tmp 6) ?_); refine wpList_load_1 22 (.tmp 6) rfl w.heap.size 0 (.slice a m cap) HC0.out rfl _ Try.underlying22 rfl rfl ?_)
        | ((with_reducible refine at_load (.tmp 1) ?_); refine wpList_load_g 24 (.tmp 1) rfl w.heap.size rfl #[.slice a m cap] _ S1.out.t Try.underlying24 rfl hi1 rfl ?_)
        | (go_at_call 19; refine HCK.out.mono ?_; rintro e w2 ⟨v2, rfl, ho2, hb2⟩; obtain ⟨a2, c2, rfl, _⟩ := ho2.cap; rw [HCN.out]; have S2 := Lib.hid (S1.out.call hb2); have HO2 := Lib.hid (HOW.out.call hb2); clear hb2 ho2)
        | ((with_reducible refine at_app (.tmp 17) (.tmp 19) ?_); refine wpList_app1 HII.out (by omega) Try.underlying29 (.tmp 17) (.tmp 19) rfl rfl (w.heap.size + 1) _ _ rfl (HO2.out.grown (World.grownBy_alloc _ (.cells #[.int .i64 (k : Int)] 3) none) (fun n _ => by simp)) w2.heap.size 1 (k : Int) rfl ((Blk.new rfl).cell 0) (by have := HXL.out; omega) (by have := S2.out.t.lt; simp; omega) ?_; intro v3 w3 h3 g3 o3; rw [← HNX.out] at h3; have HO3 := Lib.hid h3; have S3 := Lib.hid ((S2.out.call ((Below.refl w2.heap.size w2).alloc (Nat.le_refl _) (.cells #[.int .i64 (k : Int)] 3))).grown g3 HO2.out.off1); clear h3 g3 o3))
      go_roundw
      case rel => exact ⟨k + 1, by omega, by go_num, HO3.out, S3.out⟩
      case measure => simp [intOf]; omega
end

/-! TrJ -/
section
set_option linter.unusedVariables false
set_option linter.unusedSimpArgs false
open Go.RowKit

set_option maxRecDepth 100000

theorem size_node (w : World) : (sizeOf 44).run Try.prog w = .ok 240 w := Try.sizeOf44 w

theorem NodesV.take {w : World} {a : Option Addr} {m cap : Nat} {ns : List NdD} (h : NodesV w (.slice a m cap) ns) {k : Nat} (hk : k ≤ m) (c : Nat) : NodesV w (.slice a k c) (ns.take k) := by
  obtain ⟨a', cap', e, hl, hr⟩ := h
  cases e
  have hlen : (ns.take k).length = k := by rw [List.length_take]; omega
  refine ⟨a, c, by rw [hlen], by rw [hlen]; omega, ?_⟩
  rcases hr with h0 | ⟨b, off, rfl, hlt, Xs, h1, h2⟩
  · exact .inl (by rw [hlen]; omega)
  · have hs : rowsL Xs = rowsL (Xs.take k) ++ rowsL (Xs.drop k) := by rw [← rowsL_app, List.take_append_drop]
    rw [hs] at h1
    refine .inr ⟨b, off, rfl, hlt, Xs.take k, fun j u hj => h1 j u (by rw [List.getElem?_append_left (List.getElem?_eq_some_iff.1 hj).1]; exact hj), ?_, fun p hp => ?_⟩
    · rw [List.length_take, List.length_take, h2.1]
    · have hl2 := h2.1
      have e : Xs.zip ns = (Xs.take k).zip (ns.take k) ++ (Xs.drop k).zip (ns.drop k) := by
        rw [← List.zip_append (by simp [hl2]), List.take_append_drop, List.take_append_drop]
      exact h2.2 p (by rw [e]; exact List.mem_append_left _ hp)

/-- The error of a tree, from node k on. -/
def badForm (d : NdD) (k : Nat) : Prop := ¬ (0 ≤ d.st ∧ d.st ≤ 2) ∨ (k = 0 ∧ d.up ≠ -1) ∨ (0 < k ∧ (d.up < 0 ∨ (k : Int) ≤ d.up))
instance (d : NdD) (k : Nat) : Decidable (badForm d k) := by unfold badForm; infer_instance

def rootAt (ns : List NdD) (i : Int) : List Int := ((ns[i.toNat]?).map (fun d => d.b.root)).getD []

def nodeE (ns : List NdD) (d : NdD) (k : Nat) : Int :=
  if badForm d k then 2 else if 0 ≤ findN (ns.take k) d.b.root then 9 else if 0 < k ∧ d.b.parent ≠ rootAt ns d.up then 10 else if 0 < k ∧ d.b.slot ≤ slotAt ns d.up then 14 else 0

def vtGo (ns : List NdD) : Nat → Nat → Int
  | 0, _ => 0
  | f + 1, k => match ns[k]? with
    | none => 0
    | some d => if nodeE ns d k = 0 then vtGo ns f (k + 1) else nodeE ns d k

def vtE (ns : List NdD) : Int := if ns.length = 0 ∨ 4096 < ns.length then 11 else vtGo ns ns.length 0

theorem vtGo_step {ns : List NdD} {k : Nat} (hk : k < ns.length) : vtGo ns (ns.length - k) k = if nodeE ns ns[k] k = 0 then vtGo ns (ns.length - (k + 1)) (k + 1) else nodeE ns ns[k] k := by
  rw [show ns.length - k = (ns.length - (k + 1)) + 1 by omega]
  show (match ns[k]? with | none => 0 | some d => if nodeE ns d k = 0 then vtGo ns (ns.length - (k + 1)) (k + 1) else nodeE ns d k) = _
  rw [List.getElem?_eq_getElem hk]

/-- The tree's variable and the node's. -/
structure VaS (w : World) (TA L : Array Value) (b : Nat) (u : World) : Prop where
  t : Blk u w.heap.size TA
  n : Blk u b L
  b : Below w.heap.size w u

theorem VaS.call {w u u' : World} {TA L : Array Value} {b : Nat} (h : VaS w TA L b u) (hb : Below u.heap.size u u') : VaS w TA L b u' := ⟨h.t.call hb, h.n.call hb, h.b.trans (hb.mono h.b.size)⟩

def VaI (w : World) (TA : Array Value) (ns : List NdD) (q : Int) (i : Value) (wr : World) : Prop :=
  ∃ k : Nat, k ≤ ns.length ∧ i = .int .i64 k ∧ vtGo ns (ns.length - k) k = q ∧ Blk wr w.heap.size TA ∧ Below w.heap.size w wr

set_option maxHeartbeats 16000000 in
theorem vtree_any (v : Value) (ns : List NdD) (w : World) (hN : NodesV w v ns) (hcap : CapOK v) :
    Calls Try.prog 11 #[.agg #[v]] w fun e w' => e = .returned (.int .i64 (vtE ns)) ∧ Below w.heap.size w w' := by
  obtain ⟨a, cap, rfl, hmx⟩ := hN.shape
  unfold maxLen at hmx
  have hcm := hcap _ _ _ rfl
  have HN := Lib.hid hN
  have hi1 : (Try.prog.info? 24).map (·.size) = some 1 := by kernel_rfl
  obtain ⟨ZN, hZN⟩ : ∃ Z, flatP (zeBkP ++ [[.int .i64 0], [.int .i64 0]]) = Z := ⟨_, rfl⟩
  have hszN : ZN.size = 240 := by rw [← hZN]; rfl
  obtain ⟨hz240, hst240⟩ := zero_array (P := Try.prog) (t := 44) (n := 240) ZN (by rw [← hZN]; kernel_rfl) hszN (by rw [← hZN]; kernel_rfl)
  obtain ⟨q, hq⟩ : ∃ q, vtE ns = q := ⟨_, rfl⟩
  rw [hq]
  unfold vtE at hq
  obtain ⟨m, hm⟩ : ∃ m, Hid (ns.length = m) := ⟨_, Lib.hid rfl⟩
  rw [hm.out] at hmx hcm HN hq ⊢
  have HBA := Lib.hid ((Below.refl w.heap.size w).alloc (Nat.le_refl _) (.cells #[.slice a m cap] 24))
  have HT0 : Hid (Blk (w.alloc (.cells #[.slice a m cap] 24)) w.heap.size #[.slice a m cap]) := Blk.new rfl
  clear hN hcap hst240 hZN
  by_cases h0 : m = 0
  · subst h0
    rw [if_pos (.inl rfl)] at hq
    have HQ := Lib.hid hq
    clear hq
    go_enter Try.func11, Try.ntmps11
    go_wp2_with (first
      | ((with_reducible refine at_load (.tmp 5) ?_); refine wpList_load_1 22 (.tmp 5) rfl w.heap.size 0 (.slice a 0 cap) (HT0.out.cell 0) rfl _ Try.underlying22 rfl rfl ?_))
    go_ret
    exact ⟨by rw [← HQ.out]; rfl, HBA.out⟩
  have hz : ((m : Int) == 0) = false := by simp; omega
  by_cases hbig : 4096 < m
  · rw [if_pos (.inr hbig)] at hq
    have HQ := Lib.hid hq
    have hbig' : (4096 : Int) < m := by omega
    clear hq
    go_enter Try.func11, Try.ntmps11
    go_wp2_with (first
      | ((with_reducible refine at_load (.tmp 5) ?_); refine wpList_load_1 22 (.tmp 5) rfl w.heap.size 0 (.slice a m cap) (HT0.out.cell 0) rfl _ Try.underlying22 rfl rfl ?_)
      | ((with_reducible refine at_load (.tmp 10) ?_); refine wpList_load_1 22 (.tmp 10) rfl w.heap.size 0 (.slice a m cap) (HT0.out.cell 0) rfl _ Try.underlying22 rfl rfl ?_))
    go_ret
    exact ⟨by rw [← HQ.out]; rfl, HBA.out⟩
  rw [if_neg (by omega)] at hq
  have HQ0 := Lib.hid hq
  have hbig' : ((4096 : Int) < m) = False := eq_false (by omega)
  clear hq h0
  go_enter Try.func11, Try.ntmps11
  go_wp2_with (first
    | ((with_reducible refine at_load (.tmp 5) ?_); refine wpList_load_1 22 (.tmp 5) rfl w.heap.size 0 (.slice a m cap) (HT0.out.cell 0) rfl _ Try.underlying22 rfl rfl ?_)
    | ((with_reducible refine at_load (.tmp 10) ?_); refine wpList_load_1 22 (.tmp 10) rfl w.heap.size 0 (.slice a m cap) (HT0.out.cell 0) rfl _ Try.underlying22 rfl rfl ?_))
  go_loopw [3] (fun i wr => VaI w #[.slice a m cap] ns q i wr) (fun i _ => m - (intOf i).toNat)
  case atStart => exact ⟨0, Nat.zero_le _, rfl, by rw [hm.out]; exact HQ0.out, HT0.out, HBA.out⟩
  case round =>
    obtain ⟨k, hk, rfl, hgo, ht, hbl⟩ := hrel
    have HGO := Lib.hid hgo
    have HT1 := Lib.hid ht
    have HBL := Lib.hid hbl
    have hltP := ht.lt
    rw [hm.out] at hk
    clear hgo ht hbl
    by_cases hlt : k < m
    case neg =>
      obtain rfl : k = m := by omega
      have HQV : Hid (q = 0) := by show q = 0; rw [← HGO.out, hm.out, Nat.sub_self]; rfl
      go_wp2_with (first
        | ((with_reducible refine at_load (.tmp 16) ?_); refine wpList_load_1 22 (.tmp 16) rfl w.heap.size 0 (.slice a k cap) (HT1.out.cell 0) rfl _ Try.underlying22 rfl rfl ?_))
      go_ret
      exact ⟨by rw [HQV.out]; rfl, HBL.out⟩
    have hlt' : (k : Int) < m := by omega
    have hkn : k < ns.length := by rw [hm.out]; exact hlt
    have hstep := vtGo_step hkn
    have HND := Lib.hid (HN.out.elem hkn)
    obtain ⟨rb, ro, rfl, hlm, hrb, hna, hdk⟩ := HND.out
    have HALL := Lib.hid hna.all
    obtain ⟨d, hd⟩ : ∃ d, ns[k] = d := ⟨_, rfl⟩
    rw [hd] at HALL hdk hstep
    have HDK := Lib.hid hdk
    have HNT : Hid (∀ u b, Blk u b d.cells.toArray → NdAt u b 0 d) := fun u b hu => nd_at hu.rng HDK.out
    obtain ⟨L, hL⟩ : ∃ L, d.cells = L := ⟨_, rfl⟩
    have hLl : L.length = 240 := by rw [← hL]; exact NdD.len hdk
    have HL1 : Hid (∀ v ∈ L, v.oneCell' = true) := by show ∀ v ∈ L, _; rw [← hL]; exact NdD.one _
    rw [hL] at HALL HNT
    have hiL : (Try.prog.info? 44).map (·.size) = some L.length := by rw [hLl]; kernel_rfl
    have HSTEP := Lib.hid hstep
    clear hlm hna hdk hd hL hstep
    go_upto_region 7 with (first
      | ((with_reducible refine at_load (.tmp 16) ?_); refine wpList_load_1 22 (.tmp 16) rfl w.heap.size 0 (.slice (some ⟨rb, ro, none⟩) m cap) (HT1.out.cell 0) rfl _ Try.underlying22 rfl rfl ?_)
      | ((with_reducible refine at_load (.tmp 22) ?_); refine wpList_load_1 22 (.tmp 22) rfl w.heap.size 0 (.slice (some ⟨rb, ro, none⟩) m cap) (HT1.out.cell 0) rfl _ Try.underlying22 rfl rfl ?_)
      | ((with_reducible refine at_load (.tmp 25) ?_); refine wpList_load_rng 44 (.tmp 25) rfl rb (ro + k * 240) L (Below.rng HBL.out hrb HALL.out) rfl _ Try.underlying44 rfl hiL rfl ?_)
      | ((with_reducible refine at_store (.tmp 4) ?_); refine wpList_store_blk rfl 44 (.tmp 4) _ rfl wr.heap.size L.toArray rfl rfl ZN (Blk.new rfl) (by rw [hszN, List.size_toArray, hLl]) (by simpa using hiL) (fun v hv => HL1.out v (by simpa using hv)) ?_; intro w2 U2 B2; have hb2 := U2.below ((Below.refl wr.heap.size wr).alloc (Nat.le_refl _) (.cells ZN 44)) (Nat.le_refl _); have VS2 : Hid (VaS w #[.slice (some ⟨rb, ro, none⟩) m cap] L.toArray wr.heap.size w2) := (by exact ⟨HT1.out.call hb2, B2, HBL.out.trans (hb2.mono HBL.out.size)⟩); clear U2 B2 hb2))
    obtain ⟨st, hst⟩ : ∃ z, d.st = z := ⟨_, rfl⟩
    obtain ⟨up, hup⟩ : ∃ z, d.up = z := ⟨_, rfl⟩
    have HST := Lib.hid hst
    have HUP := Lib.hid hup
    have hp2 := HNT.out _ _ VS2.out.n
    have HCS := Lib.hid (show w2.cell? ⟨wr.heap.size, 239, none⟩ = some (.int .i64 st) by have := hp2.st; rw [Nat.zero_add, hst] at this; exact this)
    have HCU := Lib.hid (show w2.cell? ⟨wr.heap.size, 238, none⟩ = some (.int .i64 up) by have := hp2.up; rw [Nat.zero_add, hup] at this; exact this)
    have HSS := Lib.hid (fun u => status_any st u)
    have hlt2 := VS2.out.n.lt
    obtain ⟨B, hB⟩ : ∃ B, wr.heap.size = B := ⟨_, rfl⟩
    rw [hB] at VS2 HCS HCU hltP hlt2 ⊢
    clear hst hup hp2 hB
    simp only [Act.put]
    go_cut [54] from 15 to 96 (fun s54 wx => s54 = .bool (decide (badForm d k)) ∧ VaS w #[.slice (some ⟨rb, ro, none⟩) m cap] L.toArray B wx)
    case first =>
      by_cases hs : 0 ≤ st ∧ st ≤ 2
      case neg =>
        have HD : Hid (decide (0 ≤ st ∧ st ≤ 2) = false) := decide_eq_false hs
        have hx := hs
        have HBV : Hid (decide (badForm d k) = true) := decide_eq_true (by unfold badForm; rw [HST.out, HUP.out]; omega)
        clear hs hx
        go_wp2_with (first
          | ((with_reducible refine at_load (.tmp 27) ?_); refine wpList_load_1 3 (.tmp 27) rfl B 239 (.int .i64 st) HCS.out rfl _ Try.underlying3 rfl rfl ?_)
          | (go_at_call 29; refine (HSS.out _).mono ?_; rintro e w3 ⟨rfl, hb3⟩; rw [HD.out]; have VS3 := Lib.hid (VS2.out.call hb3); have HCU3 := Lib.hid ((hb3.cell (p := ⟨B, 238, none⟩) hlt2).trans HCU.out); clear hb3)
          | ((with_reducible refine at_load (.tmp 35) ?_); refine wpList_load_1 3 (.tmp 35) rfl B 238 (.int .i64 up) HCU3.out rfl _ Try.underlying3 rfl rfl ?_)
          | ((with_reducible refine at_load (.tmp 44) ?_); refine wpList_load_1 3 (.tmp 44) rfl B 238 (.int .i64 up) HCU3.out rfl _ Try.underlying3 rfl rfl ?_)
          | ((with_reducible refine at_load (.tmp 48) ?_); refine wpList_load_1 3 (.tmp 48) rfl B 238 (.int .i64 up) HCU3.out rfl _ Try.underlying3 rfl rfl ?_))
        go_meet
        case rel => exact ⟨by rw [HBV.out], VS3.out⟩
      have HD : Hid (decide (0 ≤ st ∧ st ≤ 2) = true) := decide_eq_true hs
      by_cases hk0 : k = 0
      · subst hk0
        by_cases hu : up = -1
        · subst hu
          have hub : ((-1 : Int) != -1) = false := by simp
          have HBV : Hid (decide (badForm d 0) = false) := decide_eq_false (by unfold badForm; rw [HST.out, HUP.out]; omega)
          skip
          go_wp2_with (first
            | ((with_reducible refine at_load (.tmp 27) ?_); refine wpList_load_1 3 (.tmp 27) rfl B 239 (.int .i64 st) HCS.out rfl _ Try.underlying3 rfl rfl ?_)
            | (go_at_call 29; refine (HSS.out _).mono ?_; rintro e w3 ⟨rfl, hb3⟩; rw [HD.out]; have VS3 := Lib.hid (VS2.out.call hb3); have HCU3 := Lib.hid ((hb3.cell (p := ⟨B, 238, none⟩) hlt2).trans HCU.out); clear hb3)
            | ((with_reducible refine at_load (.tmp 35) ?_); refine wpList_load_1 3 (.tmp 35) rfl B 238 (.int .i64 (-1)) HCU3.out rfl _ Try.underlying3 rfl rfl ?_)
            | ((with_reducible refine at_load (.tmp 44) ?_); refine wpList_load_1 3 (.tmp 44) rfl B 238 (.int .i64 (-1)) HCU3.out rfl _ Try.underlying3 rfl rfl ?_)
            | ((with_reducible refine at_load (.tmp 48) ?_); refine wpList_load_1 3 (.tmp 48) rfl B 238 (.int .i64 (-1)) HCU3.out rfl _ Try.underlying3 rfl rfl ?_))
          go_meet
          case rel => exact ⟨by rw [HBV.out], VS3.out⟩
        · have hub : (up != -1) = true := by simp [hu]
          have hx := hu
          have HBV : Hid (decide (badForm d 0) = true) := decide_eq_true (by unfold badForm; rw [HST.out, HUP.out]; omega)
          clear hx hu
          go_wp2_with (first
            | ((with_reducible refine at_load (.tmp 27) ?_); refine wpList_load_1 3 (.tmp 27) rfl B 239 (.int .i64 st) HCS.out rfl _ Try.underlying3 rfl rfl ?_)
            | (go_at_call 29; refine (HSS.out _).mono ?_; rintro e w3 ⟨rfl, hb3⟩; rw [HD.out]; have VS3 := Lib.hid (VS2.out.call hb3); have HCU3 := Lib.hid ((hb3.cell (p := ⟨B, 238, none⟩) hlt2).trans HCU.out); clear hb3)
            | ((with_reducible refine at_load (.tmp 35) ?_); refine wpList_load_1 3 (.tmp 35) rfl B 238 (.int .i64 up) HCU3.out rfl _ Try.underlying3 rfl rfl ?_)
            | ((with_reducible refine at_load (.tmp 44) ?_); refine wpList_load_1 3 (.tmp 44) rfl B 238 (.int .i64 up) HCU3.out rfl _ Try.underlying3 rfl rfl ?_)
            | ((with_reducible refine at_load (.tmp 48) ?_); refine wpList_load_1 3 (.tmp 48) rfl B 238 (.int .i64 up) HCU3.out rfl _ Try.underlying3 rfl rfl ?_))
          go_meet
          case rel => exact ⟨by rw [HBV.out], VS3.out⟩
      · have hkb : ((k : Int) == 0) = false := by simp; omega
        have hkp : (0 : Int) < (k : Int) := by omega
        by_cases hu : up < 0
        · have hx := hu
          have HBV : Hid (decide (badForm d k) = true) := decide_eq_true (by unfold badForm; rw [HST.out, HUP.out]; omega)
          clear hx hk0
          go_wp2_with (first
            | ((with_reducible refine at_load (.tmp 27) ?_); refine wpList_load_1 3 (.tmp 27) rfl B 239 (.int .i64 st) HCS.out rfl _ Try.underlying3 rfl rfl ?_)
            | (go_at_call 29; refine (HSS.out _).mono ?_; rintro e w3 ⟨rfl, hb3⟩; rw [HD.out]; have VS3 := Lib.hid (VS2.out.call hb3); have HCU3 := Lib.hid ((hb3.cell (p := ⟨B, 238, none⟩) hlt2).trans HCU.out); clear hb3)
            | ((with_reducible refine at_load (.tmp 35) ?_); refine wpList_load_1 3 (.tmp 35) rfl B 238 (.int .i64 up) HCU3.out rfl _ Try.underlying3 rfl rfl ?_)
            | ((with_reducible refine at_load (.tmp 44) ?_); refine wpList_load_1 3 (.tmp 44) rfl B 238 (.int .i64 up) HCU3.out rfl _ Try.underlying3 rfl rfl ?_)
            | ((with_reducible refine at_load (.tmp 48) ?_); refine wpList_load_1 3 (.tmp 48) rfl B 238 (.int .i64 up) HCU3.out rfl _ Try.underlying3 rfl rfl ?_))
          go_meet
          case rel => exact ⟨by rw [HBV.out], VS3.out⟩
        · have hub : (up < 0) = False := eq_false hu
          by_cases hu2 : (k : Int) ≤ up
          · have hx := hu2
            have HBV : Hid (decide (badForm d k) = true) := decide_eq_true (by unfold badForm; rw [HST.out, HUP.out]; omega)
            clear hx hk0
            go_wp2_with (first
              | ((with_reducible refine at_load (.tmp 27) ?_); refine wpList_load_1 3 (.tmp 27) rfl B 239 (.int .i64 st) HCS.out rfl _ Try.underlying3 rfl rfl ?_)
              | (go_at_call 29; refine (HSS.out _).mono ?_; rintro e w3 ⟨rfl, hb3⟩; rw [HD.out]; have VS3 := Lib.hid (VS2.out.call hb3); have HCU3 := Lib.hid ((hb3.cell (p := ⟨B, 238, none⟩) hlt2).trans HCU.out); clear hb3)
              | ((with_reducible refine at_load (.tmp 35) ?_); refine wpList_load_1 3 (.tmp 35) rfl B 238 (.int .i64 up) HCU3.out rfl _ Try.underlying3 rfl rfl ?_)
              | ((with_reducible refine at_load (.tmp 44) ?_); refine wpList_load_1 3 (.tmp 44) rfl B 238 (.int .i64 up) HCU3.out rfl _ Try.underlying3 rfl rfl ?_)
              | ((with_reducible refine at_load (.tmp 48) ?_); refine wpList_load_1 3 (.tmp 48) rfl B 238 (.int .i64 up) HCU3.out rfl _ Try.underlying3 rfl rfl ?_))
            go_meet
            case rel => exact ⟨by rw [HBV.out], VS3.out⟩
          · have hub2 : ((k : Int) ≤ up) = False := eq_false hu2
            have hx := hu2
            have HBV : Hid (decide (badForm d k) = false) := decide_eq_false (by unfold badForm; rw [HST.out, HUP.out]; omega)
            clear hx hu2 hu hk0
            go_wp2_with (first
              | ((with_reducible refine at_load (.tmp 27) ?_); refine wpList_load_1 3 (.tmp 27) rfl B 239 (.int .i64 st) HCS.out rfl _ Try.underlying3 rfl rfl ?_)
              | (go_at_call 29; refine (HSS.out _).mono ?_; rintro e w3 ⟨rfl, hb3⟩; rw [HD.out]; have VS3 := Lib.hid (VS2.out.call hb3); have HCU3 := Lib.hid ((hb3.cell (p := ⟨B, 238, none⟩) hlt2).trans HCU.out); clear hb3)
              | ((with_reducible refine at_load (.tmp 35) ?_); refine wpList_load_1 3 (.tmp 35) rfl B 238 (.int .i64 up) HCU3.out rfl _ Try.underlying3 rfl rfl ?_)
              | ((with_reducible refine at_load (.tmp 44) ?_); refine wpList_load_1 3 (.tmp 44) rfl B 238 (.int .i64 up) HCU3.out rfl _ Try.underlying3 rfl rfl ?_)
              | ((with_reducible refine at_load (.tmp 48) ?_); refine wpList_load_1 3 (.tmp 48) rfl B 238 (.int .i64 up) HCU3.out rfl _ Try.underlying3 rfl rfl ?_))
            go_meet
            case rel => exact ⟨by rw [HBV.out], VS3.out⟩
    case rest =>
      obtain ⟨rfl, hvs⟩ := hcut
      have VS3 := Lib.hid hvs
      clear hvs VS2 HCS HCU HSS hlt2
      by_cases hbf : badForm d k
      · have hbb : decide (badForm d k) = true := decide_eq_true hbf
        have HQV : Hid (q = 2) := by
          show q = 2
          have he : nodeE ns d k = 2 := by unfold nodeE; rw [if_pos hbf]
          rw [← HGO.out, HSTEP.out, he]; rfl
        rw [hbb]
        go_wp2_with fail
        go_ret
        exact ⟨by rw [HQV.out]; rfl, VS3.out.b⟩
      have hbb : decide (badForm d k) = false := decide_eq_false hbf
      have HBF := Lib.hid hbf
      rw [hbb]
      clear hbf hbb
      have hrok : IsBytes 32 d.b.root := HDK.out.1.2.2.2.1
      have hpok : IsBytes 32 d.b.parent := HDK.out.1.2.2.2.2.1
      have HFI := Lib.hid (fun u (hu : Below w.heap.size w u) => find_any (.slice (some ⟨rb, ro, none⟩) k cap) (ns.take k) d.b.root u ((HN.out.call hu).take (Nat.le_of_lt hlt) cap) hrok)
      have HSV := Lib.hid (fun u => runSlHi Try.underlying22 (by kernel_rfl) size_node (some ⟨rb, ro, none⟩) m cap k (by omega) u)
      obtain ⟨q9, hq9⟩ : ∃ z : Bool, decide (0 ≤ findN (ns.take k) d.b.root) = z := ⟨_, rfl⟩
      have HQ9 : Hid (q9 = true ↔ 0 ≤ findN (ns.take k) d.b.root) := by show _ ↔ _; rw [← hq9]; exact decide_eq_true_iff
      obtain ⟨fr, hfr⟩ : ∃ z, findN (ns.take k) d.b.root = z := ⟨_, rfl⟩
      rw [hfr] at HFI hq9
      have HFR := Lib.hid hfr
      obtain ⟨Rr, hRr⟩ : ∃ z, bytesL d.b.root = z := ⟨_, rfl⟩
      have HRR := Lib.hid hRr
      have hiRr : (Try.prog.info? 34).map (·.size) = some Rr.length := by rw [← hRr, bytesL_len hrok]; kernel_rfl
      rw [hRr] at HFI
      clear hfr hRr
      go_wp2_with fail
      refine wp_region_fam2 (by kernel_rfl) (by kernel_rfl) ?_
      intro T F hT hF hG
      have c0 : ∀ t, (F t).cell? ⟨w.heap.size, 0, none⟩ = some (.slice (some ⟨rb, ro, none⟩) m cap) := fun t => (VS3.out.call (hF t)).t.cell 0
      have CR := Lib.hid (show ∀ u, (∃ t, u = F t) → u.rangeAt B 67 Rr by rintro _ ⟨t, rfl⟩; have := (HNT.out _ _ (VS3.out.call (hF t)).n).bk.root; rw [HRR.out, Nat.zero_add] at this; exact this)
      have CF := Lib.hid (fun t => HFI.out (F t) (VS3.out.call (hF t)).b)
      repeat (first
        | ((with_reducible refine at_qload (.tmp 61) ?_); refine wpQuiet_load_midE 34 _ rfl B 67 (by simp [Act.eval]) Rr CR.out Try.underlying34 rfl hiRr (by kernel_rfl) ?_; simp only [Act.put, List.setIfInBounds_toArray, List.set_cons_succ, List.set_cons_zero])
        | ((with_reducible refine at_qslice (some 58) ?_); refine wpQuiet_slice 22 _ _ _ _ rfl (.slice (some ⟨rb, ro, none⟩) m cap) none (some (.int .i64 k)) none (by simp [Act.eval]) rfl (by simp [Act.eval]) rfl (.slice (some ⟨rb, ro, none⟩) k cap) HSV.out (by kernel_rfl) ?_; simp only [Act.put, List.setIfInBounds_toArray, List.set_cons_succ, List.set_cons_zero])
        | ((with_reducible refine at_qbuild (some 59) ?_); refine wpQuiet_build 24 _ rfl #[(0, .slice (some ⟨rb, ro, none⟩) k cap)] (by simp [Act.eval]) (.agg #[.slice (some ⟨rb, ro, none⟩) k cap]) (fun u => b_tree _ _ _ u) (by kernel_rfl) ?_; simp only [Act.put, List.setIfInBounds_toArray, List.set_cons_succ, List.set_cons_zero])
        | (go_big_quiet_step ((go_at_call 23; exact fam_call hF hG (Nat.le_refl _) (CF.out _)))))
      refine wpQuiet_nil ?_
      rintro _ ⟨t, rfl⟩
      have VS4 := Lib.hid (VS3.out.call (hF t))
      obtain ⟨w4, hw4⟩ : ∃ u, F t = u := ⟨_, rfl⟩
      rw [hw4] at VS4 ⊢
      clear c0 CR CF hG hw4 hF hT hq9 VS3
      clear t F T
      have HNB := Lib.hid (show ¬ badForm d k from HBF.out)
      cases q9
      case true =>
        have HQV : Hid (q = 9) := by
          show q = 9
          have he : nodeE ns d k = 9 := by unfold nodeE; rw [if_neg HNB.out, if_pos (HQ9.out.1 rfl)]
          rw [← HGO.out, HSTEP.out, he]; rfl
        go_wp2_with fail
        go_ret
        exact ⟨by rw [HQV.out]; rfl, VS4.out.b⟩
      have HN9 : Hid (¬ 0 ≤ findN (ns.take k) d.b.root) := fun h => by have := HQ9.out.2 h; cases this
      have HUPR : Hid (0 < k → 0 ≤ d.up ∧ d.up < k) := fun h => by
        have hb := HNB.out
        unfold badForm at hb
        omega
      have HU0 : Hid (k = 0 → d.up = -1) := fun h => by
        have hb := HNB.out
        unfold badForm at hb
        omega
      go_upto_region 11 with fail
      go_cut [80] from 15 to 96 (fun s80 wx => s80 = .bool (decide (0 < k ∧ d.b.parent ≠ rootAt ns d.up)) ∧ VaS w #[.slice (some ⟨rb, ro, none⟩) m cap] L.toArray B wx)
      case first =>
        by_cases hk0 : k = 0
        · subst hk0
          have HBV : Hid (decide (0 < 0 ∧ d.b.parent ≠ rootAt ns d.up) = false) := decide_eq_false (by omega)
          refine wp_region_fam2 (by kernel_rfl) (by kernel_rfl) ?_
          intro T F hT hF hG
          repeat (go_big_quiet_step (fail))
          refine wpQuiet_nil ?_
          rintro _ ⟨t, rfl⟩
          have VS5 := Lib.hid (VS4.out.call (hF t))
          go_wp2_with fail
          go_meet
          case rel => exact ⟨by rw [HBV.out], VS5.out⟩
        · have hkp : (0 : Int) < (k : Int) := by omega
          have hkp2 : 0 < k := by omega
          have hkd : decide ((0 : Int) < (k : Int)) = true := decide_eq_true hkp
          obtain ⟨hu1, hu2⟩ := HUPR.out (by omega)
          obtain ⟨u, hu⟩ : ∃ u : Nat, d.up = u := ⟨d.up.toNat, by omega⟩
          have hum : u < ns.length := by omega
          obtain ⟨rb2, ro2, he2, hlm2, hrb2, hna2, hdk2⟩ := HN.out.elem hum
          cases he2
          clear hlm2
          have hra : rootAt ns d.up = ns[u].b.root := by rw [hu]; simp [rootAt, List.getElem?_eq_getElem hum]
          obtain ⟨qp, hqp⟩ : ∃ z : Bool, decide (d.b.parent = ns[u].b.root) = z := ⟨_, rfl⟩
          have HEQ := fun z => eq_root hpok hdk2.1.2.2.2.1 z
          rw [hqp] at HEQ
          simp only [bytesL_V] at HEQ
          have HBV : Hid (decide (0 < k ∧ d.b.parent ≠ rootAt ns d.up) = !qp) := by
            show _ = _
            rw [hra, ← hqp]
            by_cases e : d.b.parent = ns[u].b.root
            · simp [e]
            · simp [e]; omega
          have hiP : (Try.prog.info? 34).map (·.size) = some (bytesL d.b.parent).length := by rw [bytesL_len hpok]; kernel_rfl
          have hiU : (Try.prog.info? 34).map (·.size) = some (bytesL ns[u].b.root).length := by rw [bytesL_len hdk2.1.2.2.2.1]; kernel_rfl
          have HRU := Lib.hid hna2.bk.root
          obtain ⟨Pp, hPp⟩ : ∃ z, bytesL d.b.parent = z := ⟨_, rfl⟩
          obtain ⟨Pu, hPu⟩ : ∃ z, bytesL ns[u].b.root = z := ⟨_, rfl⟩
          have HPP := Lib.hid hPp
          rw [hPp] at HEQ hiP
          rw [hPu] at HEQ hiU HRU
          have HUV := Lib.hid hu
          have hum' : (u : Int) < m := by rw [← hm.out]; omega
          clear hna2 hdk2 hra hqp hPp hPu hu hu1 hu2
          refine wp_region_fam2 (by kernel_rfl) (by kernel_rfl) ?_
          intro T F hT hF hG
          have c0 : ∀ t, (F t).cell? ⟨w.heap.size, 0, none⟩ = some (.slice (some ⟨rb, ro, none⟩) m cap) := fun t => (VS4.out.call (hF t)).t.cell 0
          have c1 : ∀ t, (F t).cell? ⟨B, 238, none⟩ = some (.int .i64 (u : Int)) := fun t => by have := (HNT.out _ _ (VS4.out.call (hF t)).n).up; rw [Nat.zero_add, HUV.out] at this; exact this
          have CP := Lib.hid (show ∀ z, (∃ t, z = F t) → z.rangeAt B 99 Pp by rintro _ ⟨t, rfl⟩; have := (HNT.out _ _ (VS4.out.call (hF t)).n).bk.parent; rw [HPP.out, Nat.zero_add] at this; exact this)
          have CU := Lib.hid (show ∀ z, (∃ t, z = F t) → z.rangeAt rb (ro + u * 240 + 67) Pu by rintro _ ⟨t, rfl⟩; exact Below.rng (VS4.out.call (hF t)).b hrb2 HRU.out)
          repeat (first
            | ((with_reducible refine at_qload (.tmp 69) ?_); refine wpQuiet_load_midE 34 _ rfl B 99 (by simp [Act.eval]) Pp CP.out Try.underlying34 rfl hiP (by kernel_rfl) ?_; simp only [Act.put, List.setIfInBounds_toArray, List.set_cons_succ, List.set_cons_zero])
            | ((with_reducible refine at_qload (.tmp 77) ?_); refine wpQuiet_load_midE 34 _ rfl rb (ro + u * 240 + 67) (by simp [Act.eval]) Pu CU.out Try.underlying34 rfl hiU (by kernel_rfl) ?_; simp only [Act.put, List.setIfInBounds_toArray, List.set_cons_succ, List.set_cons_zero])
            | (go_big_quiet_step (fail)))
          refine wpQuiet_nil ?_
          rintro _ ⟨t, rfl⟩
          have VS5 := Lib.hid (VS4.out.call (hF t))
          go_wp2_with fail
          go_meet
          case rel => exact ⟨by rw [HBV.out], VS5.out⟩
      case rest =>
        obtain ⟨rfl, hvs⟩ := hcut
        have VS5 := Lib.hid hvs
        clear hvs VS4
        obtain ⟨q10, hq10⟩ : ∃ z : Bool, decide (0 < k ∧ d.b.parent ≠ rootAt ns d.up) = z := ⟨_, rfl⟩
        have HQ10 : Hid (q10 = true ↔ (0 < k ∧ d.b.parent ≠ rootAt ns d.up)) := by show _ ↔ _; rw [← hq10]; exact decide_eq_true_iff
        rw [hq10]
        clear hq10
        cases q10
        case true =>
          have HQV : Hid (q = 10) := by
            show q = 10
            have he : nodeE ns d k = 10 := by unfold nodeE; rw [if_neg HNB.out, if_neg HN9.out, if_pos (HQ10.out.1 rfl)]
            rw [← HGO.out, HSTEP.out, he]; rfl
          go_wp2_with fail
          go_ret
          exact ⟨by rw [HQV.out]; rfl, VS5.out.b⟩
        have HN10 : Hid (¬ (0 < k ∧ d.b.parent ≠ rootAt ns d.up)) := fun h => by have := HQ10.out.2 h; cases this
        go_upto_region 13 with fail
        go_cut [96] from 15 to 96 (fun s96 wx => s96 = .bool (decide (0 < k ∧ d.b.slot ≤ slotAt ns d.up)) ∧ VaS w #[.slice (some ⟨rb, ro, none⟩) m cap] L.toArray B wx)
        case first =>
          by_cases hk0 : k = 0
          · subst hk0
            have HBV : Hid (decide (0 < 0 ∧ d.b.slot ≤ slotAt ns d.up) = false) := decide_eq_false (by omega)
            refine wp_region_fam2 (by kernel_rfl) (by kernel_rfl) ?_
            intro T F hT hF hG
            repeat (go_big_quiet_step (fail))
            refine wpQuiet_nil ?_
            rintro _ ⟨t, rfl⟩
            have VS6 := Lib.hid (VS5.out.call (hF t))
            go_wp2_with fail
            go_meet
            case rel => exact ⟨by rw [HBV.out], VS6.out⟩
          · have hkp : (0 : Int) < (k : Int) := by omega
            have hkp2 : 0 < k := by omega
            have hkd : decide ((0 : Int) < (k : Int)) = true := decide_eq_true hkp
            obtain ⟨hu1, hu2⟩ := HUPR.out (by omega)
            obtain ⟨u, hu⟩ : ∃ u : Nat, d.up = u := ⟨d.up.toNat, by omega⟩
            have hum : u < ns.length := by omega
            obtain ⟨rb2, ro2, he2, hlm2, hrb2, hna2, hdk2⟩ := HN.out.elem hum
            cases he2
            have hsa : slotAt ns d.up = ns[u].b.slot := by rw [hu]; simp [slotAt, List.getElem?_eq_getElem hum]
            have HSU := Lib.hid hna2.bk.slot
            obtain ⟨s1, hs1⟩ : ∃ z, ns[u].b.slot = z := ⟨_, rfl⟩
            obtain ⟨s0, hs0⟩ : ∃ z, d.b.slot = z := ⟨_, rfl⟩
            have HS0 := Lib.hid hs0
            rw [hs1] at HSU hsa
            obtain ⟨qs, hqs⟩ : ∃ z : Bool, decide (s0 ≤ s1) = z := ⟨_, rfl⟩
            have HBV : Hid (decide (0 < k ∧ d.b.slot ≤ slotAt ns d.up) = qs) := by
              show _ = _
              rw [hsa, hs0, ← hqs]
              by_cases e : s0 ≤ s1
              · simp [e]; omega
              · simp [e]
            have HUV := Lib.hid hu
            have hum' : (u : Int) < m := by rw [← hm.out]; omega
            clear hna2 hdk2 hsa hs1 hs0 hu hu1 hu2 hlm2
            refine wp_region_fam2 (by kernel_rfl) (by kernel_rfl) ?_
            intro T F hT hF hG
            have c0 : ∀ t, (F t).cell? ⟨w.heap.size, 0, none⟩ = some (.slice (some ⟨rb, ro, none⟩) m cap) := fun t => (VS5.out.call (hF t)).t.cell 0
            have c1 : ∀ t, (F t).cell? ⟨B, 238, none⟩ = some (.int .i64 (u : Int)) := fun t => by have := (HNT.out _ _ (VS5.out.call (hF t)).n).up; rw [Nat.zero_add, HUV.out] at this; exact this
            have c2 : ∀ t, (F t).cell? ⟨B, 66, none⟩ = some (.int .u64 s0) := fun t => by have := (HNT.out _ _ (VS5.out.call (hF t)).n).bk.slot; rw [Nat.zero_add, HS0.out] at this; exact this
            have c3 : ∀ t, (F t).cell? ⟨rb, ro + u * 240 + 66, none⟩ = some (.int .u64 s1) := fun t => ((VS5.out.call (hF t)).b.cell (p := ⟨rb, ro + u * 240 + 66, none⟩) hrb2).trans HSU.out
            repeat (go_big_quiet_step (fail))
            refine wpQuiet_nil ?_
            rintro _ ⟨t, rfl⟩
            have VS6 := Lib.hid (VS5.out.call (hF t))
            go_wp2_with fail
            go_meet
            case rel => exact ⟨by rw [HBV.out], VS6.out⟩
        case rest =>
          obtain ⟨rfl, hvs⟩ := hcut
          have VS6 := Lib.hid hvs
          clear hvs VS5
          obtain ⟨q14, hq14⟩ : ∃ z : Bool, decide (0 < k ∧ d.b.slot ≤ slotAt ns d.up) = z := ⟨_, rfl⟩
          have HQ14 : Hid (q14 = true ↔ (0 < k ∧ d.b.slot ≤ slotAt ns d.up)) := by show _ ↔ _; rw [← hq14]; exact decide_eq_true_iff
          rw [hq14]
          clear hq14
          cases q14
          case true =>
            have HQV : Hid (q = 14) := by
              show q = 14
              have he : nodeE ns d k = 14 := by unfold nodeE; rw [if_neg HNB.out, if_neg HN9.out, if_neg HN10.out, if_pos (HQ14.out.1 rfl)]
              rw [← HGO.out, HSTEP.out, he]; rfl
            go_wp2_with fail
            go_ret
            exact ⟨by rw [HQV.out]; rfl, VS6.out.b⟩
          have HN14 : Hid (¬ (0 < k ∧ d.b.slot ≤ slotAt ns d.up)) := fun h => by have := HQ14.out.2 h; cases this
          have HNX : Hid (vtGo ns (ns.length - (k + 1)) (k + 1) = q) := by
            show _ = q
            have he : nodeE ns d k = 0 := by unfold nodeE; rw [if_neg HNB.out, if_neg HN9.out, if_neg HN10.out, if_neg HN14.out]
            rw [← HGO.out, HSTEP.out, he]; rfl
          go_wp2_with fail
          go_roundw
          case rel => exact ⟨k + 1, by rw [hm.out]; omega, by go_num, HNX.out, VS6.out.t, VS6.out.b⟩
          case measure => simp [intOf]; omega
end

/-! TrK -/
section
set_option linter.unusedVariables false
set_option linter.unusedSimpArgs false
open Go.RowKit

theorem nodeE_ok {ns : List NdD} (h : TrOK ns) {k : Nat} (hk : k < ns.length) : nodeE ns ns[k] k = 0 := by
  have hs := h.st k hk
  have hb : ¬ badForm ns[k] k := by
    unfold badForm
    by_cases h0 : k = 0
    · subst h0
      have := h.root hk
      omega
    · obtain ⟨u, hu, h1, h2, _⟩ := h.up k hk (by omega)
      omega
  have hf : ¬ 0 ≤ findN (ns.take k) ns[k].b.root := by
    rcases findN_spec (ns.take k) ns[k].b.root with ⟨h1, _⟩ | ⟨j, hj, _, h2, _⟩
    · rw [h1]; omega
    · have hj' : j < k := by rw [List.length_take] at hj; omega
      rw [List.getElem_take] at h2
      exact absurd h2 (h.ne j k (by omega) hk hj')
  unfold nodeE
  rw [if_neg hb, if_neg hf]
  by_cases h0 : k = 0
  · rw [if_neg (by omega), if_neg (by omega)]
  · obtain ⟨u, hu, h1, h2, h3, h4, _⟩ := h.up k hk (by omega)
    have hr : rootAt ns ns[k].up = ns[u].b.root := by rw [h2]; simp [rootAt, List.getElem?_eq_getElem hu]
    have hsl : slotAt ns ns[k].up = ns[u].b.slot := by rw [h2]; simp [slotAt, List.getElem?_eq_getElem hu]
    rw [hr, hsl, if_neg (fun hh => hh.2 h3), if_neg (by omega)]

theorem vtGo_ok {ns : List NdD} (h : TrOK ns) : ∀ f k, vtGo ns f k = 0
  | 0, _ => rfl
  | f + 1, k => by
    show (match ns[k]? with | none => 0 | some d => if nodeE ns d k = 0 then vtGo ns f (k + 1) else nodeE ns d k) = 0
    by_cases hk : k < ns.length
    · rw [List.getElem?_eq_getElem hk]
      show (if nodeE ns ns[k] k = 0 then vtGo ns f (k + 1) else nodeE ns ns[k] k) = 0
      rw [if_pos (nodeE_ok h hk), vtGo_ok h f (k + 1)]
    · rw [List.getElem?_eq_none (by omega)]

theorem vtE_ok {ns : List NdD} (h : TrOK ns) (hl : ns.length ≤ 4096) : vtE ns = 0 := by
  unfold vtE
  rw [if_neg (by have := h.pos; omega)]
  exact vtGo_ok h _ _
end

/-! Kb -/
section
set_option linter.unusedVariables false
set_option linter.unusedSimpArgs false
set_option maxRecDepth 100000
open Go.RowKit

theorem offP_lens' {ps : List (List Value)} {ls : List Nat} (h : ps.map List.length = ls) (k : Nat) : offP ps k = (ls.take k).sum := by
  subst h
  unfold offP
  rw [List.length_flatten, List.map_take]

theorem part_cut {ps : List (List Value)} {k o n : Nat} {p : List Value} (hk : ps[k]? = some p) (ho : offP ps k = o) (hn : p.length = n) : (ps.flatten.drop o).take n = p := by
  rw [flatP_split hk, ← ho, ← hn]
  unfold offP
  rw [List.drop_left, List.take_left]

theorem keyLits_pair {d : Nat} {c e : CpD} (h : c.ok) (k : e.ok) : ∃ ls, Try.prog.keyLits (d + 4) 38 (c.cells ++ e.cells) = some ls := by
  refine keyLits_struct Try.underlying38 (by rw [List.length_append, CpD.len h, CpD.len k]; kernel_rfl) (by kernel_rfl) ?_
  intro f hf
  have hc33 : Try.prog.cellsOf 36 = 33 := by kernel_rfl
  simp only [List.mem_cons, List.not_mem_nil, or_false] at hf
  rcases hf with rfl | rfl
  · show ∃ l, Try.prog.keyLits (d + 3) 36 (((c.cells ++ e.cells).drop 0).take (Try.prog.cellsOf 36)) = some l
    rw [hc33, List.drop_zero, ← CpD.len h, List.take_left]
    exact keyLits_cp h
  · show ∃ l, Try.prog.keyLits (d + 3) 36 (((c.cells ++ e.cells).drop 33).take (Try.prog.cellsOf 36)) = some l
    rw [hc33]
    have : (c.cells ++ e.cells).drop 33 = e.cells := by rw [← CpD.len h, List.drop_left]
    rw [this, ← CpD.len k, List.take_length]
    exact keyLits_cp k

theorem keyLits_wide {d : Nat} (n : Int) : ∃ ls, Try.prog.keyLits (d + 2) 40 (wideL n) = some ls := by
  have hr : ∀ x ∈ [l0 n, l1 n, l2 n, l3 n], (Lit.int .u64 x).wf = true := by
    obtain ⟨p0, p1, p2, p3⟩ := limbs_rng n
    intro x hx
    simp at hx
    rcases hx with rfl | rfl | rfl | rfl <;> exact wf_of_u64 (by assumption)
  exact ⟨_, keyLits_ints Try.underlying40 Try.underlying32 (by kernel_rfl) (by kernel_rfl) d [l0 n, l1 n, l2 n, l3 n] rfl hr⟩

theorem keyLits_blk {x : BkD} (h : x.ok) : ∃ ls, Try.prog.keyLits 5 42 x.parts.flatten = some ls := by
  obtain ⟨h1, h2, hs, h3, h4, h5, _, _, h6, h7⟩ := h
  obtain ⟨ps, hps⟩ : ∃ ps, ps = [x.pj.cells ++ x.pf.cells, [Value.int .u64 x.slot], bytesL x.root, bytesL x.parent, bytesL x.payload, wideL x.d, wideL x.pd, x.j.cells, x.f.cells, [Value.bool x.t]] := ⟨_, rfl⟩
  have hl : ps.map List.length = [66, 1, 32, 32, 32, 4, 4, 33, 33, 1] := by rw [hps]; simp [CpD.len h1, CpD.len h2, bytesL_len h3, bytesL_len h4, bytesL_len h5, wideL, CpD.len h6, CpD.len h7]
  have e : x.parts.flatten = ps.flatten := by rw [hps]; simp [BkD.parts]
  have ho : ∀ k, offP ps k = ([66, 1, 32, 32, 32, 4, 4, 33, 33, 1].take k).sum := fun k => offP_lens' hl k
  have c66 : Try.prog.cellsOf 38 = 66 := by kernel_rfl
  have c1 : Try.prog.cellsOf 32 = 1 := by kernel_rfl
  have c32 : Try.prog.cellsOf 34 = 32 := by kernel_rfl
  have c4 : Try.prog.cellsOf 40 = 4 := by kernel_rfl
  have c33 : Try.prog.cellsOf 36 = 33 := by kernel_rfl
  have cb : Try.prog.cellsOf 4 = 1 := by kernel_rfl
  rw [e]
  refine keyLits_struct Try.underlying42 (by rw [List.length_flatten, hl]; kernel_rfl) (by kernel_rfl) ?_
  intro f hf
  simp only [List.mem_cons, List.not_mem_nil, or_false] at hf
  rcases hf with rfl | rfl | rfl | rfl | rfl | rfl | rfl | rfl | rfl | rfl
  · show ∃ l, Try.prog.keyLits 4 38 ((ps.flatten.drop 0).take (Try.prog.cellsOf 38)) = some l
    rw [c66, part_cut (k := 0) (o := 0) (n := 66) (by rw [hps]; rfl) (ho 0) (by rw [List.length_append, CpD.len h1, CpD.len h2])]
    exact keyLits_pair h1 h2
  · show ∃ l, Try.prog.keyLits 4 32 ((ps.flatten.drop 66).take (Try.prog.cellsOf 32)) = some l
    rw [c1, part_cut (k := 1) (o := 66) (n := 1) (by rw [hps]; rfl) (ho 1) rfl]
    exact keyLits_int Try.underlying32 (wf_of_u64 hs)
  · show ∃ l, Try.prog.keyLits 4 34 ((ps.flatten.drop 67).take (Try.prog.cellsOf 34)) = some l
    rw [c32, part_cut (k := 2) (o := 67) (n := 32) (by rw [hps]; rfl) (ho 2) (bytesL_len h3)]
    exact keyLits_bytes Try.underlying34 (by kernel_rfl) h3
  · show ∃ l, Try.prog.keyLits 4 34 ((ps.flatten.drop 99).take (Try.prog.cellsOf 34)) = some l
    rw [c32, part_cut (k := 3) (o := 99) (n := 32) (by rw [hps]; rfl) (ho 3) (bytesL_len h4)]
    exact keyLits_bytes Try.underlying34 (by kernel_rfl) h4
  · show ∃ l, Try.prog.keyLits 4 34 ((ps.flatten.drop 131).take (Try.prog.cellsOf 34)) = some l
    rw [c32, part_cut (k := 4) (o := 131) (n := 32) (by rw [hps]; rfl) (ho 4) (bytesL_len h5)]
    exact keyLits_bytes Try.underlying34 (by kernel_rfl) h5
  · show ∃ l, Try.prog.keyLits 4 40 ((ps.flatten.drop 163).take (Try.prog.cellsOf 40)) = some l
    rw [c4, part_cut (k := 5) (o := 163) (n := 4) (by rw [hps]; rfl) (ho 5) rfl]
    exact keyLits_wide _
  · show ∃ l, Try.prog.keyLits 4 40 ((ps.flatten.drop 167).take (Try.prog.cellsOf 40)) = some l
    rw [c4, part_cut (k := 6) (o := 167) (n := 4) (by rw [hps]; rfl) (ho 6) rfl]
    exact keyLits_wide _
  · show ∃ l, Try.prog.keyLits 4 36 ((ps.flatten.drop 171).take (Try.prog.cellsOf 36)) = some l
    rw [c33, part_cut (k := 7) (o := 171) (n := 33) (by rw [hps]; rfl) (ho 7) (CpD.len h6)]
    exact keyLits_cp h6
  · show ∃ l, Try.prog.keyLits 4 36 ((ps.flatten.drop 204).take (Try.prog.cellsOf 36)) = some l
    rw [c33, part_cut (k := 8) (o := 204) (n := 33) (by rw [hps]; rfl) (ho 8) (CpD.len h7)]
    exact keyLits_cp h7
  · show ∃ l, Try.prog.keyLits 4 4 ((ps.flatten.drop 237).take (Try.prog.cellsOf 4)) = some l
    rw [cb, part_cut (k := 9) (o := 237) (n := 1) (by rw [hps]; rfl) (ho 9) rfl]
    exact keyLits_bool Try.underlying4

theorem wf_of_i64 {n : Int} (h : -9223372036854775808 ≤ n ∧ n ≤ 9223372036854775807) : (Lit.int .i64 n).wf = true := by
  simpa [Lit.wf, IntKind.min, IntKind.max, IntKind.signed, IntKind.bits] using h

theorem keyLits_nd {x : NdD} (h : x.ok) : ∃ ls, Try.prog.keyLits 6 44 x.cells = some ls := by
  have hl := BkD.flen h.1
  have c1 : Try.prog.cellsOf 3 = 1 := by kernel_rfl
  have cb : Try.prog.cellsOf 42 = 238 := by kernel_rfl
  refine keyLits_struct Try.underlying44 (by rw [NdD.len h]; kernel_rfl) (by kernel_rfl) ?_
  intro f hf
  simp only [List.mem_cons, List.not_mem_nil, or_false] at hf
  rcases hf with rfl | rfl | rfl
  · show ∃ l, Try.prog.keyLits 5 42 ((x.cells.drop 0).take (Try.prog.cellsOf 42)) = some l
    rw [cb, List.drop_zero, ← hl]
    unfold NdD.cells
    rw [List.take_left]
    exact keyLits_blk h.1
  · show ∃ l, Try.prog.keyLits 5 3 ((x.cells.drop 238).take (Try.prog.cellsOf 3)) = some l
    rw [c1]
    unfold NdD.cells
    rw [← hl, List.drop_left]
    exact keyLits_int Try.underlying3 (wf_of_i64 h.2.1)
  · show ∃ l, Try.prog.keyLits 5 3 ((x.cells.drop 239).take (Try.prog.cellsOf 3)) = some l
    rw [c1]
    have e : x.cells.drop 239 = [.int .i64 x.st] := by
      have e1 : x.cells.drop 238 = [.int .i64 x.up, .int .i64 x.st] := by unfold NdD.cells; rw [← hl, List.drop_left]
      rw [show 239 = 238 + 1 from rfl, ← List.drop_drop, e1]; rfl
    rw [e]
    exact keyLits_int Try.underlying3 (wf_of_i64 h.2.2)

theorem eq_nd {x : NdD} (h : x.ok) (w : World) : Sem.run Try.prog (Op.equalIn 10000 44 (.agg x.cells.toArray) (.agg x.cells.toArray)) w = .ok true w :=
  eq_self (m := 6) (by kernel_rfl) (by omega) _ (by
    have hc : Try.prog.cellsOf 44 = 240 := by kernel_rfl
    simp [Value.formed, Try.underlying44, NdD.len h, hc]) (by simpa using keyLits_nd h) w

set_option maxHeartbeats 4000000 in
theorem stree_yes (v1 v2 : Value) (ns : List NdD) (w : World) (h1 : NodesV w v1 ns) (h2 : NodesV w v2 ns) :
    Calls Try.prog 16 #[.agg #[v1], .agg #[v2]] w fun e w' => e = .returned (.bool true) ∧ Below w.heap.size w w' := by
  obtain ⟨a1, c1, rfl, hmx⟩ := h1.shape
  obtain ⟨a2, c2, rfl, _⟩ := h2.shape
  unfold maxLen at hmx
  have H1 := Lib.hid h1
  have H2 := Lib.hid h2
  obtain ⟨m, hml⟩ : ∃ m, ns.length = m := ⟨_, rfl⟩
  rw [hml] at hmx H1 H2 ⊢
  have HM := Lib.hid hml
  have hne : ((m : Int) != (m : Int)) = false := by simp
  have HBA := Lib.hid (((Below.refl w.heap.size w).alloc (Nat.le_refl _) (.cells #[.slice a1 m c1] 24)).alloc (by simp) (.cells #[.slice a2 m c2] 24))
  have HT1 : Hid (Blk ((w.alloc (.cells #[.slice a1 m c1] 24)).alloc (.cells #[.slice a2 m c2] 24)) w.heap.size #[.slice a1 m c1]) := (Blk.new rfl).alloc _
  have HT2 : Hid (Blk ((w.alloc (.cells #[.slice a1 m c1] 24)).alloc (.cells #[.slice a2 m c2] 24)) (w.heap.size + 1) #[.slice a2 m c2]) := Blk.new (by simp)
  clear h1 h2 hml
  go_enter Try.func16, Try.ntmps16
  go_wp2_with (first
    | ((with_reducible refine at_load (.tmp 6) ?_); refine wpList_load_1 22 (.tmp 6) rfl w.heap.size 0 (.slice a1 m c1) (HT1.out.cell 0) rfl _ Try.underlying22 rfl rfl ?_)
    | ((with_reducible refine at_load (.tmp 9) ?_); refine wpList_load_1 22 (.tmp 9) rfl (w.heap.size + 1) 0 (.slice a2 m c2) (HT2.out.cell 0) rfl _ Try.underlying22 rfl rfl ?_))
  go_loopw [5] (fun i wr => ∃ k : Nat, k ≤ m ∧ i = .int .i64 k ∧ Blk wr w.heap.size #[.slice a1 m c1] ∧ Blk wr (w.heap.size + 1) #[.slice a2 m c2] ∧ Below w.heap.size w wr) (fun i _ => m - (intOf i).toNat)
  case atStart => exact ⟨0, Nat.zero_le _, rfl, HT1.out, HT2.out, HBA.out⟩
  case round =>
    obtain ⟨k, hk, rfl, ht1, ht2, hbl⟩ := hrel
    have HBL := Lib.hid hbl
    have HR1 := Lib.hid ht1
    have HR2 := Lib.hid ht2
    have hl1 := ht1.lt
    have hl2 := ht2.lt
    clear hbl ht1 ht2
    by_cases hlt : k < m
    case neg =>
      obtain rfl : k = m := by omega
      go_wp2_with (first
        | ((with_reducible refine at_load (.tmp 14) ?_); refine wpList_load_1 22 (.tmp 14) rfl w.heap.size 0 (.slice a1 k c1) (HR1.out.cell 0) rfl _ Try.underlying22 rfl rfl ?_))
      go_ret
      exact ⟨rfl, HBL.out⟩
    have hlt' : (k : Int) < m := by omega
    have hkn : k < ns.length := by rw [HM.out]; exact hlt
    obtain ⟨b1, o1, rfl, hm1, hb1, hn1, hok⟩ := H1.out.elem hkn
    obtain ⟨b2, o2, rfl, hm2, hb2, hn2, _⟩ := H2.out.elem hkn
    have EQ := fun u => eq_nd hok u
    have hiL : (Try.prog.info? 44).map (·.size) = some ns[k].cells.length := by rw [NdD.len hok]; kernel_rfl
    have G1 := Lib.hid hn1.all
    have G2 := Lib.hid hn2.all
    obtain ⟨L, hL⟩ : ∃ L, ns[k].cells = L := ⟨_, rfl⟩
    rw [hL] at G1 G2 EQ hiL
    clear hn1 hn2 hok hL hm1 hm2
    go_wp2_with (first
      | ((with_reducible refine at_load (.tmp 14) ?_); refine wpList_load_1 22 (.tmp 14) rfl w.heap.size 0 (.slice (some ⟨b1, o1, none⟩) m c1) (HR1.out.cell 0) rfl _ Try.underlying22 rfl rfl ?_))
    refine wp_region_fam2 (by kernel_rfl) (by kernel_rfl) ?_
    intro T F hT hF hG
    have d1 : ∀ t, (F t).cell? ⟨w.heap.size, 0, none⟩ = some (.slice (some ⟨b1, o1, none⟩) m c1) := fun t => (HR1.out.call (hF t)).cell 0
    have d2 : ∀ t, (F t).cell? ⟨w.heap.size + 1, 0, none⟩ = some (.slice (some ⟨b2, o2, none⟩) m c2) := fun t => (HR2.out.call (hF t)).cell 0
    have C1 := Lib.hid (show ∀ u, (∃ t, u = F t) → u.rangeAt b1 (o1 + k * 240) L by rintro _ ⟨t, rfl⟩; exact Below.rng (HBL.out.trans ((hF t).mono HBL.out.size)) hb1 G1.out)
    have C2 := Lib.hid (show ∀ u, (∃ t, u = F t) → u.rangeAt b2 (o2 + k * 240) L by rintro _ ⟨t, rfl⟩; exact Below.rng (HBL.out.trans ((hF t).mono HBL.out.size)) hb2 G2.out)
    repeat (first
      | ((with_reducible refine at_qload (.tmp 23) ?_); refine wpQuiet_load_midE 44 _ rfl b1 (o1 + k * 240) (by simp [Act.eval]) L C1.out Try.underlying44 rfl hiL (by kernel_rfl) ?_; simp only [Act.put, List.setIfInBounds_toArray, List.set_cons_succ, List.set_cons_zero])
      | ((with_reducible refine at_qload (.tmp 28) ?_); refine wpQuiet_load_midE 44 _ rfl b2 (o2 + k * 240) (by simp [Act.eval]) L C2.out Try.underlying44 rfl hiL (by kernel_rfl) ?_; simp only [Act.put, List.setIfInBounds_toArray, List.set_cons_succ, List.set_cons_zero])
      | (go_big_quiet_step (fail)))
    refine wpQuiet_nil ?_
    rintro _ ⟨t, rfl⟩
    have hft := hF t
    have HF := Lib.hid (HBL.out.trans (hft.mono HBL.out.size))
    have HF1 := Lib.hid (HR1.out.call hft)
    have HF2 := Lib.hid (HR2.out.call hft)
    clear C1 C2 d1 d2 hG hft
    go_wp2_with fail
    go_roundw
    case rel => exact ⟨k + 1, by omega, by go_num, HF1.out, HF2.out, HF.out⟩
    case measure => simp [intOf]; omega
end

end Go.Proofs.Ytgdlkkeiijhecaa
