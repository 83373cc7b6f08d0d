/- Several texts as one: TrA, TrB, TrD, EvA, EvB, So, Pas, TrF, TrG, PrA, TsA. -/
import Derived.Test.YtdmjpmigejpkmaaNd
import Derived.Test.YtdmjpmigejpkmaaOwL
import Derived.Test.YtdmjpmigejpkmaaRt
import Derived.Test.YtdmjpmigejpkmaaVa
import Derived.Test.YtdmjpmigejpkmaaLt
namespace Go.Proofs.Ytdmjpmigejpkmaa

/-! TrA -/
section
set_option linter.unusedVariables false
set_option linter.unusedSimpArgs false
open Go.RowKit

set_option maxRecDepth 100000

/-- The index of the first node with this root from i on, -1 if there is none. -/
def findGo (ns : List NdD) (r : List Int) : Nat → Nat → Int
  | 0, _ => -1
  | f + 1, i => if ((ns[i]?).map (fun d => d.b.root)) = some r then i else findGo ns r f (i + 1)

def findN (ns : List NdD) (r : List Int) : Int := findGo ns r ns.length 0

theorem findGo_step {ns : List NdD} {r : List Int} {k : Nat} (hk : k < ns.length) : findGo ns r (ns.length - k) k = if ns[k].b.root = r then (k : Int) else findGo ns r (ns.length - (k + 1)) (k + 1) := by
  rw [show ns.length - k = (ns.length - (k + 1)) + 1 by omega]
  show (if ((ns[k]?).map (fun d => d.b.root)) = some r then (k : Int) else findGo ns r (ns.length - (k + 1)) (k + 1)) = _
  rw [List.getElem?_eq_getElem hk]
  simp

theorem findGo_spec (ns : List NdD) (r : List Int) : ∀ f i, (findGo ns r f i = -1 ∧ ∀ j, i ≤ j → j < i + f → (hj : j < ns.length) → ns[j].b.root ≠ r) ∨ ∃ k : Nat, i ≤ k ∧ k < i + f ∧ ∃ hk : k < ns.length, findGo ns r f i = k ∧ ns[k].b.root = r ∧ ∀ j, i ≤ j → j < k → (hj : j < ns.length) → ns[j].b.root ≠ r
  | 0, i => .inl ⟨rfl, fun j h1 h2 _ => by omega⟩
  | f + 1, i => by
    unfold findGo
    by_cases h : ((ns[i]?).map (fun d => d.b.root)) = some r
    · rw [if_pos h]
      by_cases hi : i < ns.length
      · rw [List.getElem?_eq_getElem hi] at h
        exact .inr ⟨i, Nat.le_refl _, by omega, hi, rfl, by simpa using h, fun j h1 h2 _ => by omega⟩
      · rw [List.getElem?_eq_none (by omega)] at h; cases h
    · rw [if_neg h]
      have hni : ∀ hi : i < ns.length, ns[i].b.root ≠ r := fun hi e => h (by rw [List.getElem?_eq_getElem hi]; simp [e])
      rcases findGo_spec ns r f (i + 1) with ⟨h1, h2⟩ | ⟨k, h1, h2, hk, h3, h4, h5⟩
      · refine .inl ⟨h1, fun j h3 h4 hj => ?_⟩
        by_cases e : j = i
        · subst e; exact hni hj
        · exact h2 j (by omega) (by omega) hj
      · refine .inr ⟨k, by omega, by omega, hk, h3, h4, fun j h6 h7 hj => ?_⟩
        by_cases e : j = i
        · subst e; exact hni hj
        · exact h5 j (by omega) h7 hj

theorem findN_spec (ns : List NdD) (r : List Int) : (findN ns r = -1 ∧ ∀ j, (hj : j < ns.length) → ns[j].b.root ≠ r) ∨ ∃ k : Nat, ∃ hk : k < ns.length, findN ns r = k ∧ ns[k].b.root = r ∧ ∀ j, j < k → (hj : j < ns.length) → ns[j].b.root ≠ r := by
  rcases findGo_spec ns r ns.length 0 with ⟨h1, h2⟩ | ⟨k, _, _, hk, h3, h4, h5⟩
  · exact .inl ⟨h1, fun j hj => h2 j (Nat.zero_le _) (by omega) hj⟩
  · exact .inr ⟨k, hk, h3, h4, fun j hj => h5 j (Nat.zero_le _) hj⟩

theorem findN_rng (ns : List NdD) (r : List Int) : -1 ≤ findN ns r ∧ findN ns r < ns.length := by
  rcases findN_spec ns r with ⟨h, _⟩ | ⟨k, hk, h, _⟩ <;> rw [h] <;> omega

def FindI (w : World) (ns : List NdD) (r : List Int) (T X : Array Value) (i : Value) (wr : World) : Prop :=
  ∃ k : Nat, k ≤ ns.length ∧ i = .int .i64 k ∧ findGo ns r (ns.length - k) k = findN ns r ∧ Blk wr w.heap.size T ∧ Blk wr (w.heap.size + 1) X ∧ Below w.heap.size w wr

set_option maxHeartbeats 4000000 in
theorem find_any (v : Value) (ns : List NdD) (r : List Int) (w : World) (hN : NodesV w v ns) (hr : IsBytes 32 r) :
    Calls Try.prog 41 #[.agg #[v], .agg (bytesL r).toArray] w fun e w' => e = .returned (.int .i64 (findN ns r)) ∧ Below w.heap.size w w' := by
  obtain ⟨a, cap, rfl, hmx⟩ := hN.shape
  unfold maxLen at hmx
  have HN := Lib.hid hN
  have HR := Lib.hid hr
  obtain ⟨q, hq⟩ : ∃ q, Hid (findN ns r = q) := ⟨_, Lib.hid rfl⟩
  rw [hq.out]
  obtain ⟨X, hX⟩ : ∃ X, Hid ((bytesL r).toArray = X) := ⟨_, Lib.hid rfl⟩
  rw [hX.out]
  have hsX : X.size = 32 := by rw [← hX.out, List.size_toArray, bytesL_len hr]
  have hiX : (Try.prog.info? 31).map (·.size) = some X.size := by rw [hsX]; kernel_rfl
  obtain ⟨m, hm⟩ : ∃ m, Hid (ns.length = m) := ⟨_, Lib.hid rfl⟩
  rw [hm.out] at hmx ⊢
  have HBA := Lib.hid (((Below.refl w.heap.size w).alloc (Nat.le_refl _) (.cells #[.slice a m cap] 25)).alloc (by simp) (.cells X 31))
  have HT : Hid (Blk ((w.alloc (.cells #[.slice a m cap] 25)).alloc (.cells X 31)) w.heap.size #[.slice a m cap]) := (Blk.new rfl).alloc _
  have HX : Hid (Blk ((w.alloc (.cells #[.slice a m cap] 25)).alloc (.cells X 31)) (w.heap.size + 1) X) := Blk.new (by simp)
  clear hN hr
  go_enter Try.func41, Try.ntmps41
  go_wp2_with fail
  go_loopw [5] (fun i wr => FindI w ns r #[.slice a m cap] X i wr) (fun i _ => m - (intOf i).toNat)
  case atStart => exact ⟨0, Nat.zero_le _, rfl, rfl, HT.out, HX.out, HBA.out⟩
  case round =>
    obtain ⟨k, hk, rfl, hf, ht, hx, hbl⟩ := hrel
    have HF := Lib.hid hf
    have HTr := Lib.hid ht
    have HXr := Lib.hid hx
    have HBL := Lib.hid hbl
    have hlt0 := ht.lt
    have HC0 : Hid (wr.cell? ⟨w.heap.size, 0, none⟩ = some (.slice a m cap)) := ht.cell 0
    rw [hm.out] at hk
    clear hf ht hx hbl
    by_cases hlt : k < m
    case neg =>
      obtain rfl : k = m := by omega
      have hqv : q = -1 := by rw [← hq.out, ← HF.out, hm.out, Nat.sub_self]; rfl
      have HQ := Lib.hid hqv
      clear hqv
      go_wp2_with (first
        | ((with_reducible refine at_load (.tmp 7) ?_); refine wpList_load_1 23 (.tmp 7) rfl w.heap.size 0 (.slice a k cap) HC0.out rfl _ Try.underlying23 rfl rfl ?_))
      go_ret
      exact ⟨by rw [HQ.out]; rfl, HBL.out⟩
    have hlt' : (k : Int) < m := by omega
    have hkn : k < ns.length := by rw [hm.out]; exact hlt
    obtain ⟨b, off, rfl, hlm, hbb, hna, hok⟩ := HN.out.elem (i := k) hkn
    have hrt := Below.rng HBL.out hbb hna.bk.root
    have HRT := Lib.hid hrt
    have hbw : b < wr.heap.size := Nat.lt_of_lt_of_le hbb HBL.out.size
    have hst := findGo_step (r := r) hkn
    have HEQ := fun u => eq_root hok.1.2.2.2.1 HR.out u
    have hiY : (Try.prog.info? 31).map (·.size) = some (bytesL ns[k].b.root).length := by rw [bytesL_len hok.1.2.2.2.1]; kernel_rfl
    obtain ⟨qr, hqr⟩ : ∃ q : Bool, decide (ns[k].b.root = r) = q := ⟨_, rfl⟩
    rw [hqr] at HEQ
    have HQR : Hid (qr = true ↔ ns[k].b.root = r) := by show _ ↔ _; rw [← hqr]; exact decide_eq_true_iff
    simp only [bytesL_V] at HEQ
    rw [hX.out] at HEQ
    obtain ⟨R, hR⟩ : ∃ R, bytesL ns[k].b.root = R := ⟨_, rfl⟩
    rw [hR] at HRT HEQ hiY
    have HST := Lib.hid hst
    clear hna hok hrt hst hqr hR hlm
    go_wp2_with (first
      | ((with_reducible refine at_load (.tmp 7) ?_); refine wpList_load_1 23 (.tmp 7) rfl w.heap.size 0 (.slice (some ⟨b, off, none⟩) m cap) HC0.out rfl _ Try.underlying23 rfl rfl ?_))
    refine wp_region_fam2 (by kernel_rfl) (by kernel_rfl) ?_
    intro T F hT hF hG
    have c0 : ∀ t, (F t).cell? ⟨w.heap.size, 0, none⟩ = some (.slice (some ⟨b, off, none⟩) m cap) := fun t => ((hF t).cell (p := ⟨w.heap.size, 0, none⟩) hlt0).trans HC0.out
    have CR := Lib.hid (show ∀ u, (∃ t, u = F t) → u.rangeAt b (off + k * 240 + 67) R by rintro _ ⟨t, rfl⟩; exact Below.rng (hF t) hbw HRT.out)
    have CX := Lib.hid (show ∀ u, (∃ t, u = F t) → Blk u (w.heap.size + 1) X by rintro _ ⟨t, rfl⟩; exact HXr.out.call (hF t))
    repeat (first
      | ((with_reducible refine at_qload (.tmp 18) ?_); refine wpQuiet_load_midE 31 _ rfl b (off + k * 240 + 67) (by simp [Act.eval]) R CR.out Try.underlying31 rfl hiY (by kernel_rfl) ?_; simp only [Act.put, List.setIfInBounds_toArray, List.set_cons_succ, List.set_cons_zero])
      | ((with_reducible refine at_qload (.tmp 3) ?_); refine wpQuiet_load 31 _ rfl (w.heap.size + 1) rfl X CX.out Try.underlying31 rfl hiX (by kernel_rfl) ?_; simp only [Act.put, List.setIfInBounds_toArray, List.set_cons_succ, List.set_cons_zero])
      | (go_big_quiet_step (fail)))
    refine wpQuiet_nil ?_
    rintro _ ⟨t, rfl⟩
    have hft := hF t
    obtain ⟨u, hu⟩ : ∃ u, F t = u := ⟨_, rfl⟩
    rw [hu] at hft ⊢
    have HB1 := Lib.hid (HBL.out.trans (hft.mono HBL.out.size))
    have HT1 := Lib.hid (HTr.out.call hft)
    have HX1 := Lib.hid (HXr.out.call hft)
    clear c0 CR CX hG hu hft hF hT
    clear t F T
    cases qr
    case false =>
      have hne : ¬ ns[k].b.root = r := fun h => by have := HQR.out.2 h; cases this
      rw [if_neg hne] at HST
      go_wp2_with fail
      go_roundw
      case rel => exact ⟨k + 1, by rw [hm.out]; omega, by go_num, by rw [← HST.out]; exact HF.out, HT1.out, HX1.out, HB1.out⟩
      case measure => simp [intOf]; omega
    case true =>
      rw [if_pos (HQR.out.1 rfl)] at HST
      have hqv : q = (k : Int) := by rw [← hq.out, ← HF.out]; exact HST.out
      have HQ := Lib.hid hqv
      clear hqv
      go_wp2_with fail
      go_ret
      exact ⟨by rw [HQ.out]; rfl, HB1.out⟩

set_option maxHeartbeats 4000000 in
theorem isn_any (v : Value) (ns : List NdD) (i : Int) (w : World) (hN : NodesV w v ns) :
    Calls Try.prog 43 #[.agg #[v], .int .i64 i] w fun e w' => e = .returned (.bool (decide (0 ≤ i ∧ i < ns.length))) ∧ Below w.heap.size w w' := by
  obtain ⟨a, cap, rfl, hmx⟩ := hN.shape
  unfold maxLen at hmx
  obtain ⟨m, hm⟩ : ∃ m, Hid (ns.length = m) := ⟨_, Lib.hid rfl⟩
  rw [hm.out] at hmx ⊢
  obtain ⟨q, hq⟩ : ∃ q : Bool, decide (0 ≤ i ∧ i < (m : Int)) = q := ⟨_, rfl⟩
  rw [hq]
  have HBA := Lib.hid ((Below.refl w.heap.size w).alloc (Nat.le_refl _) (.cells #[.slice a m cap] 25))
  have HC0 : Hid ((w.alloc (.cells #[.slice a m cap] 25)).cell? ⟨w.heap.size, 0, none⟩ = some (.slice a m cap)) := (Blk.new rfl).cell 0
  clear hN
  by_cases h0 : 0 ≤ i
  · have hge : ¬ i < 0 := by omega
    by_cases h1 : i < (m : Int)
    · have hqv : q = true := by rw [← hq]; exact decide_eq_true ⟨h0, h1⟩
      subst hqv
      go_enter Try.func43, Try.ntmps43
      go_wp2_with (first
        | ((with_reducible refine at_load (.tmp 9) ?_); refine wpList_load_1 23 (.tmp 9) rfl w.heap.size 0 (.slice a m cap) HC0.out rfl _ Try.underlying23 rfl rfl ?_))
      go_ret
      exact ⟨rfl, HBA.out⟩
    · have hqv : q = false := by rw [← hq]; exact decide_eq_false (fun h => h1 h.2)
      subst hqv
      go_enter Try.func43, Try.ntmps43
      go_wp2_with (first
        | ((with_reducible refine at_load (.tmp 9) ?_); refine wpList_load_1 23 (.tmp 9) rfl w.heap.size 0 (.slice a m cap) HC0.out rfl _ Try.underlying23 rfl rfl ?_))
      go_ret
      exact ⟨rfl, HBA.out⟩
  · have hqv : q = false := by rw [← hq]; exact decide_eq_false (fun h => h0 h.1)
    subst hqv
    have h0' : (0 ≤ i) = False := eq_false h0
    clear h0
    go_enter Try.func43, Try.ntmps43
    go_wp2_with fail
    go_ret
    exact ⟨rfl, HBA.out⟩
end

/-! TrB -/
section
set_option linter.unusedVariables false
set_option linter.unusedSimpArgs false
open Go.RowKit

set_option maxRecDepth 100000

theorem status_any (n : Int) (w : World) :
    Calls Try.prog 40 #[.int .i64 n] w fun e w' => e = .returned (.bool (decide (0 ≤ n ∧ n ≤ 2))) ∧ Below w.heap.size w w' := by
  by_cases h0 : 0 ≤ n
  · by_cases h1 : n ≤ 2
    · have hq : decide (0 ≤ n ∧ n ≤ 2) = true := decide_eq_true ⟨h0, h1⟩
      rw [hq]
      clear hq
      go_enter Try.func40, Try.ntmps40
      go_wp2_with fail
      go_ret
      exact ⟨rfl, Below.refl _ _⟩
    · have hq : decide (0 ≤ n ∧ n ≤ 2) = false := decide_eq_false (fun h => h1 h.2)
      rw [hq]
      have h1' : (n ≤ 2) = False := eq_false h1
      clear hq h1
      go_enter Try.func40, Try.ntmps40
      go_wp2_with fail
      go_ret
      exact ⟨rfl, Below.refl _ _⟩
  · have hq : decide (0 ≤ n ∧ n ≤ 2) = false := decide_eq_false (fun h => h0 h.1)
    rw [hq]
    have h0' : (0 ≤ n) = False := eq_false h0
    clear hq h0
    go_enter Try.func40, Try.ntmps40
    go_wp2_with fail
    go_ret
    exact ⟨rfl, Below.refl _ _⟩

theorem build_nd (x : BkD) (up st : Int) (hx : x.ok) (u : World) : (Instr.build 41 #[(0, .agg (flatP x.parts)), (1, .int .i64 up), (2, .int .i64 st)]).run Try.prog u = .ok (.agg (⟨x, up, st⟩ : NdD).cells.toArray) u := by
  have hl := BkD.flen hx
  refine build_struct (zero := flatP [zeBkP.flatten, [.int .i64 0], [.int .i64 0]]) (fun w => by kernel_rfl) Try.underlying41 (places := #[(0, 238), (238, 1), (239, 1)]) (fun w => by kernel_rfl) ?_ u
  show Instr.fill _ (flatP [zeBkP.flatten, [.int .i64 0], [.int .i64 0]]) [(0, .agg (flatP x.parts)), (1, .int .i64 up), (2, .int .i64 st)] = _
  rw [fill_part 0 zeBkP.flatten x.parts.flatten rfl rfl (by rw [hl]; rfl) rfl (by rw [hl]; rfl), fill_part (i := 1) (o := 238) 1 [.int .i64 0] [.int .i64 up] rfl rfl rfl (by simp [offP, hl]) rfl, fill_part (i := 2) (o := 239) 2 [.int .i64 0] [.int .i64 st] rfl rfl rfl (by simp [offP, hl]) rfl]
  unfold Instr.fill
  simp [flatP, NdD.cells]

theorem bz_tree (u : World) : (Instr.build 25 #[]).run Try.prog u = .ok (.agg #[.slice none 0 0]) u := by kernel_rfl

theorem b_tree (a : Option Addr) (n c : Nat) (u : World) : (Instr.build 25 #[(0, .slice a n c)]).run Try.prog u = .ok (.agg #[.slice a n c]) u := by kernel_rfl

theorem bel_node {X : Array Value} (hX : X.size = 240) (u : World) : (Instr.buildSlice 23 1 #[(0, .agg X)]).run Try.prog u = .ok (.slice (some ⟨u.heap.size, 0, none⟩) 1 1) (u.alloc (.cells X 41)) :=
  buildEl (P := Try.prog) (t := 23) (e := 41) (Z := flatP (zeBkP ++ [[.int .i64 0], [.int .i64 0]])) (X := X) (sz := 240) Try.underlying23 (fun w => by kernel_rfl) (by kernel_rfl) (by rfl) hX (by omega) (by omega) u

/-- One node in a block of its own. -/
theorem nodes_one {w : World} {g : Nat} {d : NdD} (h : Blk w g d.cells.toArray) (hd : d.ok) : NodesV w (.slice (some ⟨g, 0, none⟩) 1 1) [d] := by
  refine ⟨_, 1, rfl, by unfold maxLen; simp, .inr ⟨g, 0, rfl, h.lt, [d.cells.toArray], ?_, rfl, ?_⟩⟩
  · have := h.rng
    simpa [rowsL] using this
  · intro p hp
    simp only [List.zip_cons_cons, List.zip_nil_right, List.mem_singleton] at hp
    rw [hp]; exact ⟨rfl, hd⟩

set_option maxHeartbeats 4000000 in
theorem newt_any (x : BkD) (st : Int) (w : World) (hx : x.ok) (hst : -9223372036854775808 ≤ st ∧ st ≤ 9223372036854775807) :
    Calls Try.prog 24 #[.agg (flatP x.parts), .int .i64 st] w fun e w' => ∃ v, e = .returned (.agg #[v]) ∧ NodesV w' v [⟨x, -1, st⟩] ∧ New w.heap.size v ∧ CapOK v ∧ Below w.heap.size w w' := by
  have hok : (⟨x, -1, st⟩ : NdD).ok := ⟨hx, by show (-9223372036854775808 : Int) ≤ -1 ∧ (-1 : Int) ≤ _; omega, hst⟩
  have HN := Lib.hid (fun u => build_nd x (-1) st hx u)
  obtain ⟨d, hd⟩ : ∃ d : NdD, Hid ((⟨x, -1, st⟩ : NdD) = d) := ⟨_, Lib.hid rfl⟩
  rw [hd.out] at HN hok ⊢
  obtain ⟨Y, hY⟩ : ∃ Y, Hid (d.cells.toArray = Y) := ⟨_, Lib.hid rfl⟩
  have hsY : Hid (Y.size = 240) := by show Y.size = 240; rw [← hY.out, List.size_toArray, NdD.len hok]
  have hsX : (flatP x.parts).size = 238 := by rw [flatP_size, BkD.flen hx]
  have HOK := Lib.hid hok
  rw [hY.out] at HN
  obtain ⟨X, hX⟩ : ∃ X, flatP x.parts = X := ⟨_, rfl⟩
  rw [hX] at HN hsX ⊢
  have hiX : (Try.prog.info? 39).map (·.size) = some X.size := by rw [hsX]; kernel_rfl
  have hi1 : (Try.prog.info? 25).map (·.size) = some 1 := by kernel_rfl
  obtain ⟨hz1, hst1⟩ := zero_array (P := Try.prog) (t := 25) (n := 1) #[.slice none 0 0] (by kernel_rfl) rfl (by kernel_rfl)
  have HBA := Lib.hid (((Below.refl w.heap.size w).alloc (Nat.le_refl _) (.cells X 39)).alloc (by simp) (.cells #[.slice none 0 0] 25))
  have HX : Hid (Blk ((w.alloc (.cells X 39)).alloc (.cells #[.slice none 0 0] 25)) w.heap.size X) := (Blk.new rfl).alloc _
  have HZ : Hid (Blk ((w.alloc (.cells X 39)).alloc (.cells #[.slice none 0 0] 25)) (w.heap.size + 1) #[.slice none 0 0]) := Blk.new (by simp)
  clear hX hx hok hst1
  go_enter Try.func24, Try.ntmps24
  go_wp2_with (first
    | ((with_reducible refine at_load (.tmp 2) ?_); refine wpList_load_g 39 (.tmp 2) rfl w.heap.size rfl X _ HX.out Try.underlying39 rfl hiX rfl ?_)
    | ((with_reducible refine at_build (some 7) ?_); refine wpList_build_g 41 _ rfl #[(0, .agg X), (1, .int .i64 (-1)), (2, .int .i64 st)] (by simp [Act.eval, Act.put]) (.agg Y) (HN.out _) rfl ?_)
    | ((with_reducible refine at_buildSliceE (some 8) ?_); refine wpList_buildSliceE rfl 23 1 _ rfl #[(0, .agg Y)] (by simp [Act.eval, Act.put]) _ (bel_node hsY.out _) ?_)
    | ((with_reducible refine at_build (some 9) ?_); refine wpList_build_g 25 _ rfl #[(0, .slice (some ⟨((w.alloc (.cells X 39)).alloc (.cells #[.slice none 0 0] 25)).heap.size, 0, none⟩) 1 1)] (by simp [Act.eval, Act.put]) (.agg #[.slice (some ⟨((w.alloc (.cells X 39)).alloc (.cells #[.slice none 0 0] 25)).heap.size, 0, none⟩) 1 1]) (b_tree _ _ _ _) rfl ?_)
    | ((with_reducible refine at_store (.tmp 4) ?_); refine wpList_store_blk rfl 25 (.tmp 4) _ rfl (w.heap.size + 1) #[.slice (some ⟨((w.alloc (.cells X 39)).alloc (.cells #[.slice none 0 0] 25)).heap.size, 0, none⟩) 1 1] rfl rfl #[.slice none 0 0] (HZ.out.alloc _) rfl hi1 (by simp [Value.oneCell']) ?_; intro w5 U5 B5; have HR5 := Lib.hid B5; have HU5 := Lib.hid U5; clear U5 B5))
  have hb5 : Below w.heap.size w w5 := HU5.out.below (HBA.out.alloc HBA.out.size (.cells Y 41)) (by omega)
  have hYb : Blk w5 ((w.alloc (.cells X 39)).alloc (.cells #[.slice none 0 0] 25)).heap.size d.cells.toArray := by
    rw [hY.out]
    exact HU5.out.blk (Blk.new rfl) (by simp)
  refine bodyPost_ret (res_cellB rfl rfl HR5.out Try.underlying25 rfl hi1) rfl ⟨_, rfl, nodes_one hYb HOK.out, ?_, (fun a n c e => by cases e; omega), hb5⟩
  intro z l c e _
  cases e
  simp
  omega

/-- What Insert makes of a tree. -/
def slotAt (ns : List NdD) (i : Int) : Int := ((ns[i.toNat]?).map (fun d => d.b.slot)).getD 0

def insT (ns : List NdD) (x : BkD) (st : Int) : List NdD × Int :=
  if ¬ (0 ≤ st ∧ st ≤ 2) then ([], 2) else if 0 ≤ findN ns x.root then ([], 9) else if findN ns x.parent < 0 then ([], 10) else if x.slot ≤ slotAt ns (findN ns x.parent) then ([], 14) else if 4096 ≤ ns.length then ([], 11) else (ns ++ [⟨x, findN ns x.parent, st⟩], 0)

/-- The row behind a slice of nodes. -/
theorem NodesV.row {w : World} {a : Option Addr} {m cap : Nat} {ns : List NdD} (h : NodesV w (.slice a m cap) ns) :
    ∃ Xs, (∀ P u, AllEl NdEl P u Xs ns) ∧ (ns.length = 0 ∨ ∃ b off, a = some ⟨b, off, none⟩ ∧ b < w.heap.size ∧ w.rangeAt b off (rowsL Xs)) := by
  obtain ⟨a', cap', e, hl, hr⟩ := h
  cases e
  rcases hr with h0 | ⟨b, off, rfl, hlt, Xs, h1, h2⟩
  · obtain rfl := List.eq_nil_of_length_eq_zero h0
    exact ⟨[], fun P u => AllEl.nil _ _, .inl rfl⟩
  · exact ⟨Xs, fun P u => h2.imp fun X d hX => hX, .inr ⟨b, off, rfl, hlt, h1⟩⟩

theorem row_at {w u : World} {a : Option Addr} {n : Nat} {Ys : List (Array Value)} (h : n = 0 ∨ ∃ b off, a = some ⟨b, off, none⟩ ∧ b < w.heap.size ∧ w.rangeAt b off (rowsL Ys)) (hb : Below w.heap.size w u) : n = 0 ∨ ∃ b off, a = some ⟨b, off, none⟩ ∧ u.rangeAt b off (rowsL Ys) := by
  rcases h with h | ⟨b, off, e, hlt, hr⟩
  · exact .inl h
  · exact .inr ⟨b, off, e, Below.rng hb hlt hr⟩

theorem OwnEl.newEl {α : Type} {sz : Nat} {El : (Value → Prop) → World → Array Value → α → Prop} {e : TypeId} {w : World} {B : Nat} {v : Value} {ds : List α} (h : OwnEl El e sz w B v ds) : New B v := by
  obtain ⟨Xs, h3, _⟩ := h
  intro z l c e' _
  rcases h3.2 with ⟨rfl, _⟩ | ⟨s, cap, cur, rfl, hb, _⟩
  · cases e'
  · cases e'; exact hb

/-- The variables of Insert. -/
structure InsS (w : World) (T X Z : Array Value) (u : World) : Prop where
  t : Blk u w.heap.size T
  x : Blk u (w.heap.size + 1) X
  z : Blk u (w.heap.size + 2) Z
  b : Below w.heap.size w u

structure InsR (w : World) (T X : Array Value) (u : World) : Prop where
  t : Blk u w.heap.size T
  x : Blk u (w.heap.size + 1) X
  b : Below w.heap.size w u

theorem InsS.r {w u : World} {T X Z : Array Value} (h : InsS w T X Z u) : InsR w T X u := ⟨h.t, h.x, h.b⟩

theorem InsS.call {w u u' : World} {T X Z : Array Value} (h : InsS w T X Z u) (hb : Below u.heap.size u u') : InsS w T X Z u' := ⟨h.t.call hb, h.x.call hb, h.z.call hb, h.b.trans (hb.mono h.b.size)⟩

theorem grown_none {w w' : World} (h : w.grownBy w' none) : Below w.heap.size w w' := ⟨h.os, h.tape, h.output, h.size, fun k hk => h.block k hk (by simp)⟩

/-- What Insert promises. -/
def InsTE (ns : List NdD) (x : BkD) (st : Int) (w : World) (e : Ending) (w' : World) : Prop :=
  ∃ v', e = .returned (.tuple #[.agg #[v'], .int .i64 (insT ns x st).2]) ∧ NodesV w' v' (insT ns x st).1 ∧ New w.heap.size v' ∧ CapOK v' ∧ Below w.heap.size w w'

theorem nodes_nil (w : World) : NodesV w (.slice none 0 0) [] := ⟨none, 0, rfl, Nat.zero_le _, .inl rfl⟩

set_option maxHeartbeats 16000000 in
theorem insn_any (v : Value) (ns : List NdD) (x : BkD) (st : Int) (w : World) (hN : NodesV w v ns) (hx : x.ok) (hst : -9223372036854775808 ≤ st ∧ st ≤ 9223372036854775807) :
    Calls Try.prog 27 #[.agg #[v], .agg (flatP x.parts), .int .i64 st] w (InsTE ns x st w) := by
  obtain ⟨a, cap, rfl, hmx⟩ := hN.shape
  unfold maxLen at hmx
  have HN := Lib.hid hN
  have HX := Lib.hid hx
  have HST := Lib.hid hst
  have HFR := Lib.hid (fun u (hu : Below w.heap.size w u) => find_any _ ns x.root u (hN.call hu) hx.2.2.2.1)
  have HFP := Lib.hid (fun u (hu : Below w.heap.size w u) => find_any _ ns x.parent u (hN.call hu) hx.2.2.2.2.1)
  have HSS := Lib.hid (fun u => status_any st u)
  have hsX : (flatP x.parts).size = 238 := by rw [flatP_size, BkD.flen hx]
  have HBK : Hid (∀ u b, Blk u b (flatP x.parts) → BkAt u b 0 x) := fun u b hu => bk_at (Blk.rng hu) hx
  obtain ⟨X, hX⟩ : ∃ X, flatP x.parts = X := ⟨_, rfl⟩
  rw [hX] at HBK hsX ⊢
  have HXE := Lib.hid hX
  have hiX : (Try.prog.info? 39).map (·.size) = some X.size := by rw [hsX]; kernel_rfl
  have hi1 : (Try.prog.info? 25).map (·.size) = some 1 := by kernel_rfl
  have hir : (Try.prog.info? 31).map (·.size) = some (bytesL x.root).length := by rw [bytesL_len hx.2.2.2.1]; kernel_rfl
  have hip : (Try.prog.info? 31).map (·.size) = some (bytesL x.parent).length := by rw [bytesL_len hx.2.2.2.2.1]; kernel_rfl
  obtain ⟨hz1, hst1⟩ := zero_array (P := Try.prog) (t := 25) (n := 1) #[.slice none 0 0] (by kernel_rfl) rfl (by kernel_rfl)
  obtain ⟨m, hm⟩ : ∃ m, Hid (ns.length = m) := ⟨_, Lib.hid rfl⟩
  rw [hm.out] at hmx HFR HFP HN ⊢
  have S0 : Hid (InsS w #[.slice a m cap] X #[.slice none 0 0] (((w.alloc (.cells #[.slice a m cap] 25)).alloc (.cells X 39)).alloc (.cells #[.slice none 0 0] 25))) :=
    ⟨((Blk.new rfl).alloc _).alloc _, (Blk.new (by simp)).alloc _, Blk.new (by simp), (((Below.refl w.heap.size w).alloc (Nat.le_refl _) (.cells #[.slice a m cap] 25)).alloc (by simp) (.cells X 39)).alloc (by simp; omega) (.cells #[.slice none 0 0] 25)⟩
  obtain ⟨fr, hfr⟩ : ∃ z, findN ns x.root = z := ⟨_, rfl⟩
  obtain ⟨fp, hfp⟩ : ∃ z, findN ns x.parent = z := ⟨_, rfl⟩
  have hfpr := findN_rng ns x.parent
  rw [hfr] at HFR
  rw [hfp] at HFP hfpr
  rw [hm.out] at hfpr
  obtain ⟨R1, h1⟩ : ∃ z, bytesL x.root = z := ⟨_, rfl⟩
  obtain ⟨R2, h2⟩ : ∃ z, bytesL x.parent = z := ⟨_, rfl⟩
  have HB1 := Lib.hid h1
  have HB2 := Lib.hid h2
  rw [h1] at HFR hir
  rw [h2] at HFP hip
  clear hN hx hX hst1 h1 h2
  unfold InsTE
  obtain ⟨res, hres⟩ : ∃ z, insT ns x st = z := ⟨_, rfl⟩
  rw [hres]
  unfold insT at hres
  rw [hfr, hfp, hm.out] at hres
  by_cases hs : ¬ (0 ≤ st ∧ st ≤ 2)
  · skip
    rw [if_pos hs] at hres
    have hqs : Hid (decide (0 ≤ st ∧ st ≤ 2) = false) := decide_eq_false hs
    clear hs
    go_enter Try.func27, Try.ntmps27
    go_wp2_with (first
      | ((with_reducible refine at_build (some 12) ?_); refine wpList_build_g 25 _ rfl #[] (by simp) (.agg #[.slice none 0 0]) (bz_tree _) rfl ?_)
      | ((with_reducible refine at_store (.tmp 6) ?_); refine wpList_store_blk rfl 25 (.tmp 6) _ rfl (w.heap.size + 2) #[.slice none 0 0] rfl rfl #[.slice none 0 0] S1.out.z rfl hi1 (by simp [Value.oneCell']) ?_; intro w9 U9 B9; have HR9 := Lib.hid B9; have HB9 := Lib.hid (U9.below S1.out.b (by omega)); clear U9 B9)
      | (go_at_call 40; refine (HSS.out _).mono ?_; rintro e w1 ⟨rfl, hb1⟩; rw [hqs.out]; have S1 := Lib.hid (S0.out.call hb1); clear hb1)
      | fail)
    exact bodyPost_ret (res_cell_tmp rfl rfl rfl HR9.out Try.underlying25 rfl hi1) rfl ⟨_, by rw [← hres]; rfl, by rw [← hres]; exact nodes_nil _, New.nil _, CapOK.nil, HB9.out⟩
  rw [if_neg hs] at hres
  have hqs : Hid (decide (0 ≤ st ∧ st ≤ 2) = true) := decide_eq_true (Classical.not_not.1 hs)
  clear hs
  by_cases h9 : 0 ≤ fr
  · skip
    rw [if_pos h9] at hres
    have h9' : ¬ fr < 0 := by omega
    go_enter Try.func27, Try.ntmps27
    go_wp2_with (first
      | ((with_reducible refine at_build (some 18) ?_); refine wpList_build_g 25 _ rfl #[] (by simp) (.agg #[.slice none 0 0]) (bz_tree _) rfl ?_)
      | ((with_reducible refine at_store (.tmp 6) ?_); refine wpList_store_blk rfl 25 (.tmp 6) _ rfl (w.heap.size + 2) #[.slice none 0 0] rfl rfl #[.slice none 0 0] S2.out.z rfl hi1 (by simp [Value.oneCell']) ?_; intro w9 U9 B9; have HR9 := Lib.hid B9; have HB9 := Lib.hid (U9.below S2.out.b (by omega)); clear U9 B9)
      | (go_at_call 41; refine (HFR.out _ S1.out.b).mono ?_; rintro e w2 ⟨rfl, hb2⟩; have S2 := Lib.hid (S1.out.call hb2); clear hb2)
      | (go_at_call 40; refine (HSS.out _).mono ?_; rintro e w1 ⟨rfl, hb1⟩; rw [hqs.out]; have S1 := Lib.hid (S0.out.call hb1); clear hb1)
      | ((with_reducible refine at_load (.tmp 14) ?_); refine wpList_load_rng 31 (.tmp 14) rfl (w.heap.size + 1) 67 R1 (by have := (HBK.out _ _ S1.out.x).root; rw [Nat.zero_add, HB1.out] at this; exact this) rfl _ Try.underlying31 rfl hir rfl ?_)
      | ((with_reducible refine at_load (.tmp 3) ?_); refine wpList_load_g 25 (.tmp 3) rfl w.heap.size rfl #[.slice a m cap] _ S1.out.t Try.underlying25 rfl hi1 rfl ?_)
      | fail)
    exact bodyPost_ret (res_cell_tmp rfl rfl rfl HR9.out Try.underlying25 rfl hi1) rfl ⟨_, by rw [← hres]; rfl, by rw [← hres]; exact nodes_nil _, New.nil _, CapOK.nil, HB9.out⟩
  rw [if_neg h9] at hres
  have h9 : (0 ≤ fr) = False := eq_false h9
  by_cases h10 : fp < 0
  · skip
    rw [if_pos h10] at hres
    go_enter Try.func27, Try.ntmps27
    go_wp2_with (first
      | ((with_reducible refine at_load (.tmp 20) ?_); refine wpList_load_rng 31 (.tmp 20) rfl (w.heap.size + 1) 99 R2 (by have := (HBK.out _ _ S2.out.x).parent; rw [Nat.zero_add, HB2.out] at this; exact this) rfl _ Try.underlying31 rfl hip rfl ?_)
      | ((with_reducible refine at_load (.tmp 3) ?_); refine wpList_load_g 25 (.tmp 3) rfl w.heap.size rfl #[.slice a m cap] _ S2.out.t Try.underlying25 rfl hi1 rfl ?_)
      | ((with_reducible refine at_build (some 25) ?_); refine wpList_build_g 25 _ rfl #[] (by simp) (.agg #[.slice none 0 0]) (bz_tree _) rfl ?_)
      | ((with_reducible refine at_store (.tmp 6) ?_); refine wpList_store_blk rfl 25 (.tmp 6) _ rfl (w.heap.size + 2) #[.slice none 0 0] rfl rfl #[.slice none 0 0] S3.out.z rfl hi1 (by simp [Value.oneCell']) ?_; intro w9 U9 B9; have HR9 := Lib.hid B9; have HB9 := Lib.hid (U9.below S3.out.b (by omega)); clear U9 B9)
      | (go_at_call 41; refine (HFP.out _ S2.out.b).mono ?_; rintro e w3 ⟨rfl, hb3⟩; have S3 := Lib.hid (S2.out.call hb3); clear hb3)
      | (go_at_call 41; refine (HFR.out _ S1.out.b).mono ?_; rintro e w2 ⟨rfl, hb2⟩; have S2 := Lib.hid (S1.out.call hb2); clear hb2)
      | (go_at_call 40; refine (HSS.out _).mono ?_; rintro e w1 ⟨rfl, hb1⟩; rw [hqs.out]; have S1 := Lib.hid (S0.out.call hb1); clear hb1)
      | ((with_reducible refine at_load (.tmp 14) ?_); refine wpList_load_rng 31 (.tmp 14) rfl (w.heap.size + 1) 67 R1 (by have := (HBK.out _ _ S1.out.x).root; rw [Nat.zero_add, HB1.out] at this; exact this) rfl _ Try.underlying31 rfl hir rfl ?_)
      | ((with_reducible refine at_load (.tmp 3) ?_); refine wpList_load_g 25 (.tmp 3) rfl w.heap.size rfl #[.slice a m cap] _ S1.out.t Try.underlying25 rfl hi1 rfl ?_)
      | fail)
    exact bodyPost_ret (res_cell_tmp rfl rfl rfl HR9.out Try.underlying25 rfl hi1) rfl ⟨_, by rw [← hres]; rfl, by rw [← hres]; exact nodes_nil _, New.nil _, CapOK.nil, HB9.out⟩
  rw [if_neg h10] at hres
  obtain ⟨k, rfl⟩ : ∃ k : Nat, fp = k := ⟨fp.toNat, by omega⟩
  have h10' : ((k : Int) < 0) = False := eq_false h10
  clear h10
  have hk : k < m := by omega
  have hk' : (k : Int) < m := by omega
  have hkn : k < ns.length := by rw [hm.out]; exact hk
  obtain ⟨b, off, rfl, hlm, hbb, hna, hok⟩ := HN.out.elem hkn
  have hsl : slotAt ns (k : Int) = ns[k].b.slot := by simp [slotAt, List.getElem?_eq_getElem hkn]
  rw [hsl] at hres
  have HSL := Lib.hid hna.bk.slot
  obtain ⟨s1, hs1⟩ : ∃ z, ns[k].b.slot = z := ⟨_, rfl⟩
  obtain ⟨s0, hs0⟩ : ∃ z, x.slot = z := ⟨_, rfl⟩
  rw [hs1] at HSL hres
  rw [hs0] at hres
  have HS0 := Lib.hid hs0
  clear hna hok hsl hs1 hs0 hlm
  by_cases h14 : s0 ≤ s1
  · skip
    rw [if_pos h14] at hres
    go_enter Try.func27, Try.ntmps27
    go_wp2_with (first
      | ((with_reducible refine at_load (.tmp 20) ?_); refine wpList_load_rng 31 (.tmp 20) rfl (w.heap.size + 1) 99 R2 (by have := (HBK.out _ _ S2.out.x).parent; rw [Nat.zero_add, HB2.out] at this; exact this) rfl _ Try.underlying31 rfl hip rfl ?_)
      | ((with_reducible refine at_load (.tmp 3) ?_); refine wpList_load_g 25 (.tmp 3) rfl w.heap.size rfl #[.slice (some ⟨b, off, none⟩) m cap] _ S2.out.t Try.underlying25 rfl hi1 rfl ?_)
      | (go_at_call 41; refine (HFP.out _ S2.out.b).mono ?_; rintro e w3 ⟨rfl, hb3⟩; have S3 := Lib.hid (S2.out.call hb3); clear hb3)
      | (go_at_call 41; refine (HFR.out _ S1.out.b).mono ?_; rintro e w2 ⟨rfl, hb2⟩; have S2 := Lib.hid (S1.out.call hb2); clear hb2)
      | (go_at_call 40; refine (HSS.out _).mono ?_; rintro e w1 ⟨rfl, hb1⟩; rw [hqs.out]; have S1 := Lib.hid (S0.out.call hb1); clear hb1)
      | ((with_reducible refine at_load (.tmp 14) ?_); refine wpList_load_rng 31 (.tmp 14) rfl (w.heap.size + 1) 67 R1 (by have := (HBK.out _ _ S1.out.x).root; rw [Nat.zero_add, HB1.out] at this; exact this) rfl _ Try.underlying31 rfl hir rfl ?_)
      | ((with_reducible refine at_load (.tmp 3) ?_); refine wpList_load_g 25 (.tmp 3) rfl w.heap.size rfl #[.slice (some ⟨b, off, none⟩) m cap] _ S1.out.t Try.underlying25 rfl hi1 rfl ?_)
      | fail)
    refine wp_region_fam2 (by kernel_rfl) (by kernel_rfl) ?_
    intro T F hT hF hG
    have c0 : ∀ t, (F t).cell? ⟨w.heap.size, 0, none⟩ = some (.slice (some ⟨b, off, none⟩) m cap) := fun t => (S3.out.call (hF t)).t.cell 0
    have c1 : ∀ t, (F t).cell? ⟨w.heap.size + 1, 66, none⟩ = some (.int .u64 s0) := fun t => by
      have := (HBK.out _ _ (S3.out.call (hF t)).x).slot
      rw [Nat.zero_add, HS0.out] at this
      exact this
    have c2 : ∀ t, (F t).cell? ⟨b, off + k * 240 + 66, none⟩ = some (.int .u64 s1) := fun t => ((S3.out.call (hF t)).b.cell (p := ⟨b, off + k * 240 + 66, none⟩) hbb).trans HSL.out
    repeat (go_big_quiet_step (fail))
    refine wpQuiet_nil ?_
    rintro _ ⟨t, rfl⟩
    have S4 := Lib.hid (S3.out.call (hF t))
    obtain ⟨w4, hw4⟩ : ∃ u, F t = u := ⟨_, rfl⟩
    rw [hw4] at S4 ⊢
    clear c0 c1 c2 hG hw4 hF hT
    clear t F T
    go_wp2_with (first
      | ((with_reducible refine at_build (some 36) ?_); refine wpList_build_g 25 _ rfl #[] (by simp) (.agg #[.slice none 0 0]) (bz_tree _) rfl ?_)
      | ((with_reducible refine at_store (.tmp 6) ?_); refine wpList_store_blk rfl 25 (.tmp 6) _ rfl (w.heap.size + 2) #[.slice none 0 0] rfl rfl #[.slice none 0 0] S4.out.z rfl hi1 (by simp [Value.oneCell']) ?_; intro w9 U9 B9; have HR9 := Lib.hid B9; have HB9 := Lib.hid (U9.below S4.out.b (by omega)); clear U9 B9)
      | fail)
    exact bodyPost_ret (res_cell_tmp rfl rfl rfl HR9.out Try.underlying25 rfl hi1) rfl ⟨_, by rw [← hres]; rfl, by rw [← hres]; exact nodes_nil _, New.nil _, CapOK.nil, HB9.out⟩
  rw [if_neg h14] at hres
  have h14' : (s0 ≤ s1) = False := eq_false h14
  clear h14
  by_cases h11 : 4096 ≤ m
  · skip
    rw [if_pos h11] at hres
    have h11' : (4096 : Int) ≤ m := by omega
    go_enter Try.func27, Try.ntmps27
    go_wp2_with (first
      | ((with_reducible refine at_load (.tmp 20) ?_); refine wpList_load_rng 31 (.tmp 20) rfl (w.heap.size + 1) 99 R2 (by have := (HBK.out _ _ S2.out.x).parent; rw [Nat.zero_add, HB2.out] at this; exact this) rfl _ Try.underlying31 rfl hip rfl ?_)
      | ((with_reducible refine at_load (.tmp 3) ?_); refine wpList_load_g 25 (.tmp 3) rfl w.heap.size rfl #[.slice (some ⟨b, off, none⟩) m cap] _ S2.out.t Try.underlying25 rfl hi1 rfl ?_)
      | (go_at_call 41; refine (HFP.out _ S2.out.b).mono ?_; rintro e w3 ⟨rfl, hb3⟩; have S3 := Lib.hid (S2.out.call hb3); clear hb3)
      | (go_at_call 41; refine (HFR.out _ S1.out.b).mono ?_; rintro e w2 ⟨rfl, hb2⟩; have S2 := Lib.hid (S1.out.call hb2); clear hb2)
      | (go_at_call 40; refine (HSS.out _).mono ?_; rintro e w1 ⟨rfl, hb1⟩; rw [hqs.out]; have S1 := Lib.hid (S0.out.call hb1); clear hb1)
      | ((with_reducible refine at_load (.tmp 14) ?_); refine wpList_load_rng 31 (.tmp 14) rfl (w.heap.size + 1) 67 R1 (by have := (HBK.out _ _ S1.out.x).root; rw [Nat.zero_add, HB1.out] at this; exact this) rfl _ Try.underlying31 rfl hir rfl ?_)
      | ((with_reducible refine at_load (.tmp 3) ?_); refine wpList_load_g 25 (.tmp 3) rfl w.heap.size rfl #[.slice (some ⟨b, off, none⟩) m cap] _ S1.out.t Try.underlying25 rfl hi1 rfl ?_)
      | fail)
    refine wp_region_fam2 (by kernel_rfl) (by kernel_rfl) ?_
    intro T F hT hF hG
    have c0 : ∀ t, (F t).cell? ⟨w.heap.size, 0, none⟩ = some (.slice (some ⟨b, off, none⟩) m cap) := fun t => (S3.out.call (hF t)).t.cell 0
    have c1 : ∀ t, (F t).cell? ⟨w.heap.size + 1, 66, none⟩ = some (.int .u64 s0) := fun t => by
      have := (HBK.out _ _ (S3.out.call (hF t)).x).slot
      rw [Nat.zero_add, HS0.out] at this
      exact this
    have c2 : ∀ t, (F t).cell? ⟨b, off + k * 240 + 66, none⟩ = some (.int .u64 s1) := fun t => ((S3.out.call (hF t)).b.cell (p := ⟨b, off + k * 240 + 66, none⟩) hbb).trans HSL.out
    repeat (go_big_quiet_step (fail))
    refine wpQuiet_nil ?_
    rintro _ ⟨t, rfl⟩
    have S4 := Lib.hid (S3.out.call (hF t))
    obtain ⟨w4, hw4⟩ : ∃ u, F t = u := ⟨_, rfl⟩
    rw [hw4] at S4 ⊢
    clear c0 c1 c2 hG hw4 hF hT
    clear t F T
    go_wp2_with (first
      | ((with_reducible refine at_load (.tmp 37) ?_); refine wpList_load_1 23 (.tmp 37) rfl w.heap.size 0 (.slice (some ⟨b, off, none⟩) m cap) (S4.out.t.cell 0) rfl _ Try.underlying23 rfl rfl ?_)
      | ((with_reducible refine at_build (some 41) ?_); refine wpList_build_g 25 _ rfl #[] (by simp) (.agg #[.slice none 0 0]) (bz_tree _) rfl ?_)
      | ((with_reducible refine at_store (.tmp 6) ?_); refine wpList_store_blk rfl 25 (.tmp 6) _ rfl (w.heap.size + 2) #[.slice none 0 0] rfl rfl #[.slice none 0 0] S4.out.z rfl hi1 (by simp [Value.oneCell']) ?_; intro w9 U9 B9; have HR9 := Lib.hid B9; have HB9 := Lib.hid (U9.below S4.out.b (by omega)); clear U9 B9)
      | fail)
    exact bodyPost_ret (res_cell_tmp rfl rfl rfl HR9.out Try.underlying25 rfl hi1) rfl ⟨_, by rw [← hres]; rfl, by rw [← hres]; exact nodes_nil _, New.nil _, CapOK.nil, HB9.out⟩
  rw [if_neg h11] at hres
  have h11' : ((4096 : Int) ≤ m) = False := eq_false (by omega)
  go_enter Try.func27, Try.ntmps27
  go_wp2_with (first
    | ((with_reducible refine at_load (.tmp 20) ?_); refine wpList_load_rng 31 (.tmp 20) rfl (w.heap.size + 1) 99 R2 (by have := (HBK.out _ _ S2.out.x).parent; rw [Nat.zero_add, HB2.out] at this; exact this) rfl _ Try.underlying31 rfl hip rfl ?_)
    | ((with_reducible refine at_load (.tmp 3) ?_); refine wpList_load_g 25 (.tmp 3) rfl w.heap.size rfl #[.slice (some ⟨b, off, none⟩) m cap] _ S2.out.t Try.underlying25 rfl hi1 rfl ?_)
    | (go_at_call 41; refine (HFP.out _ S2.out.b).mono ?_; rintro e w3 ⟨rfl, hb3⟩; have S3 := Lib.hid (S2.out.call hb3); clear hb3)
    | (go_at_call 41; refine (HFR.out _ S1.out.b).mono ?_; rintro e w2 ⟨rfl, hb2⟩; have S2 := Lib.hid (S1.out.call hb2); clear hb2)
    | (go_at_call 40; refine (HSS.out _).mono ?_; rintro e w1 ⟨rfl, hb1⟩; rw [hqs.out]; have S1 := Lib.hid (S0.out.call hb1); clear hb1)
    | ((with_reducible refine at_load (.tmp 14) ?_); refine wpList_load_rng 31 (.tmp 14) rfl (w.heap.size + 1) 67 R1 (by have := (HBK.out _ _ S1.out.x).root; rw [Nat.zero_add, HB1.out] at this; exact this) rfl _ Try.underlying31 rfl hir rfl ?_)
    | ((with_reducible refine at_load (.tmp 3) ?_); refine wpList_load_g 25 (.tmp 3) rfl w.heap.size rfl #[.slice (some ⟨b, off, none⟩) m cap] _ S1.out.t Try.underlying25 rfl hi1 rfl ?_)
    | fail)
  refine wp_region_fam2 (by kernel_rfl) (by kernel_rfl) ?_
  intro T F hT hF hG
  have c0 : ∀ t, (F t).cell? ⟨w.heap.size, 0, none⟩ = some (.slice (some ⟨b, off, none⟩) m cap) := fun t => (S3.out.call (hF t)).t.cell 0
  have c1 : ∀ t, (F t).cell? ⟨w.heap.size + 1, 66, none⟩ = some (.int .u64 s0) := fun t => by
    have := (HBK.out _ _ (S3.out.call (hF t)).x).slot
    rw [Nat.zero_add, HS0.out] at this
    exact this
  have c2 : ∀ t, (F t).cell? ⟨b, off + k * 240 + 66, none⟩ = some (.int .u64 s1) := fun t => ((S3.out.call (hF t)).b.cell (p := ⟨b, off + k * 240 + 66, none⟩) hbb).trans HSL.out
  repeat (go_big_quiet_step (fail))
  refine wpQuiet_nil ?_
  rintro _ ⟨t, rfl⟩
  have S4 := Lib.hid (S3.out.call (hF t))
  obtain ⟨w4, hw4⟩ : ∃ u, F t = u := ⟨_, rfl⟩
  rw [hw4] at S4 ⊢
  clear c0 c1 c2 hG hw4 hF hT
  clear t F T
  go_wp2_with (first
    | ((with_reducible refine at_load (.tmp 37) ?_); refine wpList_load_1 23 (.tmp 37) rfl w.heap.size 0 (.slice (some ⟨b, off, none⟩) m cap) (S4.out.t.cell 0) rfl _ Try.underlying23 rfl rfl ?_)
    | fail)
  obtain ⟨Ys, hA, hrow⟩ := HN.out.row
  have HA := Lib.hid hA
  have HRW := Lib.hid hrow
  clear hA hrow
  have SD : Hid (InsS w #[.slice (some ⟨b, off, none⟩) m cap] X #[.slice none 0 0] w4.drew) := S4.out.call ⟨rfl, rfl, rfl, Nat.le_refl _, fun _ _ => rfl⟩
  have hdok : (⟨x, (k : Int), st⟩ : NdD).ok := ⟨HX.out, by show -9223372036854775808 ≤ (k : Int) ∧ (k : Int) ≤ 9223372036854775807; omega, HST.out⟩
  have HND := Lib.hid (fun u => build_nd x (k : Int) st HX.out u)
  obtain ⟨d, hd⟩ : ∃ d : NdD, Hid ((⟨x, (k : Int), st⟩ : NdD) = d) := ⟨_, Lib.hid rfl⟩
  rw [hd.out] at HND hdok
  obtain ⟨Y, hY⟩ : ∃ Y, Hid (d.cells.toArray = Y) := ⟨_, Lib.hid rfl⟩
  have hsY : Hid (Y.size = 240) := by show Y.size = 240; rw [← hY.out, List.size_toArray, NdD.len hdok]
  rw [hY.out, HXE.out] at HND
  have HDOK := Lib.hid hdok
  clear hdok
  refine wp_region_held_drew (S := fun z => InsR w #[.slice (some ⟨b, off, none⟩) m cap] X z) (by kernel_rfl) (SD.out.r) (fun _ => ?_)
  (try simp only [Act.put, List.setIfInBounds_toArray, List.set_cons_zero, List.set_cons_succ])
  refine wpAnyH_take (i := 0) (oi := ⟨some 42, _, _, _, _, _⟩) (v := .pointer (some ⟨w.heap.size, 0, none⟩)) rfl (by kernel_rfl) (by kernel_rfl) (by kernel_rfl) (fun _ _ _ h => h) (Or.inl ⟨by rfl, fun wz hz => ?_⟩) SD.out.r ?_
  · clear hz; go_simp; first | done | with_reducible rfl | rfl
  (try simp only [Act.put, List.setIfInBounds_toArray, List.set_cons_zero, List.set_cons_succ])
  refine held_load1 (oi := ⟨some 43, _, _, _, _, _⟩) 1 rfl (by kernel_rfl) (by kernel_rfl) (by kernel_rfl) (fun _ _ _ _ h => h) rfl 23 (.tmp 42) rfl w.heap.size (0) rfl (.slice (some ⟨b, off, none⟩) m cap) _ (fun u' hu => hu.t.cell 0) Try.underlying23 rfl SD.out.r ?_
  (try simp only [Act.put, List.setIfInBounds_toArray, List.set_cons_zero, List.set_cons_succ])
  refine held_load (oi := ⟨some 45, _, _, _, _, _⟩) 3 rfl (by kernel_rfl) (by kernel_rfl) (by kernel_rfl) (fun _ _ _ _ h => h) rfl 39 (.tmp 4) rfl (w.heap.size + 1) 0 rfl X.toList _ (fun u' hu => hu.x.range) Try.underlying39 rfl (by simpa using hiX) SD.out.r ?_
  simp only [Array.toArray_toList]
  (try simp only [Act.put, List.setIfInBounds_toArray, List.set_cons_zero, List.set_cons_succ])
  refine wpAnyH_take (i := 4) (oi := ⟨some 46, _, _, _, _, _⟩) (v := .int .i64 k) rfl (by kernel_rfl) (by kernel_rfl) (by kernel_rfl) (fun _ _ _ h => h) (Or.inl ⟨by rfl, fun wz hz => ?_⟩) SD.out.r ?_
  · clear hz; go_simp; first | done | with_reducible rfl | rfl
  (try simp only [Act.put, List.setIfInBounds_toArray, List.set_cons_zero, List.set_cons_succ])
  refine wpAnyH_take (i := 5) (oi := ⟨some 47, _, _, _, _, _⟩) (v := .int .i64 st) rfl (by kernel_rfl) (by kernel_rfl) (by kernel_rfl) (fun _ _ _ h => h) (Or.inl ⟨by rfl, fun wz hz => ?_⟩) SD.out.r ?_
  · clear hz; go_simp; first | done | with_reducible rfl | rfl
  (try simp only [Act.put, List.setIfInBounds_toArray, List.set_cons_zero, List.set_cons_succ])
  refine held_build (oi := ⟨some 48, _, _, _, _, _⟩) 6 rfl (by kernel_rfl) (by kernel_rfl) (by kernel_rfl) (fun _ _ _ _ h => h) rfl 41 _ rfl #[(0, .agg X), (1, .int .i64 k), (2, .int .i64 st)] (by simp [Act.eval]) (.agg Y) (HND.out) SD.out.r ?_
  (try simp only [Act.put, List.setIfInBounds_toArray, List.set_cons_zero, List.set_cons_succ])
  refine wpAnyH_ready (rs := [2, 7]) (by kernel_rfl) (by simp) ?_
  refine AllReadyH.cons (o := ⟨some 44, _, _, _, _, _⟩) rfl (fun K hK => ?_) (AllReadyH.cons (o := ⟨some 49, _, _, _, _, _⟩) rfl (fun K hK => ?_) AllReadyH.nil)
  · skip
    refine wp_appEls ndOK Try.underlying23 info_node (by rfl) (by omega) (.const (.slice none 0 0)) (.tmp 43) rfl (w.heap.size + 3) (.slice none 0 0) [] rfl (OwnEl.nil _ _) (some ⟨b, off, none⟩) m cap ns Ys rfl hm.out (row_at HRW.out SD.out.b) (HA.out _ _) (by simp [hm.out]; omega) (by simp [hm.out]; unfold maxLen; omega) (by have := SD.out.z.lt; simp at this ⊢; omega) ?_
    intro v3 w3' ho3 hg3 _
    rw [List.nil_append] at ho3
    have HO3 := Lib.hid ho3
    have HG3 := Lib.hid (grown_none hg3)
    have S5 := Lib.hid (SD.out.call HG3.out)
    clear ho3 hg3
    refine hK.out _ _ (S5.out.r) (fun _ => ?_)
    clear hK K
    (try simp only [Act.put, List.setIfInBounds_toArray, List.set_cons_zero, List.set_cons_succ])
    refine wpAnyH_ready (rs := [7]) (by kernel_rfl) (by simp) ?_
    refine AllReadyH.cons (o := ⟨some 49, _, _, _, _, _⟩) rfl (fun K hK => ?_) AllReadyH.nil
    refine wp_buildSlice 23 1 _ rfl #[(0, .agg Y)] (by simp [Act.eval, Act.put]) _ (bel_node hsY.out w3') ?_
    have hal : Below (w3').heap.size (w3') ((w3').alloc (.cells Y 41)) := (Below.refl _ _).alloc (Nat.le_refl _) _
    have HAL := Lib.hid hal
    clear hal
    have HO6 := Lib.hid (HO3.out.call ndOK HAL.out)
    have S6 := Lib.hid (S5.out.call HAL.out)
    have BY6 : Hid (Blk (w3'.alloc (.cells Y 41)) w3'.heap.size Y) := Blk.new rfl
    refine hK.out _ _ (S6.out.r) (fun _ => ?_)
    clear hK K
    (try simp only [Act.put, List.setIfInBounds_toArray, List.set_cons_zero, List.set_cons_succ])
    refine wpAnyH_ready (rs := [8]) (by kernel_rfl) (by simp) ?_
    refine AllReadyH.cons (o := ⟨some 50, _, _, _, _, _⟩) rfl (fun K hK => ?_) AllReadyH.nil
    refine wp_appEl ndOK Try.underlying23 info_node (by rfl) (by omega) (.tmp 44) (.tmp 49) rfl (w.heap.size + 3) v3 ns rfl HO6.out w3'.heap.size 1 Y d rfl ⟨hY.out.symm, HDOK.out⟩ BY6.out.range (by simp [hm.out]; omega) (by simp [hm.out]; unfold maxLen; omega) (by have := S6.out.z.lt; omega) ?_
    intro v8 w8 ho8 hg8 _
    have HO8 := Lib.hid ho8
    have S8 : Hid (InsS w #[.slice (some ⟨b, off, none⟩) m cap] X #[.slice none 0 0] w8) := (by
      have hne : ∀ j, j < w.heap.size + 3 → some j ≠ v3.ownBlock := fun j hj e => by have := (HO6.out.lt j e.symm).1; omega
      exact ⟨S6.out.t.grown hg8 (hne _ (by omega)), S6.out.x.grown hg8 (hne _ (by omega)), S6.out.z.grown hg8 (hne _ (by omega)), S6.out.b.grown hg8 S6.out.b.size (fun j hj => by have := (HO6.out.lt j hj).1; omega)⟩)
    clear ho8 hg8
    refine hK.out _ _ (S8.out.r) (fun _ => ?_)
    clear hK K
    (try simp only [Act.put, List.setIfInBounds_toArray, List.set_cons_zero, List.set_cons_succ])
    
    obtain ⟨va, vn, vcap, hv8⟩ : ∃ va vn vcap, v8 = .slice va vn vcap := by obtain ⟨p, q, e, _⟩ := HO8.out.shape; exact ⟨p, _, q, e⟩
    rw [hv8] at HO8 ⊢
    clear hv8
    refine held_build (oi := ⟨some 51, _, _, _, _, _⟩) 9 rfl (by kernel_rfl) (by kernel_rfl) (by kernel_rfl) (fun _ _ _ _ h => h) rfl 25 _ rfl #[(0, .slice va vn vcap)] (by simp [Act.eval]) (.agg #[.slice va vn vcap]) (fun u => b_tree va vn vcap u) S8.out.r ?_
    (try simp only [Act.put, List.setIfInBounds_toArray, List.set_cons_zero, List.set_cons_succ])
    refine wpAnyH_ready (rs := [10]) (by kernel_rfl) (by simp) ?_
    refine AllReadyH.cons (o := ⟨none, _, _, _, _, _⟩) rfl (fun K hK => ?_) AllReadyH.nil
    refine wp_store_blk 25 (.tmp 6) _ rfl (w.heap.size + 2) #[.slice va vn vcap] rfl rfl #[.slice none 0 0] S8.out.z rfl hi1 (by simp [Value.oneCell']) ?_
    intro w9 U9 B9
    have HR9 := Lib.hid B9
    have HU9 := Lib.hid U9
    have HB9 := Lib.hid (U9.below S8.out.b (by omega))
    clear U9 B9
    have R9 : Hid (InsR w #[.slice (some ⟨b, off, none⟩) m cap] X w9) := ⟨HU9.out.blk S8.out.t (by omega), HU9.out.blk S8.out.x (by omega), HB9.out⟩
    refine hK.out _ _ (R9.out) (fun _ => ?_)
    clear hK K
    (try simp only [Act.put, List.setIfInBounds_toArray, List.set_cons_zero, List.set_cons_succ])
    refine wpAnyH_ready (rs := [11]) (by kernel_rfl) (by simp) ?_
    refine AllReadyH.cons (o := ⟨some 7, _, _, _, _, _⟩) rfl (fun K hK => ?_) AllReadyH.nil
    go_simp
    refine hK.out _ _ (R9.out) (fun _ => ?_)
    clear hK K
    (try simp only [Act.put, List.setIfInBounds_toArray, List.set_cons_zero, List.set_cons_succ])
    refine wpAnyH_done (by kernel_rfl) ?_ _
    have HO9 := HO8.out.grown ndOK (upd_grown HU9.out) (fun n hn e => by have := (HO8.out.lt n hn).1; cases e; omega) (fun X d h => h)
    go_wp2_with fail
    refine bodyPost_ret (res_cell_tmp rfl rfl rfl HR9.out Try.underlying25 rfl hi1) rfl ⟨_, by rw [← hres]; rfl, ?_, ?_, ?_, HB9.out⟩
    · rw [← hres]
      show NodesV w9 _ (ns ++ [⟨x, (k : Int), st⟩])
      rw [hd.out]
      exact HO9.elV ndOK
    · exact HO8.out.newEl.mono (by omega)
    · intro a n c e
      obtain ⟨a', c', e', _, hle, _⟩ := HO8.out.shape
      rw [e'] at e; cases e; exact hle
  · skip
    refine wp_buildSlice 23 1 _ rfl #[(0, .agg Y)] (by simp [Act.eval, Act.put]) _ (bel_node hsY.out w4.drew) ?_
    have hal : Below (w4.drew).heap.size (w4.drew) ((w4.drew).alloc (.cells Y 41)) := (Below.refl _ _).alloc (Nat.le_refl _) _
    have HAL := Lib.hid hal
    clear hal
    have S5' := Lib.hid (SD.out.call HAL.out)
    have BY5 : Hid (Blk (w4.drew.alloc (.cells Y 41)) w4.drew.heap.size Y) := Blk.new rfl
    refine hK.out _ _ (S5'.out.r) (fun _ => ?_)
    clear hK K
    (try simp only [Act.put, List.setIfInBounds_toArray, List.set_cons_zero, List.set_cons_succ])
    refine wpAnyH_ready (rs := [2]) (by kernel_rfl) (by simp) ?_
    refine AllReadyH.cons (o := ⟨some 44, _, _, _, _, _⟩) rfl (fun K hK => ?_) AllReadyH.nil
    refine wp_appEls ndOK Try.underlying23 info_node (by rfl) (by omega) (.const (.slice none 0 0)) (.tmp 43) rfl (w.heap.size + 3) (.slice none 0 0) [] rfl (OwnEl.nil _ _) (some ⟨b, off, none⟩) m cap ns Ys rfl hm.out (row_at HRW.out S5'.out.b) (HA.out _ _) (by simp [hm.out]; omega) (by simp [hm.out]; unfold maxLen; omega) (by have := S5'.out.z.lt; simp at this ⊢; omega) ?_
    intro v3 w3' ho3 hg3 _
    rw [List.nil_append] at ho3
    have HO3 := Lib.hid ho3
    have HG3 := Lib.hid (grown_none hg3)
    have S5 := Lib.hid (S5'.out.call HG3.out)
    have BY6 := Lib.hid (BY5.out.call HG3.out)
    clear ho3 hg3
    refine hK.out _ _ (S5.out.r) (fun _ => ?_)
    clear hK K
    (try simp only [Act.put, List.setIfInBounds_toArray, List.set_cons_zero, List.set_cons_succ])
    refine wpAnyH_ready (rs := [8]) (by kernel_rfl) (by simp) ?_
    refine AllReadyH.cons (o := ⟨some 50, _, _, _, _, _⟩) rfl (fun K hK => ?_) AllReadyH.nil
    refine wp_appEl ndOK Try.underlying23 info_node (by rfl) (by omega) (.tmp 44) (.tmp 49) rfl (w.heap.size + 3) v3 ns rfl HO3.out w4.drew.heap.size 1 Y d rfl ⟨hY.out.symm, HDOK.out⟩ BY6.out.range (by simp [hm.out]; omega) (by simp [hm.out]; unfold maxLen; omega) (by have := S5.out.z.lt; omega) ?_
    intro v8 w8 ho8 hg8 _
    have HO8 := Lib.hid ho8
    have S8 : Hid (InsS w #[.slice (some ⟨b, off, none⟩) m cap] X #[.slice none 0 0] w8) := (by
      have hne : ∀ j, j < w.heap.size + 3 → some j ≠ v3.ownBlock := fun j hj e => by have := (HO3.out.lt j e.symm).1; omega
      exact ⟨S5.out.t.grown hg8 (hne _ (by omega)), S5.out.x.grown hg8 (hne _ (by omega)), S5.out.z.grown hg8 (hne _ (by omega)), S5.out.b.grown hg8 S5.out.b.size (fun j hj => by have := (HO3.out.lt j hj).1; omega)⟩)
    clear ho8 hg8
    refine hK.out _ _ (S8.out.r) (fun _ => ?_)
    clear hK K
    (try simp only [Act.put, List.setIfInBounds_toArray, List.set_cons_zero, List.set_cons_succ])
    
    obtain ⟨va, vn, vcap, hv8⟩ : ∃ va vn vcap, v8 = .slice va vn vcap := by obtain ⟨p, q, e, _⟩ := HO8.out.shape; exact ⟨p, _, q, e⟩
    rw [hv8] at HO8 ⊢
    clear hv8
    refine held_build (oi := ⟨some 51, _, _, _, _, _⟩) 9 rfl (by kernel_rfl) (by kernel_rfl) (by kernel_rfl) (fun _ _ _ _ h => h) rfl 25 _ rfl #[(0, .slice va vn vcap)] (by simp [Act.eval]) (.agg #[.slice va vn vcap]) (fun u => b_tree va vn vcap u) S8.out.r ?_
    (try simp only [Act.put, List.setIfInBounds_toArray, List.set_cons_zero, List.set_cons_succ])
    refine wpAnyH_ready (rs := [10]) (by kernel_rfl) (by simp) ?_
    refine AllReadyH.cons (o := ⟨none, _, _, _, _, _⟩) rfl (fun K hK => ?_) AllReadyH.nil
    refine wp_store_blk 25 (.tmp 6) _ rfl (w.heap.size + 2) #[.slice va vn vcap] rfl rfl #[.slice none 0 0] S8.out.z rfl hi1 (by simp [Value.oneCell']) ?_
    intro w9 U9 B9
    have HR9 := Lib.hid B9
    have HU9 := Lib.hid U9
    have HB9 := Lib.hid (U9.below S8.out.b (by omega))
    clear U9 B9
    have R9 : Hid (InsR w #[.slice (some ⟨b, off, none⟩) m cap] X w9) := ⟨HU9.out.blk S8.out.t (by omega), HU9.out.blk S8.out.x (by omega), HB9.out⟩
    refine hK.out _ _ (R9.out) (fun _ => ?_)
    clear hK K
    (try simp only [Act.put, List.setIfInBounds_toArray, List.set_cons_zero, List.set_cons_succ])
    refine wpAnyH_ready (rs := [11]) (by kernel_rfl) (by simp) ?_
    refine AllReadyH.cons (o := ⟨some 7, _, _, _, _, _⟩) rfl (fun K hK => ?_) AllReadyH.nil
    go_simp
    refine hK.out _ _ (R9.out) (fun _ => ?_)
    clear hK K
    (try simp only [Act.put, List.setIfInBounds_toArray, List.set_cons_zero, List.set_cons_succ])
    refine wpAnyH_done (by kernel_rfl) ?_ _
    have HO9 := HO8.out.grown ndOK (upd_grown HU9.out) (fun n hn e => by have := (HO8.out.lt n hn).1; cases e; omega) (fun X d h => h)
    go_wp2_with fail
    refine bodyPost_ret (res_cell_tmp rfl rfl rfl HR9.out Try.underlying25 rfl hi1) rfl ⟨_, by rw [← hres]; rfl, ?_, ?_, ?_, HB9.out⟩
    · rw [← hres]
      show NodesV w9 _ (ns ++ [⟨x, (k : Int), st⟩])
      rw [hd.out]
      exact HO9.elV ndOK
    · exact HO8.out.newEl.mono (by omega)
    · intro a n c e
      obtain ⟨a', c', e', _, hle, _⟩ := HO8.out.shape
      rw [e'] at e; cases e; exact hle
end

/-! TrD -/
section
set_option linter.unusedVariables false
set_option linter.unusedSimpArgs false
open Go.RowKit

/-- A valid closed tree. -/
structure TrOK (ns : List NdD) : Prop where
  pos : 0 < ns.length
  root : ∀ h : 0 < ns.length, ns[0].up = -1
  up : ∀ i (hi : i < ns.length), 0 < i → ∃ u : Nat, ∃ hu : u < ns.length, u < i ∧ ns[i].up = u ∧ ns[i].b.parent = ns[u].b.root ∧ ns[u].b.slot < ns[i].b.slot ∧ (ns[i].st = 1 → ns[u].st = 1) ∧ (ns[u].st = 2 → ns[i].st = 2)
  ne : ∀ i j (hi : i < ns.length) (hj : j < ns.length), i < j → ns[i].b.root ≠ ns[j].b.root
  st : ∀ i (hi : i < ns.length), 0 ≤ ns[i].st ∧ ns[i].st ≤ 2

theorem TrOK.one (x : BkD) (st : Int) (h : 0 ≤ st ∧ st ≤ 2) : TrOK [⟨x, -1, st⟩] where
  pos := by simp
  root := fun _ => rfl
  up := fun i hi h0 => by simp at hi; omega
  ne := fun i j hi hj h => by simp at hi hj; omega
  st := fun i hi => by
    obtain rfl : i = 0 := by simpa using hi
    exact h

theorem TrOK.find {ns : List NdD} (h : TrOK ns) {q : Nat} (hq : q < ns.length) : findN ns ns[q].b.root = q := by
  rcases findN_spec ns ns[q].b.root with ⟨_, h2⟩ | ⟨k, hk, h1, h2, h3⟩
  · exact absurd rfl (h2 q hq)
  · rw [h1]
    by_cases e : k = q
    · rw [e]
    · rcases Nat.lt_or_gt_of_ne e with hl | hl
      · exact absurd h2 (h.ne k q hk hq hl)
      · exact absurd rfl (h3 q hl hq)

theorem insT_cases {ns : List NdD} {x : BkD} {st : Int} (he : (insT ns x st).2 = 0) : findN ns x.root < 0 ∧ 0 ≤ findN ns x.parent ∧ slotAt ns (findN ns x.parent) < x.slot ∧ ns.length < 4096 ∧ (insT ns x st).1 = ns ++ [⟨x, findN ns x.parent, st⟩] := by
  unfold insT at he ⊢
  split at he
  · cases he
  · rename_i h1
    split at he
    · cases he
    · rename_i h2
      split at he
      · cases he
      · rename_i h3
        split at he
        · cases he
        · rename_i h4
          split at he
          · cases he
          · rename_i h5
            rw [if_neg h1, if_neg h2, if_neg h3, if_neg h4, if_neg h5]
            exact ⟨by omega, by omega, by omega, by omega, rfl⟩

theorem insT_bad {ns : List NdD} {x : BkD} {st : Int} (he : (insT ns x st).2 ≠ 0) : (insT ns x st).1 = [] := by
  unfold insT at he ⊢
  split
  · rfl
  · split
    · rfl
    · split
      · rfl
      · split
        · rfl
        · split
          · rfl
          · rename_i h1 h2 h3 h4 h5
            rw [if_neg h1, if_neg h2, if_neg h3, if_neg h4, if_neg h5] at he
            exact absurd rfl he

theorem TrOK.add {ns : List NdD} (h : TrOK ns) {q : Nat} (hq : q < ns.length) {x : BkD} {st : Int} (hp : x.parent = ns[q].b.root) (hst : 0 ≤ st ∧ st ≤ 2) (c1 : st = 1 → ns[q].st = 1) (c2 : ns[q].st = 2 → st = 2) (he : (insT ns x st).2 = 0) :
    (insT ns x st).1 = ns ++ [⟨x, q, st⟩] ∧ TrOK (ns ++ [⟨x, q, st⟩]) := by
  obtain ⟨h1, h2, h3, h4, h5⟩ := insT_cases he
  have hf : findN ns x.parent = q := by rw [hp]; exact h.find hq
  rw [hf] at h3 h5
  have hs : slotAt ns (q : Int) = ns[q].b.slot := by simp [slotAt, List.getElem?_eq_getElem hq]
  rw [hs] at h3
  refine ⟨h5, ⟨by simp, fun _ => ?_, fun i hi h0 => ?_, fun i j hi hj hij => ?_, fun i hi => ?_⟩⟩
  · rw [List.getElem_append_left h.pos]; exact h.root h.pos
  · by_cases hil : i < ns.length
    · obtain ⟨u, hu, a1, a2, a3, a4, a5, a6⟩ := h.up i hil h0
      refine ⟨u, by simp; omega, a1, ?_⟩
      rw [List.getElem_append_left hil, List.getElem_append_left hu]
      exact ⟨a2, a3, a4, a5, a6⟩
    · obtain rfl : i = ns.length := by simp at hi; omega
      refine ⟨q, by simp; omega, hq, ?_⟩
      rw [List.getElem_append_right (Nat.le_refl _), List.getElem_append_left hq]
      simp only [Nat.sub_self, List.getElem_cons_zero]
      exact ⟨by trivial, hp, h3, c1, c2⟩
  · have hil : i < ns.length := by simp at hj; omega
    rw [List.getElem_append_left hil]
    by_cases hjl : j < ns.length
    · rw [List.getElem_append_left hjl]; exact h.ne i j hil hjl hij
    · obtain rfl : j = ns.length := by simp at hj; omega
      rw [List.getElem_append_right (Nat.le_refl _)]
      simp only [Nat.sub_self, List.getElem_cons_zero]
      rcases findN_spec ns x.root with ⟨_, b2⟩ | ⟨k, hk, b1, _, _⟩
      · exact b2 i hil
      · rw [b1] at h1; omega
  · by_cases hil : i < ns.length
    · rw [List.getElem_append_left hil]; exact h.st i hil
    · obtain rfl : i = ns.length := by simp at hi; omega
      rw [List.getElem_append_right (Nat.le_refl _)]
      simpa using hst

theorem NodesV.off {w : World} {v : Value} {ns : List NdD} (h : NodesV w v ns) {g : Nat} (hg : w.heap.size ≤ g) : Off g v := by
  obtain ⟨a, cap, rfl, hl, hr⟩ := h
  intro z l c e h0
  cases e
  rcases hr with h1 | ⟨b, off, e, hb, _⟩
  · omega
  · cases e; simp only; omega

theorem NodesV.grownOff {w w' : World} {v : Value} {ns : List NdD} {g : Nat} (h : NodesV w v ns) (hg : w.grownBy w' (some g)) (ho : Off g v) : NodesV w' v ns := by
  obtain ⟨a, cap, rfl, hl, hr⟩ := h
  refine ⟨a, cap, rfl, hl, ?_⟩
  rcases hr with h0 | ⟨b, off, rfl, hlt, Xs, h1, h2⟩
  · exact .inl h0
  · by_cases h0 : ns.length = 0
    · exact .inl h0
    have hne : some b ≠ some g := fun e => ho _ _ _ rfl (by omega) (by cases e; rfl)
    exact .inr ⟨b, off, rfl, Nat.lt_of_lt_of_le hlt hg.size, Xs, fun j u hj => by rw [hg.cell_far ⟨b, off + j, none⟩ hlt hne]; exact h1 j u hj, h2.imp fun X d hX => hX⟩

/-- The variables of Tree: its result in block P, the tree in block B. -/
structure TrV (w : World) (P B : Nat) (s : Value) (ns : List NdD) (u : World) : Prop where
  r : Blk u P #[.slice none 0 0]
  t : Blk u B #[s]
  n : NodesV u s ns
  o1 : Off P s
  o2 : Off B s
  b : Below w.heap.size w u
  lt : P < B
  eq : P = w.heap.size
  cap : CapOK s

theorem TrV.call {w u u' : World} {P B : Nat} {s : Value} {ns : List NdD} (h : TrV w P B s ns u) (hb : Below u.heap.size u u') : TrV w P B s ns u' := ⟨h.r.call hb, h.t.call hb, h.n.call hb, h.o1, h.o2, h.b.trans (hb.mono h.b.size), h.lt, h.eq, h.cap⟩

/-- Another block that is younger was written. -/
theorem TrV.upd {w u u' : World} {P B g : Nat} {s : Value} {ns : List NdD} (h : TrV w P B s ns u) (U : Upd g u u') (hg : B < g) (ho : Off g s) : TrV w P B s ns u' :=
  ⟨U.blk h.r (by have := h.lt; omega), U.blk h.t (by omega), h.n.grownOff (upd_grown U) ho, h.o1, h.o2, U.below h.b (by have h1 := h.lt; have h2 := h.eq; omega), h.lt, h.eq, h.cap⟩
end

/-! EvA -/
section
set_option linter.unusedVariables false
set_option linter.unusedSimpArgs false
open Go.RowKit

set_option maxRecDepth 100000

theorem getD_at {l : List Int} {k : Nat} (hk : k < l.length) : l.getD k 0 = l[k] := by simp [List.getD, List.getElem?_eq_getElem hk]

/-- Element k of a slice of ints. -/
theorem IntsV.at {w : World} {a : Option Addr} {len cap : Nat} {l : List Int} (h : IntsV w (.slice a len cap) l) {k : Nat} (hk : k < l.length) :
    ∃ b off, a = some ⟨b, off, none⟩ ∧ b < w.heap.size ∧ w.cell? ⟨b, off + k, none⟩ = some (.int .i64 (l.getD k 0)) := by
  obtain ⟨⟨a', n, c, e, hl, hm, hr⟩, _⟩ := h
  cases e
  rcases hr with h0 | ⟨b, off, rfl, hb, hc⟩
  · omega
  · exact ⟨b, off, rfl, hb, hc k (by omega)⟩

theorem IntsV.len {w : World} {a : Option Addr} {len cap : Nat} {l : List Int} (h : IntsV w (.slice a len cap) l) : l.length = len ∧ len ≤ maxLen := by
  obtain ⟨⟨a', n, c, e, hl, hm, hr⟩, _⟩ := h
  cases e
  exact ⟨hl, hm⟩

set_option maxHeartbeats 4000000 in
theorem has_any (v : Value) (l : List Int) (n : Int) (w : World) (h : IntsV w v l) :
    Calls Try.prog 35 #[v, .int .i64 n] w fun e w' => e = .returned (.bool (decide (n ∈ l))) ∧ Below w.heap.size w w' := by
  obtain ⟨a, len, cap, rfl⟩ := ints_shape' h.1
  have HI := Lib.hid h
  have HL := Lib.hid h.len
  have hmx := h.len.2
  unfold maxLen at hmx
  obtain ⟨q, hq⟩ : ∃ q, Hid (decide (n ∈ l) = q) := ⟨_, Lib.hid rfl⟩
  rw [hq.out]
  clear h
  go_enter Try.func35, Try.ntmps35
  go_wp2_with fail
  go_loopw [5] (fun i wr => ∃ k : Nat, k ≤ len ∧ i = .int .i64 k ∧ (∀ j, j < k → l.getD j 0 ≠ n) ∧ Below w.heap.size w wr) (fun i _ => len - (intOf i).toNat)
  case atStart => exact ⟨0, Nat.zero_le _, rfl, fun j hj => by omega, Below.refl _ _⟩
  case round =>
    obtain ⟨k, hk, rfl, hno, hbl⟩ := hrel
    have HNO := Lib.hid hno
    have HBL := Lib.hid hbl
    clear hno hbl
    by_cases hlt : k < len
    case neg =>
      obtain rfl : k = len := by omega
      have hqf : q = false := by
        rw [← hq.out]
        simp only [decide_eq_false_iff_not]
        intro hmem
        obtain ⟨j, hj, e⟩ := List.mem_iff_getElem.1 hmem
        exact HNO.out j (by rw [← HL.out.1]; exact hj) (by rw [getD_at hj]; exact e)
      go_wp2_with fail
      go_ret
      exact ⟨by rw [hqf]; rfl, HBL.out⟩
    have hlt' : (k : Int) < len := by omega
    obtain ⟨b, off, rfl, hb, hc⟩ := HI.out.at (k := k) (by rw [HL.out.1]; exact hlt)
    have HC := Lib.hid ((HBL.out.cell (p := ⟨b, off + k, none⟩) hb).trans hc)
    obtain ⟨x, hx⟩ : ∃ x, Hid (l.getD k 0 = x) := ⟨_, Lib.hid rfl⟩
    rw [hx.out] at HC
    clear hc
    by_cases hxn : x = n
    · have hb' : (x == n) = true := by simpa using hxn
      have hqt : q = true := by
        rw [← hq.out]
        simp only [decide_eq_true_eq]
        rw [← hxn, ← hx.out]
        exact getD_mem (by rw [HL.out.1]; exact hlt)
      clear hxn
      go_wp2_with (first
        | ((with_reducible refine at_load (.tmp 14) ?_); refine wpList_load_1 3 (.tmp 14) rfl b (off + k) (.int .i64 x) HC.out rfl _ Try.underlying3 rfl rfl ?_))
      go_ret
      exact ⟨by rw [hqt]; rfl, HBL.out⟩
    · have hb' : (x == n) = false := by simpa using hxn
      have HXN := Lib.hid hxn
      clear hxn
      go_wp2_with (first
        | ((with_reducible refine at_load (.tmp 14) ?_); refine wpList_load_1 3 (.tmp 14) rfl b (off + k) (.int .i64 x) HC.out rfl _ Try.underlying3 rfl rfl ?_))
      go_roundw
      case rel => exact ⟨k + 1, by omega, by go_num, fun j hj => by rcases Nat.lt_succ_iff_lt_or_eq.1 hj with h | rfl; exact HNO.out j h; rw [hx.out]; exact HXN.out, HBL.out⟩
      case measure => simp [intOf]; omega

/-- A number is inserted into an ascending list. -/
def insI : List Int → Int → List Int
  | [], n => [n]
  | x :: l, n => if x < n then x :: insI l n else if x = n then x :: l else n :: x :: l

theorem insI_at : ∀ {l : List Int} {n : Int} {k : Nat}, k ≤ l.length → (∀ j, j < k → l.getD j 0 < n) → (k < l.length → n ≤ l.getD k 0) → insI l n = if k < l.length ∧ l.getD k 0 = n then l else l.take k ++ n :: l.drop k
  | [], n, k, hk, _, _ => by
    obtain rfl : k = 0 := by simpa using hk
    simp [insI]
  | x :: l, n, 0, _, _, h => by
    have h0 := h (by simp)
    simp at h0
    unfold insI
    rw [if_neg (by omega)]
    by_cases e : x = n <;> simp [e]
  | x :: l, n, k + 1, hk, h1, h2 => by
    have hx := h1 0 (by omega)
    simp at hx
    unfold insI
    rw [if_pos hx, insI_at (l := l) (n := n) (k := k) (by simpa using hk) (fun j hj => by simpa using h1 (j + 1) (by omega)) (fun hkl => by simpa using h2 (by simpa using hkl))]
    by_cases e : k < l.length ∧ l.getD k 0 = n
    · rw [if_pos e, if_pos (by simpa using e)]
    · rw [if_neg e, if_neg (by simpa using e)]
      simp

theorem insI_mem : ∀ {l : List Int} {n x : Int}, x ∈ insI l n ↔ x = n ∨ x ∈ l
  | [], n, x => by simp [insI]
  | y :: l, n, x => by
    unfold insI
    split
    · rw [List.mem_cons, insI_mem, List.mem_cons]
      constructor
      · rintro (h | h | h)
        · exact .inr (.inl h)
        · exact .inl h
        · exact .inr (.inr h)
      · rintro (h | h | h)
        · exact .inr (.inl h)
        · exact .inl h
        · exact .inr (.inr h)
    · split
      · rename_i e
        rw [List.mem_cons, e]
        constructor
        · rintro (h | h)
          · exact .inl h
          · exact .inr (.inr h)
        · rintro (h | h | h)
          · exact .inl h
          · exact .inl h
          · exact .inr h
      · rw [List.mem_cons]

theorem insI_len : ∀ (l : List Int) (n : Int), l.length ≤ (insI l n).length ∧ (insI l n).length ≤ l.length + 1
  | [], n => by simp [insI]
  | y :: l, n => by
    have := insI_len l n
    unfold insI
    split
    · simp only [List.length_cons]; omega
    · split <;> simp only [List.length_cons] <;> omega

theorem insI_has {l : List Int} {n : Int} (hs : l.Pairwise (· < ·)) (h : n ∈ l) : insI l n = l := by
  induction l with
  | nil => cases h
  | cons y l ih =>
    rw [List.pairwise_cons] at hs
    unfold insI
    rcases List.mem_cons.1 h with rfl | h
    · rw [if_neg (by omega), if_pos rfl]
    · rw [if_pos (hs.1 _ h), ih hs.2 h]

theorem insI_sorted {l : List Int} {n : Int} (hs : l.Pairwise (· < ·)) : (insI l n).Pairwise (· < ·) := by
  induction l with
  | nil => simp [insI]
  | cons y l ih =>
    rw [List.pairwise_cons] at hs
    unfold insI
    split
    · rename_i hy
      rw [List.pairwise_cons]
      refine ⟨fun x hx => ?_, ih hs.2⟩
      rcases insI_mem.1 hx with rfl | h
      · exact hy
      · exact hs.1 x h
    · split
      · rw [List.pairwise_cons]; exact hs
      · rename_i h1 h2
        rw [List.pairwise_cons, List.pairwise_cons]
        refine ⟨fun x hx => ?_, hs⟩
        rcases List.mem_cons.1 hx with rfl | h
        · omega
        · have := hs.1 x h; omega

theorem insI_new {l : List Int} {n : Int} (hs : l.Pairwise (· < ·)) (h : n ∉ l) : (insI l n).length = l.length + 1 := by
  induction l with
  | nil => simp [insI]
  | cons y l ih =>
    rw [List.pairwise_cons] at hs
    have hy : y ≠ n := fun e => h (by rw [e]; simp)
    unfold insI
    by_cases hlt : y < n
    · rw [if_pos hlt, List.length_cons, ih hs.2 (fun hm => h (List.mem_cons_of_mem _ hm)), List.length_cons]
    · rw [if_neg hlt, if_neg hy]; simp
end

/-! EvB -/
section
set_option linter.unusedVariables false
set_option linter.unusedSimpArgs false
open Go.RowKit

set_option maxRecDepth 100000

theorem size_int (w : World) : (sizeOf 3).run Try.prog w = .ok 1 w := Try.sizeOf3 w

/-- What Insert promises. -/
def InsE (v : Value) (l : List Int) (n : Int) (w : World) (e : Ending) (w' : World) : Prop :=
  ∃ v', e = .returned v' ∧ IntsV w' v' (insI l n) ∧ CapOK v' ∧ (∀ N, N ≤ w.heap.size → New N v → New N v') ∧ Below w.heap.size w w'

theorem insI_rng {l : List Int} {n : Int} (hl : ∀ x ∈ l, -9223372036854775808 ≤ x ∧ x ≤ 9223372036854775807) (hn : -9223372036854775808 ≤ n ∧ n ≤ 9223372036854775807) : ∀ x ∈ insI l n, -9223372036854775808 ≤ x ∧ x ≤ 9223372036854775807 := fun x hx => by
  rcases insI_mem.1 hx with rfl | h
  · exact hn
  · exact hl x h

theorem one_ints (n : Int) (u : World) : Ints .i64 (u.alloc (.cells #[.int .i64 n] 3)) (.slice (some ⟨u.heap.size, 0, none⟩) 1 1) [n] :=
  ⟨_, 1, 1, rfl, rfl, by unfold maxLen; omega, .inr ⟨u.heap.size, 0, rfl, by simp, fun i hi => by
    obtain rfl : i = 0 := by omega
    exact (Blk.new rfl).cell 0⟩⟩
end

/-! So -/
section
set_option linter.unusedVariables false
set_option linter.unusedSimpArgs false
open Go.RowKit

set_option maxRecDepth 100000

/-- What Some's loop holds. -/
def SomeI (w : World) (v i : Value) (n : Nat) (wr : World) : Prop :=
  ∃ (k : Nat) (l : List Int), k ≤ n ∧ i = .int .i64 k ∧ l.length ≤ k ∧ ((∀ x ∈ l, 0 ≤ x ∧ x < k) ∧ l.Pairwise (· < ·)) ∧ OwnK .i64 3 wr w.heap.size v l ∧ Below w.heap.size w wr

theorem own_one (w : World) (B : Nat) (x : Int) (h : B ≤ w.heap.size) : OwnK .i64 3 (w.alloc (.cells #[.int .i64 x] 3)) B (.slice (some ⟨w.heap.size, 0, none⟩) 1 1) [x] :=
  World.ownsRow_lit w #[.int .i64 x] 1 h (by unfold maxLen; omega) rfl

theorem vl_sorted {l : List Int} {n : Int} (h0 : l ≠ []) (h : ∀ x ∈ l, 0 ≤ x ∧ x < n) (hs : l.Pairwise (· < ·)) : vlE l n = 0 := by
  refine vl_of (Nat.pos_of_ne_zero fun e => h0 (List.eq_nil_of_length_eq_zero e)) fun i hi => ?_
  have e : ∀ j (hj : j < l.length), l.getD j 0 = l[j] := fun j hj => by simp [List.getD, List.getElem?_eq_getElem hj]
  obtain ⟨h1, h2⟩ := h l[i] (List.getElem_mem hi)
  refine ⟨by rw [e i hi]; exact h1, by rw [e i hi]; exact h2, fun h3 => ?_⟩
  rw [e i hi, e (i - 1) (by omega)]
  exact List.pairwise_iff_getElem.1 hs _ _ _ _ (by omega)
end

/-! Pas -/
section
set_option linter.unusedVariables false
set_option linter.unusedSimpArgs false
open Go.RowKit

/-- The tree's variable, and what was before. -/
structure PaS (w : World) (T : Array Value) (u : World) : Prop where
  t : Blk u w.heap.size T
  b : Below w.heap.size w u

theorem PaS.call {w u u' : World} {T : Array Value} (h : PaS w T u) (hb : Below u.heap.size u u') : PaS w T u' := ⟨h.t.call hb, h.b.trans (hb.mono h.b.size)⟩

theorem PaS.grown {w u u' : World} {T : Array Value} {row : Option Nat} (h : PaS w T u) (hg : u.grownBy u' row) (hr : ∀ j, row = some j → w.heap.size < j) : PaS w T u' := ⟨h.t.grown hg (fun e => by have := hr _ e.symm; omega), h.b.grown hg h.b.size (fun j hj => by have := hr j hj; omega)⟩

theorem pas_new (w : World) (T : Array Value) (t : TypeId) : PaS w T (w.alloc (.cells T t)) := ⟨Blk.new rfl, (Below.refl w.heap.size w).alloc (Nat.le_refl _) (.cells T t)⟩
end

/-! TrF -/
section
set_option linter.unusedVariables false
set_option linter.unusedSimpArgs false
open Go.RowKit

set_option maxRecDepth 100000

/-- The path from the root to a node. -/
def upAt (ns : List NdD) (i : Nat) : Nat := (((ns[i]?).map NdD.up).getD 0).toNat

def pathF (ns : List NdD) : Nat → Nat → List Int
  | 0, _ => []
  | f + 1, i => if i = 0 then [0] else pathF ns f (upAt ns i) ++ [(i : Int)]

def pathN (ns : List NdD) (i : Int) : List Int := if 0 ≤ i ∧ i < ns.length then pathF ns (i.toNat + 1) i.toNat else []

theorem TrOK.upAt {ns : List NdD} (h : TrOK ns) {i : Nat} (hi : i < ns.length) (h0 : 0 < i) : upAt ns i < i ∧ upAt ns i < ns.length ∧ ns[i].up = upAt ns i := by
  obtain ⟨u, hu, h1, h2, _⟩ := h.up i hi h0
  have e : Go.Proofs.Ytdmjpmigejpkmaa.upAt ns i = u := by simp [Go.Proofs.Ytdmjpmigejpkmaa.upAt, List.getElem?_eq_getElem hi, h2]
  rw [e]
  exact ⟨h1, hu, h2⟩

/-- Fuel beyond the index changes nothing. -/
theorem pathF_two {ns : List NdD} (h : TrOK ns) : ∀ i, i < ns.length → ∀ f g, i + 1 ≤ f → i + 1 ≤ g → pathF ns f i = pathF ns g i := by
  intro i
  induction i using Nat.strongRecOn with
  | ind i ih =>
    intro hi f g hf hg
    obtain ⟨f', rfl⟩ : ∃ f', f = f' + 1 := ⟨f - 1, by omega⟩
    obtain ⟨g', rfl⟩ : ∃ g', g = g' + 1 := ⟨g - 1, by omega⟩
    show (if i = 0 then [0] else pathF ns f' (upAt ns i) ++ [(i : Int)]) = (if i = 0 then [0] else pathF ns g' (upAt ns i) ++ [(i : Int)])
    by_cases h0 : i = 0
    · rw [if_pos h0, if_pos h0]
    · rw [if_neg h0, if_neg h0]
      obtain ⟨h1, h2, _⟩ := h.upAt hi (by omega)
      rw [ih _ h1 h2 f' g' (by omega) (by omega)]

theorem pathN_zero {ns : List NdD} (h : 0 < ns.length) : pathN ns (0 : Int) = [0] := by unfold pathN; rw [if_pos (by omega)]; rfl

theorem pathN_step {ns : List NdD} (h : TrOK ns) {i : Nat} (hi : i < ns.length) (h0 : 0 < i) : pathN ns (i : Int) = pathN ns (upAt ns i : Int) ++ [(i : Int)] := by
  obtain ⟨h1, h2, _⟩ := h.upAt hi h0
  unfold pathN
  rw [if_pos (by omega), if_pos (by omega)]
  show (if i = 0 then [0] else pathF ns i (upAt ns i) ++ [(i : Int)]) = _
  rw [if_neg (by omega), pathF_two h _ h2 i ((upAt ns i : Int).toNat + 1) (by omega) (by omega)]
  rfl

theorem pathN_out {ns : List NdD} {i : Int} (h : ¬ (0 ≤ i ∧ i < ns.length)) : pathN ns i = [] := by unfold pathN; rw [if_neg h]

theorem pathF_len (ns : List NdD) : ∀ f i, (pathF ns f i).length ≤ f
  | 0, _ => by simp [pathF]
  | f + 1, i => by
    have := pathF_len ns f (upAt ns i)
    show (if i = 0 then [0] else pathF ns f (upAt ns i) ++ [(i : Int)]).length ≤ _
    split
    · simp
    · simp; omega

theorem pathN_len (ns : List NdD) (i : Int) : (pathN ns i).length ≤ ns.length := by
  unfold pathN
  split
  · have := pathF_len ns (i.toNat + 1) i.toNat; omega
  · simp

/-- The nodes of a path: each is in the tree, and none is behind the last one. -/
theorem pathN_mem {ns : List NdD} (h : TrOK ns) : ∀ i : Nat, i < ns.length → ∀ x ∈ pathN ns (i : Int), 0 ≤ x ∧ x ≤ i := by
  intro i
  induction i using Nat.strongRecOn with
  | ind i ih =>
    intro hi x hx
    by_cases h0 : i = 0
    · subst h0
      rw [show ((0 : Nat) : Int) = 0 from rfl, pathN_zero h.pos] at hx
      rw [List.mem_singleton.1 hx]; omega
    · rw [pathN_step h hi (by omega)] at hx
      obtain ⟨h1, h2, _⟩ := h.upAt hi (by omega)
      rcases List.mem_append.1 hx with hm | hm
      · have := ih _ h1 h2 x hm; omega
      · rw [List.mem_singleton.1 hm]; omega

theorem pathN_rng {ns : List NdD} (h : TrOK ns) (i : Int) : ∀ x ∈ pathN ns i, 0 ≤ x ∧ x < ns.length := by
  intro x hx
  by_cases hi : 0 ≤ i ∧ i < ns.length
  · obtain ⟨k, rfl⟩ : ∃ k : Nat, i = k := ⟨i.toNat, by omega⟩
    have := pathN_mem h k (by omega) x hx; omega
  · rw [pathN_out hi] at hx; cases hx

theorem OwnK.lower {k : IntKind} {e : TypeId} {w : World} {B B' : Nat} {v : Value} {xs : List Int} (h : OwnK k e w B v xs) (hB : B' ≤ B) : OwnK k e w B' v xs := by
  refine ⟨h.1, ?_⟩
  rcases h.2 with h' | ⟨g, cap, cur, e', h2, h3⟩
  · exact .inl h'
  · exact .inr ⟨g, cap, cur, e', Nat.le_trans hB h2, h3⟩

/-- What Path promises. -/
def PathE (ns : List NdD) (i : Int) (w : World) (e : Ending) (w' : World) : Prop :=
  ∃ v', e = .returned v' ∧ OwnK .i64 3 w' w.heap.size v' (pathN ns i) ∧ Below w.heap.size w w'

set_option maxHeartbeats 8000000 in
theorem path_out (v : Value) (ns : List NdD) (i : Int) (w : World) (hN : NodesV w v ns) (hi : ¬ (0 ≤ i ∧ i < ns.length)) :
    Calls Try.prog 39 #[.agg #[v], .int .i64 i] w (PathE ns i w) := by
  have HIS := Lib.hid (fun u (hu : Below w.heap.size w u) => isn_any v ns i u (hN.call hu))
  have HD : Hid (decide (0 ≤ i ∧ i < (ns.length : Int)) = false) := decide_eq_false hi
  have S0 := Lib.hid (pas_new w #[v] 25)
  have hi1 : (Try.prog.info? 25).map (·.size) = some 1 := by kernel_rfl
  have HP := Lib.hid (pathN_out hi)
  clear hN hi
  go_enter Try.func39, Try.ntmps39
  go_wp2_with (first
    | ((with_reducible refine at_load (.tmp 2) ?_); refine wpList_load_g 25 (.tmp 2) rfl w.heap.size rfl #[v] _ S0.out.t Try.underlying25 rfl hi1 rfl ?_)
    | (go_at_call 43; refine (HIS.out _ S0.out.b).mono ?_; rintro e w1 ⟨rfl, hb1⟩; rw [HD.out]; have S1 := Lib.hid (S0.out.call hb1); clear hb1))
  go_ret
  exact ⟨_, rfl, by rw [HP.out]; exact OwnK.nil _ _ _ _, S1.out.b⟩

set_option maxHeartbeats 16000000 in
theorem path_in (ns : List NdD) (hok : TrOK ns) (hlen : ns.length ≤ 100000) : ∀ (i : Nat) (hi : i < ns.length) (v : Value) (w : World) (hN : NodesV w v ns),
    Calls Try.prog 39 #[.agg #[v], .int .i64 i] w (PathE ns i w) := by
  intro i
  induction i using Nat.strongRecOn with
  | ind i ih =>
    intro hi v w hN
    obtain ⟨a, cap, rfl, hmx⟩ := hN.shape
    unfold maxLen at hmx
    have HIS := Lib.hid (fun u (hu : Below w.heap.size w u) => isn_any _ ns i u (hN.call hu))
    have HD : Hid (decide (0 ≤ (i : Int) ∧ (i : Int) < (ns.length : Int)) = true) := decide_eq_true (by omega)
    have HN := Lib.hid hN
    have HOK := Lib.hid hok
    have HLM := Lib.hid hlen
    have HII := Lib.hid info_int
    have hi1 : (Try.prog.info? 25).map (·.size) = some 1 := by kernel_rfl
    obtain ⟨m, hm⟩ : ∃ m, Hid (ns.length = m) := ⟨_, Lib.hid rfl⟩
    rw [hm.out] at hmx HIS HN ⊢
    have S0 := Lib.hid (pas_new w #[.slice a m cap] 25)
    by_cases h0 : i = 0
    · subst h0
      have HP : Hid (pathN ns ((0 : Nat) : Int) = [0]) := pathN_zero hok.pos
      clear hN ih hi hok
      go_enter Try.func39, Try.ntmps39
      go_wp2_with (first
        | ((with_reducible refine at_load (.tmp 2) ?_); refine wpList_load_g 25 (.tmp 2) rfl w.heap.size rfl #[.slice a m cap] _ S0.out.t Try.underlying25 rfl hi1 rfl ?_)
        | (go_at_call 43; refine (HIS.out _ S0.out.b).mono ?_; rintro e w1 ⟨rfl, hb1⟩; rw [hm.out] at HD; rw [HD.out]; have S1 := Lib.hid (S0.out.call hb1); clear hb1))
      go_ret
      exact ⟨_, rfl, by rw [HP.out]; exact own_one _ _ _ S1.out.b.size, S1.out.b.alloc S1.out.b.size _⟩
    · have hz : ((i : Int) == 0) = false := by simp; omega
      obtain ⟨hu1, hu2, hu3⟩ := hok.upAt hi (by omega)
      have HP := Lib.hid (pathN_step hok hi (by omega))
      have HIH := Lib.hid (fun z (hz : NodesV z (.slice a ns.length cap) ns) => ih (upAt ns i) hu1 hu2 _ z hz)
      have HLE := Lib.hid (pathN_len ns (upAt ns i : Int))
      obtain ⟨b, off, rfl, hlm, hbb, hna, _⟩ := HN.out.elem hi
      have HUP := Lib.hid hna.up
      rw [hu3] at HUP
      obtain ⟨u, hu⟩ : ∃ u, upAt ns i = u := ⟨_, rfl⟩
      rw [hu] at HUP HIH HP HLE
      have hik : (i : Int) < m := by rw [← hm.out]; omega
      rw [hm.out] at HD hi HIH
      clear hN ih hok hlm hna hu1 hu2 hu3 hu h0
      go_enter Try.func39, Try.ntmps39
      go_wp2_with (first
        | ((with_reducible refine at_load (.tmp 2) ?_); refine wpList_load_g 25 (.tmp 2) rfl w.heap.size rfl #[.slice (some ⟨b, off, none⟩) m cap] _ S0.out.t Try.underlying25 rfl hi1 rfl ?_)
        | (go_at_call 43; refine (HIS.out _ S0.out.b).mono ?_; rintro e w1 ⟨rfl, hb1⟩; rw [HD.out]; have S1 := Lib.hid (S0.out.call hb1); clear hb1))
      have SD : Hid (PaS w #[.slice (some ⟨b, off, none⟩) m cap] w1.drew) := S1.out.call ⟨rfl, rfl, rfl, Nat.le_refl _, fun _ _ => rfl⟩
      refine wp_region_held_drew (S := fun z => PaS w #[.slice (some ⟨b, off, none⟩) m cap] z) (by kernel_rfl) (SD.out) (fun _ => ?_)
      (try simp only [Act.put, List.setIfInBounds_toArray, List.set_cons_zero, List.set_cons_succ])
      refine held_load (oi := ⟨some 12, _, _, _, _, _⟩) 0 rfl (by kernel_rfl) (by kernel_rfl) (by kernel_rfl) (fun _ _ _ _ h => h) rfl 25 (.tmp 2) rfl w.heap.size 0 rfl [.slice (some ⟨b, off, none⟩) m cap] _ (fun u' hu => hu.t.rng) Try.underlying25 rfl hi1 SD.out ?_
      (try simp only [Act.put, List.setIfInBounds_toArray, List.set_cons_zero, List.set_cons_succ])
      refine wpAnyH_take (i := 1) (oi := ⟨some 13, _, _, _, _, _⟩) (v := .pointer (some ⟨w.heap.size, 0, none⟩)) rfl (by kernel_rfl) (by kernel_rfl) (by kernel_rfl) (fun _ _ _ h => h) (Or.inl ⟨by rfl, fun wz hz => ?_⟩) SD.out ?_
      · clear hz; go_simp; first | done | with_reducible rfl | rfl
      (try simp only [Act.put, List.setIfInBounds_toArray, List.set_cons_zero, List.set_cons_succ])
      refine held_load1 (oi := ⟨some 14, _, _, _, _, _⟩) 2 rfl (by kernel_rfl) (by kernel_rfl) (by kernel_rfl) (fun _ _ _ _ h => h) rfl 23 (.tmp 13) rfl w.heap.size (0) rfl (.slice (some ⟨b, off, none⟩) m cap) _ (fun u' hu => hu.t.cell 0) Try.underlying23 rfl SD.out ?_
      (try simp only [Act.put, List.setIfInBounds_toArray, List.set_cons_zero, List.set_cons_succ])
      refine wpAnyH_take (i := 3) (oi := ⟨some 15, _, _, _, _, _⟩) (v := .int .i64 i) rfl (by kernel_rfl) (by kernel_rfl) (by kernel_rfl) (fun _ _ _ h => h) (Or.inl ⟨by rfl, fun wz hz => ?_⟩) SD.out ?_
      · clear hz; go_simp; first | done | with_reducible rfl | rfl
      (try simp only [Act.put, List.setIfInBounds_toArray, List.set_cons_zero, List.set_cons_succ])
      refine wpAnyH_take (i := 4) (oi := ⟨some 16, _, _, _, _, _⟩) (v := .pointer (some ⟨b, off + i * 240, none⟩)) rfl (by kernel_rfl) (by kernel_rfl) (by kernel_rfl) (fun _ _ _ h => h) (Or.inl ⟨by rfl, fun wz hz => ?_⟩) SD.out ?_
      · clear hz; go_simp; first | done | with_reducible rfl | rfl
      (try simp only [Act.put, List.setIfInBounds_toArray, List.set_cons_zero, List.set_cons_succ])
      refine wpAnyH_take (i := 5) (oi := ⟨some 17, _, _, _, _, _⟩) (v := .pointer (some ⟨b, off + i * 240 + 238, none⟩)) rfl (by kernel_rfl) (by kernel_rfl) (by kernel_rfl) (fun _ _ _ h => h) (Or.inl ⟨by rfl, fun wz hz => ?_⟩) SD.out ?_
      · clear hz; go_simp; first | done | with_reducible rfl | rfl
      (try simp only [Act.put, List.setIfInBounds_toArray, List.set_cons_zero, List.set_cons_succ])
      refine held_load1 (oi := ⟨some 18, _, _, _, _, _⟩) 6 rfl (by kernel_rfl) (by kernel_rfl) (by kernel_rfl) (fun _ _ _ _ h => h) rfl 3 (.tmp 17) rfl b (off + i * 240 + 238) rfl (.int .i64 (u : Int)) _ (fun u' hu => (hu.b.cell (p := ⟨b, off + i * 240 + 238, none⟩) hbb).trans HUP.out) Try.underlying3 rfl SD.out ?_
      (try simp only [Act.put, List.setIfInBounds_toArray, List.set_cons_zero, List.set_cons_succ])
      refine wpAnyH_take (i := 8) (oi := ⟨some 20, _, _, _, _, _⟩) (v := .int .i64 i) rfl (by kernel_rfl) (by kernel_rfl) (by kernel_rfl) (fun _ _ _ h => h) (Or.inl ⟨by rfl, fun wz hz => ?_⟩) SD.out ?_
      · clear hz; go_simp; first | done | with_reducible rfl | rfl
      (try simp only [Act.put, List.setIfInBounds_toArray, List.set_cons_zero, List.set_cons_succ])
      refine wpAnyH_ready (rs := [7, 9]) (by kernel_rfl) (by simp) ?_
      refine AllReadyH.cons (o := ⟨some 19, _, _, _, _, _⟩) rfl (fun K hK => ?_) (AllReadyH.cons (o := ⟨some 21, _, _, _, _, _⟩) rfl (fun K hK => ?_) AllReadyH.nil)
      · skip
        have HSZ : Hid (w1.drew.heap.size ≤ w1.drew.heap.size) := Nat.le_refl _
        go_simp
        refine (HIH.out w1.drew (HN.out.call SD.out.b)).mono ?_
        rintro e w3 ⟨v3, rfl, ho3, hb3⟩
        have HO3 := Lib.hid ho3
        have HB3 := Lib.hid hb3
        have S3 := Lib.hid (SD.out.call hb3)
        clear ho3 hb3
        refine hK.out _ _ (S3.out) (fun _ => ?_)
        clear hK K
        (try simp only [Act.put, List.setIfInBounds_toArray, List.set_cons_zero, List.set_cons_succ])
        refine wpAnyH_ready (rs := [9]) (by kernel_rfl) (by simp) ?_
        refine AllReadyH.cons (o := ⟨some 21, _, _, _, _, _⟩) rfl (fun K hK => ?_) AllReadyH.nil
        refine wp_buildSlice 22 1 _ rfl #[(0, .int .i64 i)] (by simp [Act.eval, Act.put]) _ (bs_int i w3) ?_
        have hal : Below w3.heap.size w3 (w3.alloc (.cells #[.int .i64 (i : Int)] 3)) := (Below.refl _ _).alloc (Nat.le_refl _) _
        have HO4 := Lib.hid (HO3.out.call hal)
        have S4 := Lib.hid (S3.out.call hal)
        have HN4 : Hid (Ints .i64 (w3.alloc (.cells #[.int .i64 (i : Int)] 3)) (.slice (some ⟨w3.heap.size, 0, none⟩) 1 1) [(i : Int)]) := one_ints _ _
        have HBM : Hid (w1.drew.heap.size ≤ (w3.alloc (.cells #[.int .i64 (i : Int)] 3)).heap.size) := by have := HB3.out.size; have := hal.size; show _ ≤ _; omega
        clear hal
        refine hK.out _ _ (S4.out) (fun _ => ?_)
        clear hK K
        (try simp only [Act.put, List.setIfInBounds_toArray, List.set_cons_zero, List.set_cons_succ])
        refine wpAnyH_ready (rs := [10]) (by kernel_rfl) (by simp) ?_
        refine AllReadyH.cons (o := ⟨some 22, _, _, _, _, _⟩) rfl (fun K hK => ?_) AllReadyH.nil
        refine (fun hgo => wp_appK HII.out (by omega) Try.underlying22 (.tmp 19) (.tmp 21) rfl w1.drew.heap.size v3 (pathN ns (u : Int)) rfl HO4.out (.slice (some ⟨w3.heap.size, 0, none⟩) 1 1) [(i : Int)] rfl HN4.out (by have := HLE.out; have := HLM.out; simp; omega) (by first | exact Nat.le_refl _ | exact HB3.out.size | exact HBM.out) hgo) ?_
        intro v8 w8 ho8 hg8 _
        rw [← HP.out] at ho8
        have HO8 := Lib.hid ho8
        have S8 := Lib.hid (S4.out.grown hg8 (fun j hj => by have := (HO4.out.lt j hj).1; have := SD.out.t.lt; have := HSZ.out; omega))
        clear ho8 hg8
        refine hK.out _ _ (S8.out) (fun _ => ?_)
        clear hK K
        (try simp only [Act.put, List.setIfInBounds_toArray, List.set_cons_zero, List.set_cons_succ])
        refine wpAnyH_ready (rs := [11]) (by kernel_rfl) (by simp) ?_
        refine AllReadyH.cons (o := ⟨some 4, _, _, _, _, _⟩) rfl (fun K hK => ?_) AllReadyH.nil
        go_simp
        refine hK.out _ _ (S8.out) (fun _ => ?_)
        clear hK K
        (try simp only [Act.put, List.setIfInBounds_toArray, List.set_cons_zero, List.set_cons_succ])
        refine wpAnyH_done (by kernel_rfl) ?_ _
        go_wp2_with fail
        go_ret
        exact ⟨_, rfl, OwnK.lower HO8.out (by have := SD.out.b.size; have := HSZ.out; omega), S8.out.b⟩
      · skip
        refine wp_buildSlice 22 1 _ rfl #[(0, .int .i64 i)] (by simp [Act.eval, Act.put]) _ (bs_int i w1.drew) ?_
        have hal : Below w1.drew.heap.size w1.drew (w1.drew.alloc (.cells #[.int .i64 (i : Int)] 3)) := (Below.refl _ _).alloc (Nat.le_refl _) _
        have S4 := Lib.hid (SD.out.call hal)
        have HN4 : Hid (Ints .i64 (w1.drew.alloc (.cells #[.int .i64 (i : Int)] 3)) (.slice (some ⟨w1.drew.heap.size, 0, none⟩) 1 1) [(i : Int)]) := one_ints _ _
        have HSZ := Lib.hid hal.size
        clear hal
        refine hK.out _ _ (S4.out) (fun _ => ?_)
        clear hK K
        (try simp only [Act.put, List.setIfInBounds_toArray, List.set_cons_zero, List.set_cons_succ])
        refine wpAnyH_ready (rs := [7]) (by kernel_rfl) (by simp) ?_
        refine AllReadyH.cons (o := ⟨some 19, _, _, _, _, _⟩) rfl (fun K hK => ?_) AllReadyH.nil
        go_simp
        refine (HIH.out (w1.drew.alloc (.cells #[.int .i64 (i : Int)] 3)) (HN.out.call S4.out.b)).mono ?_
        rintro e w3 ⟨v3, rfl, ho3, hb3⟩
        have HO3 := Lib.hid ho3
        have HB3 := Lib.hid hb3
        have S3 := Lib.hid (S4.out.call hb3)
        clear ho3 hb3
        have HN5 := Lib.hid (HN4.out.below HB3.out)
        have HBM : Hid ((w1.drew.alloc (.cells #[.int .i64 (i : Int)] 3)).heap.size ≤ w3.heap.size) := HB3.out.size
        refine hK.out _ _ (S3.out) (fun _ => ?_)
        clear hK K
        (try simp only [Act.put, List.setIfInBounds_toArray, List.set_cons_zero, List.set_cons_succ])
        refine wpAnyH_ready (rs := [10]) (by kernel_rfl) (by simp) ?_
        refine AllReadyH.cons (o := ⟨some 22, _, _, _, _, _⟩) rfl (fun K hK => ?_) AllReadyH.nil
        refine (fun hgo => wp_appK HII.out (by omega) Try.underlying22 (.tmp 19) (.tmp 21) rfl (w1.drew.alloc (.cells #[.int .i64 (i : Int)] 3)).heap.size v3 (pathN ns (u : Int)) rfl HO3.out (.slice (some ⟨w1.drew.heap.size, 0, none⟩) 1 1) [(i : Int)] rfl HN5.out (by have := HLE.out; have := HLM.out; simp; omega) (by first | exact Nat.le_refl _ | exact HB3.out.size | exact HBM.out) hgo) ?_
        intro v8 w8 ho8 hg8 _
        rw [← HP.out] at ho8
        have HO8 := Lib.hid ho8
        have S8 := Lib.hid (S3.out.grown hg8 (fun j hj => by have := (HO3.out.lt j hj).1; have := SD.out.t.lt; have := HSZ.out; omega))
        clear ho8 hg8
        refine hK.out _ _ (S8.out) (fun _ => ?_)
        clear hK K
        (try simp only [Act.put, List.setIfInBounds_toArray, List.set_cons_zero, List.set_cons_succ])
        refine wpAnyH_ready (rs := [11]) (by kernel_rfl) (by simp) ?_
        refine AllReadyH.cons (o := ⟨some 4, _, _, _, _, _⟩) rfl (fun K hK => ?_) AllReadyH.nil
        go_simp
        refine hK.out _ _ (S8.out) (fun _ => ?_)
        clear hK K
        (try simp only [Act.put, List.setIfInBounds_toArray, List.set_cons_zero, List.set_cons_succ])
        refine wpAnyH_done (by kernel_rfl) ?_ _
        go_wp2_with fail
        go_ret
        exact ⟨_, rfl, OwnK.lower HO8.out (by have := SD.out.b.size; have := HSZ.out; omega), S8.out.b⟩
end

/-! TrG -/
section
set_option linter.unusedVariables false
set_option linter.unusedSimpArgs false
open Go.RowKit

set_option maxRecDepth 100000

theorem path_any (ns : List NdD) (hok : TrOK ns) (hlen : ns.length ≤ 100000) (i : Int) (v : Value) (w : World) (hN : NodesV w v ns) :
    Calls Try.prog 39 #[.agg #[v], .int .i64 i] w (PathE ns i w) := by
  by_cases h : 0 ≤ i ∧ i < ns.length
  · obtain ⟨k, rfl⟩ : ∃ k : Nat, i = k := ⟨i.toNat, by omega⟩
    exact path_in ns hok hlen k (by omega) v w hN
  · exact path_out v ns i w hN h

theorem path_ints {ns : List NdD} (hok : TrOK ns) (hlen : ns.length ≤ 100000) {i : Int} {w : World} {B : Nat} {v : Value} (h : OwnK .i64 3 w B v (pathN ns i)) : IntsV w v (pathN ns i) :=
  ⟨h.ints (by have := pathN_len ns i; unfold maxLen; omega), fun x hx => by have := pathN_rng hok i x hx; omega⟩

theorem isan_any (ns : List NdD) (hok : TrOK ns) (hlen : ns.length ≤ 100000) (a b : Int) (v : Value) (w : World) (hN : NodesV w v ns) :
    Calls Try.prog 23 #[.agg #[v], .int .i64 a, .int .i64 b] w fun e w' => e = .returned (.bool (decide (a ∈ pathN ns b))) ∧ Below w.heap.size w w' := by
  have HPA := Lib.hid (fun u (hu : Below w.heap.size w u) => path_any ns hok hlen b v u (hN.call hu))
  have HPI := Lib.hid (fun (u : World) B x (h : OwnK .i64 3 u B x (pathN ns b)) => path_ints hok hlen h)
  have S0 := Lib.hid (pas_new w #[v] 25)
  have hi1 : (Try.prog.info? 25).map (·.size) = some 1 := by kernel_rfl
  obtain ⟨q, hq⟩ : ∃ q, Hid (decide (a ∈ pathN ns b) = q) := ⟨_, Lib.hid rfl⟩
  rw [hq.out]
  clear hN hok hlen
  go_enter Try.func23, Try.ntmps23
  go_wp2_with (first
    | ((with_reducible refine at_load (.tmp 3) ?_); refine wpList_load_g 25 (.tmp 3) rfl w.heap.size rfl #[v] _ S0.out.t Try.underlying25 rfl hi1 rfl ?_)
    | (go_at_call 39; refine (HPA.out _ S0.out.b).mono ?_; rintro e w1 ⟨v1, rfl, ho1, hb1⟩; have HI1 := Lib.hid (HPI.out _ _ _ ho1); have S1 := Lib.hid (S0.out.call hb1); clear ho1 hb1)
    | (go_at_call 35; refine (has_any _ _ a w1 HI1.out).mono ?_; rintro e w2 ⟨rfl, hb2⟩; rw [hq.out]; have S2 := Lib.hid (S1.out.call hb2); clear hb2))
  go_ret
  exact ⟨rfl, S2.out.b⟩

/-- The numbers below k with this property, in order. -/
def selK (p : Nat → Bool) : Nat → List Int
  | 0 => []
  | k + 1 => if p k then selK p k ++ [(k : Int)] else selK p k

theorem selK_yes {p : Nat → Bool} {k : Nat} (h : p k = true) : selK p (k + 1) = selK p k ++ [(k : Int)] := by show (if p k = true then selK p k ++ [(k : Int)] else selK p k) = _; rw [if_pos h]

theorem selK_no {p : Nat → Bool} {k : Nat} (h : p k = false) : selK p (k + 1) = selK p k := by show (if p k = true then selK p k ++ [(k : Int)] else selK p k) = _; rw [if_neg (by rw [h]; simp)]

theorem selK_len (p : Nat → Bool) : ∀ k, (selK p k).length ≤ k
  | 0 => by simp [selK]
  | k + 1 => by
    have := selK_len p k
    cases h : p k
    · rw [selK_no h]; omega
    · rw [selK_yes h]; simp; omega

theorem selK_mem {p : Nat → Bool} {x : Int} : ∀ {k : Nat}, x ∈ selK p k ↔ ∃ j : Nat, j < k ∧ x = j ∧ p j = true
  | 0 => by simp [selK]
  | k + 1 => by
    cases h : p k
    · rw [selK_no h, selK_mem]
      constructor
      · rintro ⟨j, h1, h2, h3⟩; exact ⟨j, by omega, h2, h3⟩
      · rintro ⟨j, h1, h2, h3⟩
        by_cases e : j = k
        · subst e; rw [h] at h3; cases h3
        · exact ⟨j, by omega, h2, h3⟩
    · rw [selK_yes h, List.mem_append, selK_mem, List.mem_singleton]
      constructor
      · rintro (⟨j, h1, h2, h3⟩ | h4)
        · exact ⟨j, by omega, h2, h3⟩
        · exact ⟨k, by omega, h4, h⟩
      · rintro ⟨j, h1, h2, h3⟩
        by_cases e : j = k
        · subst e; exact .inr h2
        · exact .inl ⟨j, by omega, h2, h3⟩

theorem selK_rng (p : Nat → Bool) (k : Nat) : ∀ x ∈ selK p k, 0 ≤ x ∧ x < k := fun x hx => by
  obtain ⟨j, h1, rfl, _⟩ := selK_mem.1 hx; omega

/-- A loop that lists what has the property. -/
def SelI (w : World) (T : Array Value) (p : Nat → Bool) (m : Nat) (v i : Value) (wr : World) : Prop :=
  ∃ k : Nat, k ≤ m ∧ i = .int .i64 k ∧ OwnK .i64 3 wr (w.heap.size + 1) v (selK p k) ∧ PaS w T wr

theorem OwnK.off1 {w wr : World} {v : Value} {xs : List Int} (h : OwnK .i64 3 wr (w.heap.size + 1) v xs) : ∀ j, v.ownBlock = some j → w.heap.size < j := fun j hj => by have := (h.lt j hj).1; omega

/-- What such a function promises. -/
def SelE (l : List Int) (w : World) (e : Ending) (w' : World) : Prop := ∃ v', e = .returned v' ∧ OwnK .i64 3 w' w.heap.size v' l ∧ Below w.heap.size w w'

def descN (ns : List NdD) (i : Int) : List Int := selK (fun k => decide (i ∈ pathN ns (k : Int))) ns.length

set_option maxHeartbeats 8000000 in
theorem desc_any (ns : List NdD) (hok : TrOK ns) (hlen : ns.length ≤ 100000) (i : Int) (v : Value) (w : World) (hN : NodesV w v ns) :
    Calls Try.prog 45 #[.agg #[v], .int .i64 i] w (SelE (descN ns i) w) := by
  obtain ⟨a, cap, rfl, hmx⟩ := hN.shape
  unfold maxLen at hmx
  have HIA := Lib.hid (fun (k : Int) u (hu : Below w.heap.size w u) => isan_any ns hok hlen i k _ u (hN.call hu))
  have HII := Lib.hid info_int
  have hi1 : (Try.prog.info? 25).map (·.size) = some 1 := by kernel_rfl
  unfold descN
  obtain ⟨p, hp⟩ : ∃ p : Nat → Bool, (fun (k : Nat) => decide (i ∈ pathN ns (k : Int))) = p := ⟨_, rfl⟩
  have HPP : Hid (∀ k : Nat, decide (i ∈ pathN ns (k : Int)) = p k) := fun k => by rw [← hp]
  rw [hp]
  obtain ⟨m, hm⟩ : ∃ m, ns.length = m := ⟨_, rfl⟩
  rw [hm] at hmx HIA hlen ⊢
  have S0 := Lib.hid (pas_new w #[.slice a m cap] 25)
  clear hN hok hp hm
  go_enter Try.func45, Try.ntmps45
  go_wp2_with fail
  go_loopw [5, 6] (fun v i wr => SelI w #[.slice a m cap] p m v i wr) (fun _ i _ => m - (intOf i).toNat)
  case atStart => exact ⟨0, Nat.zero_le _, rfl, OwnK.nil _ _ _ _, S0.out⟩
  case round =>
    obtain ⟨k, hk, rfl, hown, hs⟩ := hrel
    have HOW := Lib.hid hown
    have S1 := Lib.hid hs
    have HXL := Lib.hid (selK_len p k)
    have HC0 := Lib.hid (hs.t.cell 0)
    obtain ⟨x, hx⟩ : ∃ x, selK p k = x := ⟨_, rfl⟩
    clear hown hs
    by_cases hlt : k < m
    case neg =>
      obtain rfl : k = m := by omega
      go_wp2_with (first
        | ((with_reducible refine at_load (.tmp 8) ?_); refine wpList_load_1 23 (.tmp 8) rfl w.heap.size 0 (.slice a k cap) HC0.out rfl _ Try.underlying23 rfl rfl ?_))
      go_ret
      exact ⟨_, rfl, HOW.out.lower (by omega), S1.out.b⟩
    have hlt' : (k : Int) < m := by omega
    have HIK := Lib.hid (HIA.out (k : Int) wr S1.out.b)
    rw [HPP.out k] at HIK
    cases hpk : p k
    case false =>
      have HNX := Lib.hid (selK_no hpk)
      rw [hpk] at HIK
      clear hpk hx
      go_wp2_with (first
        | ((with_reducible refine at_load (.tmp 8) ?_); refine wpList_load_1 23 (.tmp 8) rfl w.heap.size 0 (.slice a m cap) HC0.out rfl _ Try.underlying23 rfl rfl ?_)
        | ((with_reducible refine at_load (.tmp 2) ?_); refine wpList_load_g 25 (.tmp 2) rfl w.heap.size rfl #[.slice a m cap] _ S1.out.t Try.underlying25 rfl hi1 rfl ?_)
        | (go_at_call 23; refine HIK.out.mono ?_; rintro e w2 ⟨rfl, hb2⟩; have S2 := Lib.hid (S1.out.call hb2); have HO2 := Lib.hid (HOW.out.call hb2); clear hb2))
      go_roundw
      case rel => exact ⟨k + 1, by omega, by go_num, by rw [HNX.out]; exact HO2.out, S2.out⟩
      case measure => simp [intOf]; omega
    case true =>
      have HNX := Lib.hid (selK_yes hpk)
      rw [hpk] at HIK
      clear hpk hx
      go_wp2_with (first
        | ((with_reducible refine at_load (.tmp 8) ?_); refine wpList_load_1 23 (.tmp 8) rfl w.heap.size 0 (.slice a m cap) HC0.out rfl _ Try.underlying23 rfl rfl ?_)
        | ((with_reducible refine at_load (.tmp 2) ?_); refine wpList_load_g 25 (.tmp 2) rfl w.heap.size rfl #[.slice a m cap] _ S1.out.t Try.underlying25 rfl hi1 rfl ?_)
        | (go_at_call 23; refine HIK.out.mono ?_; rintro e w2 ⟨rfl, hb2⟩; have S2 := Lib.hid (S1.out.call hb2); have HO2 := Lib.hid (HOW.out.call hb2); clear hb2)
        | ((with_reducible refine at_app (.tmp 18) (.tmp 20) ?_); refine wpList_app1 HII.out (by omega) Try.underlying22 (.tmp 18) (.tmp 20) rfl rfl (w.heap.size + 1) _ _ rfl (HO2.out.grown (World.grownBy_alloc _ (.cells #[.int .i64 (k : Int)] 3) none) (fun n _ => by simp)) w2.heap.size 1 (k : Int) rfl ((Blk.new rfl).cell 0) (by have := HXL.out; omega) (by have := S2.out.t.lt; simp; omega) ?_; intro v3 w3 h3 g3 o3; rw [← HNX.out] at h3; have HO3 := Lib.hid h3; have S3 := Lib.hid ((S2.out.call ((Below.refl w2.heap.size w2).alloc (Nat.le_refl _) (.cells #[.int .i64 (k : Int)] 3))).grown g3 HO2.out.off1); clear h3 g3 o3))
      go_roundw
      case rel => exact ⟨k + 1, by omega, by go_num, HO3.out, S3.out⟩
      case measure => simp [intOf]; omega
end

/-! PrA -/
section
set_option linter.unusedVariables false
set_option linter.unusedSimpArgs false
open Go.RowKit

set_option maxRecDepth 100000
/-! ### The numbers below k with a property, and how many they are -/

def selN (p : Nat → Bool) : Nat → List Nat
  | 0 => []
  | k + 1 => if p k = true then selN p k ++ [k] else selN p k

def cntK (p : Nat → Bool) : Nat → Nat
  | 0 => 0
  | k + 1 => if p k = true then cntK p k + 1 else cntK p k

theorem selN_len (p : Nat → Bool) : ∀ k, (selN p k).length = cntK p k
  | 0 => rfl
  | k + 1 => by
    have := selN_len p k
    rw [selN, cntK]; split
    · rw [List.length_append, this]; rfl
    · exact this

theorem cntK_mono (p : Nat → Bool) {j : Nat} : ∀ {k}, j ≤ k → cntK p j ≤ cntK p k
  | 0, h => by obtain rfl : j = 0 := by omega
               exact Nat.le_refl _
  | k + 1, h => by
    by_cases e : j = k + 1
    · rw [e]; exact Nat.le_refl _
    · have := cntK_mono p (j := j) (k := k) (by omega)
      rw [cntK]; split <;> omega

theorem cntK_lt {p : Nat → Bool} {j k : Nat} (h : j < k) (hp : p j = true) : cntK p j < cntK p k := by
  have h1 := cntK_mono p (j := j + 1) (k := k) (by omega)
  rw [cntK, if_pos hp] at h1
  omega

theorem cntK_le (p : Nat → Bool) : ∀ k, cntK p k ≤ k
  | 0 => Nat.le_refl _
  | k + 1 => by have := cntK_le p k; rw [cntK]; split <;> omega

theorem selN_at {p : Nat → Bool} {j : Nat} (hp : p j = true) : ∀ {k}, j < k → (selN p k)[cntK p j]? = some j
  | 0, h => by omega
  | k + 1, h => by
    rw [selN]
    by_cases e : j = k
    · subst e
      rw [if_pos hp, List.getElem?_append_right (by rw [selN_len]; exact Nat.le_refl _), selN_len, Nat.sub_self]
      rfl
    · have h1 := selN_at hp (k := k) (by omega)
      split
      · rw [List.getElem?_append_left (by rw [selN_len]; exact cntK_lt (by omega) hp)]; exact h1
      · exact h1

theorem selN_of {p : Nat → Bool} {q : Nat} : ∀ {k}, q < cntK p k → ∃ j, j < k ∧ p j = true ∧ cntK p j = q
  | 0, h => by simp [cntK] at h
  | k + 1, h => by
    by_cases e : q < cntK p k
    · obtain ⟨j, h1, h2⟩ := selN_of e
      exact ⟨j, by omega, h2⟩
    · rw [cntK] at h
      split at h
      · rename_i hp; exact ⟨k, by omega, hp, by omega⟩
      · exact absurd h e

/-- Whether node k is node i or one of its descendants. -/
def keptB (ns : List NdD) (i k : Nat) : Bool := decide ((i : Int) ∈ pathN ns (k : Int))

def ndZ : NdD := ⟨⟨⟨0, []⟩, ⟨0, []⟩, 0, [], [], [], 0, 0, ⟨0, []⟩, ⟨0, []⟩, false⟩, 0, 0⟩

def ndN (ns : List NdD) (j : Nat) : NdD := (ns[j]?).getD ndZ

theorem ndN_at {ns : List NdD} {j : Nat} (h : j < ns.length) : ndN ns j = ns[j] := by simp [ndN, List.getElem?_eq_getElem h]

def nodeK (ns : List NdD) (i j : Nat) : NdD := ⟨(ndN ns j).b, if j = i then -1 else (cntK (keptB ns i) (upAt ns j) : Int), (ndN ns j).st⟩

def pruK (ns : List NdD) (i k : Nat) : List NdD := (selN (keptB ns i) k).map (nodeK ns i)

def pruN (ns : List NdD) (i : Nat) : List NdD := pruK ns i ns.length

/-- The list of new indices. -/
def idxK (ns : List NdD) (i k : Nat) : List Int := (List.range k).map fun j => if keptB ns i j = true then (cntK (keptB ns i) j : Int) else -1

theorem pruK_yes {ns : List NdD} {i k : Nat} (h : keptB ns i k = true) : pruK ns i (k + 1) = pruK ns i k ++ [nodeK ns i k] ∧ idxK ns i (k + 1) = idxK ns i k ++ [(cntK (keptB ns i) k : Int)] := by
  refine ⟨?_, ?_⟩
  · unfold pruK; rw [selN, if_pos h, List.map_append]; rfl
  · unfold idxK; rw [List.range_succ, List.map_append]; simp [h]

theorem pruK_no {ns : List NdD} {i k : Nat} (h : keptB ns i k = false) : pruK ns i (k + 1) = pruK ns i k ∧ idxK ns i (k + 1) = idxK ns i k ++ [-1] := by
  refine ⟨?_, ?_⟩
  · unfold pruK; rw [selN, if_neg (by rw [h]; simp)]
  · unfold idxK; rw [List.range_succ, List.map_append]; simp [h]

theorem pruK_len (ns : List NdD) (i k : Nat) : (pruK ns i k).length = cntK (keptB ns i) k := by unfold pruK; rw [List.length_map, selN_len]

theorem idxK_len (ns : List NdD) (i k : Nat) : (idxK ns i k).length = k := by simp [idxK]

theorem idxK_at {ns : List NdD} {i k j : Nat} (hj : j < k) (h : keptB ns i j = true) : (idxK ns i k).getD j 0 = cntK (keptB ns i) j := by
  simp [idxK, List.getD, hj, h]

theorem kept_self {ns : List NdD} (h : TrOK ns) {i : Nat} (hi : i < ns.length) : keptB ns i i = true := by
  unfold keptB
  simp only [decide_eq_true_eq]
  by_cases h0 : i = 0
  · subst h0
    rw [show ((0 : Nat) : Int) = 0 from rfl, pathN_zero h.pos]; simp
  · rw [pathN_step h hi (by omega)]; simp

theorem kept_le {ns : List NdD} (h : TrOK ns) {i k : Nat} (hk : k < ns.length) (hp : keptB ns i k = true) : i ≤ k := by
  unfold keptB at hp
  simp only [decide_eq_true_eq] at hp
  have := pathN_mem h k hk _ hp
  omega

/-- A kept node that is not node i itself has a kept parent. -/
theorem kept_up {ns : List NdD} (h : TrOK ns) {i k : Nat} (hk : k < ns.length) (hp : keptB ns i k = true) (hne : k ≠ i) : 0 < k ∧ keptB ns i (upAt ns k) = true ∧ upAt ns k < k := by
  have hle := kept_le h hk hp
  have h0 : 0 < k := by omega
  refine ⟨h0, ?_, (h.upAt hk h0).1⟩
  unfold keptB at hp ⊢
  simp only [decide_eq_true_eq] at hp ⊢
  rw [pathN_step h hk h0] at hp
  rcases List.mem_append.1 hp with hm | hm
  · exact hm
  · have := List.mem_singleton.1 hm; omega

theorem cnt_before {ns : List NdD} (h : TrOK ns) {i : Nat} : ∀ k, k ≤ i → i < ns.length → cntK (keptB ns i) k = 0
  | 0, _, _ => rfl
  | k + 1, hk, hi => by
    have h1 := cnt_before h k (by omega) hi
    rw [cntK]
    split
    · rename_i hp
      have := kept_le h (by omega) hp
      omega
    · exact h1

/-- The nodes that are left, one by one. -/
theorem pruN_at {ns : List NdD} {i j : Nat} (hj : j < ns.length) (hp : keptB ns i j = true) : (pruN ns i)[cntK (keptB ns i) j]? = some (nodeK ns i j) := by
  unfold pruN pruK
  rw [List.getElem?_map, selN_at hp hj]; rfl

theorem pruN_of {ns : List NdD} {i q : Nat} (hq : q < (pruN ns i).length) : ∃ j, j < ns.length ∧ keptB ns i j = true ∧ cntK (keptB ns i) j = q ∧ (pruN ns i)[q] = nodeK ns i j := by
  have hl : (pruN ns i).length = cntK (keptB ns i) ns.length := pruK_len ns i _
  obtain ⟨j, h1, h2, h3⟩ := selN_of (p := keptB ns i) (q := q) (k := ns.length) (by omega)
  refine ⟨j, h1, h2, h3, ?_⟩
  have h4 := pruN_at h1 h2
  rw [h3] at h4
  exact (List.getElem?_eq_some_iff.1 h4).2

theorem pru_ok {ns : List NdD} (h : TrOK ns) {i : Nat} (hi : i < ns.length) : TrOK (pruN ns i) where
  pos := by
    have hl : (pruN ns i).length = cntK (keptB ns i) ns.length := pruK_len ns i _
    have := cntK_lt hi (kept_self h hi)
    omega
  root := fun h0 => by
    obtain ⟨j, h1, h2, h3, h4⟩ := pruN_of h0
    have hji : j = i := by
      have hle := kept_le h h1 h2
      by_cases e : j = i
      · exact e
      · have := cntK_lt (p := keptB ns i) (j := i) (k := j) (by omega) (kept_self h hi)
        omega
    rw [h4, hji]
    simp [nodeK]
  up := fun q hq h0 => by
    obtain ⟨j, h1, h2, h3, h4⟩ := pruN_of hq
    have hji : j ≠ i := fun e => by
      have := cnt_before h i (Nat.le_refl _) hi
      rw [e] at h3; omega
    obtain ⟨hj0, hu, hul⟩ := kept_up h h1 h2 hji
    obtain ⟨hu1, hu2, hu3⟩ := h.upAt h1 hj0
    obtain ⟨u, hul', hulj, e1, e2, e3, e4, e5⟩ := h.up j h1 hj0
    have eu : upAt ns j = u := by rw [e1] at hu3; omega
    have hat := pruN_at hu2 hu
    have hlt := cntK_lt (p := keptB ns i) hul hu
    have hcu : cntK (keptB ns i) (upAt ns j) < (pruN ns i).length := by omega
    have hel : (pruN ns i)[cntK (keptB ns i) (upAt ns j)] = nodeK ns i (upAt ns j) := (List.getElem?_eq_some_iff.1 hat).2
    refine ⟨cntK (keptB ns i) (upAt ns j), hcu, by omega, ?_, ?_, ?_, ?_, ?_⟩
    · rw [h4]; simp [nodeK, hji]
    · rw [h4, hel]; simp only [nodeK]; rw [ndN_at h1, ndN_at hu2]; subst eu; exact e2
    · rw [h4, hel]; simp only [nodeK]; rw [ndN_at h1, ndN_at hu2]; subst eu; exact e3
    · rw [h4, hel]; simp only [nodeK]; rw [ndN_at h1, ndN_at hu2]; subst eu; exact e4
    · rw [h4, hel]; simp only [nodeK]; rw [ndN_at h1, ndN_at hu2]; subst eu; exact e5
  ne := fun p q hp hq hlt => by
    obtain ⟨j, h1, h2, h3, h4⟩ := pruN_of hp
    obtain ⟨k, k1, k2, k3, k4⟩ := pruN_of hq
    rw [h4, k4]
    simp only [nodeK]
    rw [ndN_at h1, ndN_at k1]
    have hjk : j < k := by
      rcases Nat.lt_or_ge j k with h' | h'
      · exact h'
      · have := cntK_mono (keptB ns i) h'; omega
    exact h.ne j k h1 k1 hjk
  st := fun q hq => by
    obtain ⟨j, h1, h2, h3, h4⟩ := pruN_of hq
    rw [h4]
    simp only [nodeK]
    rw [ndN_at h1]
    exact h.st j h1

theorem pruN_len (ns : List NdD) (i : Nat) : (pruN ns i).length ≤ ns.length := by
  have hl : (pruN ns i).length = cntK (keptB ns i) ns.length := pruK_len ns i _
  have := cntK_le (keptB ns i) ns.length
  omega

/-- A kept node is found again. -/
theorem pru_find {ns : List NdD} (h : TrOK ns) {i : Nat} (hi : i < ns.length) {j : Nat} (hj : j < ns.length) (hp : keptB ns i j = true) : findN (pruN ns i) ns[j].b.root = cntK (keptB ns i) j ∧ (ndN (pruN ns i) (cntK (keptB ns i) j)).st = ns[j].st ∧ (ndN (pruN ns i) (cntK (keptB ns i) j)).b = ns[j].b := by
  have hat := pruN_at hj hp
  obtain ⟨hq, he⟩ := List.getElem?_eq_some_iff.1 hat
  have hf := (pru_ok h hi).find hq
  rw [he] at hf
  have e1 : (nodeK ns i j).b = ns[j].b := by simp only [nodeK]; rw [ndN_at hj]
  rw [e1] at hf
  refine ⟨hf, ?_, ?_⟩
  · rw [ndN_at hq, he]; simp only [nodeK]; rw [ndN_at hj]
  · rw [ndN_at hq, he]; exact e1
end

/-! TsA -/
section
set_option linter.unusedVariables false
set_option linter.unusedSimpArgs false
open Go.RowKit

set_option maxRecDepth 100000

/-- The nodes with property p get status s. -/
def stN (ns : List NdD) (p : Nat → Bool) (s : Int) : List NdD := ns.mapIdx fun j d => if p j = true then ⟨d.b, d.up, s⟩ else d

theorem stN_len (ns : List NdD) (p : Nat → Bool) (s : Int) : (stN ns p s).length = ns.length := by simp [stN]

theorem stN_at (ns : List NdD) (p : Nat → Bool) (s : Int) {j : Nat} (hj : j < ns.length) (hj' : j < (stN ns p s).length) : (stN ns p s)[j] = if p j = true then ⟨ns[j].b, ns[j].up, s⟩ else ns[j] := by simp [stN]

theorem stN_b (ns : List NdD) (p : Nat → Bool) (s : Int) {j : Nat} (hj : j < ns.length) (hj' : j < (stN ns p s).length) : (stN ns p s)[j].b = ns[j].b ∧ (stN ns p s)[j].up = ns[j].up ∧ (stN ns p s)[j].st = if p j = true then s else ns[j].st := by
  rw [stN_at ns p s hj hj']
  by_cases h : p j = true
  · simp [h]
  · simp [h]

theorem stN_none (ns : List NdD) (s : Int) : stN ns (fun _ => false) s = ns := by
  apply List.ext_getElem (stN_len _ _ _)
  intro j h1 h2
  rw [stN_at ns _ s h2 h1]; simp

theorem stN_set {ns : List NdD} {p : Nat → Bool} {s : Int} {j : Nat} (hj : j < ns.length) {d : NdD} (hd : (stN ns p s)[j]? = some d) : (stN ns p s).set j ⟨d.b, d.up, s⟩ = stN ns (fun k => p k || decide (k = j)) s := by
  have hd' : d.b = ns[j].b ∧ d.up = ns[j].up := by
    obtain ⟨hl, e⟩ := List.getElem?_eq_some_iff.1 hd
    have := stN_b ns p s hj hl
    rw [← e]; exact ⟨this.1, this.2.1⟩
  apply List.ext_getElem (by simp [stN_len])
  intro k h1 h2
  have hk : k < ns.length := by simpa [stN_len] using h2
  rw [stN_at ns _ s hk h2, List.getElem_set]
  by_cases e : j = k
  · subst e; simp [hd'.1, hd'.2]
  · have e' : k ≠ j := fun h => e h.symm
    rw [if_neg e, stN_at ns p s hk (by rw [stN_len]; exact hk)]
    simp [e']

theorem upAt_st (ns : List NdD) (p : Nat → Bool) (s : Int) (j : Nat) : upAt (stN ns p s) j = upAt ns j := by
  unfold upAt
  by_cases hj : j < ns.length
  · have hj' : j < (stN ns p s).length := by rw [stN_len]; exact hj
    rw [List.getElem?_eq_getElem hj, List.getElem?_eq_getElem hj']
    simp [(stN_b ns p s hj hj').2.1]
  · rw [List.getElem?_eq_none (l := ns) (by omega), List.getElem?_eq_none (l := stN ns p s) (by rw [stN_len]; omega)]

theorem pathF_st (ns : List NdD) (p : Nat → Bool) (s : Int) : ∀ f i, pathF (stN ns p s) f i = pathF ns f i
  | 0, _ => rfl
  | f + 1, i => by
    show (if i = 0 then [0] else pathF (stN ns p s) f (upAt (stN ns p s) i) ++ [(i : Int)]) = (if i = 0 then [0] else pathF ns f (upAt ns i) ++ [(i : Int)])
    rw [upAt_st, pathF_st ns p s f]

theorem pathN_st (ns : List NdD) (p : Nat → Bool) (s i : Int) : pathN (stN ns p s) i = pathN ns i := by
  unfold pathN; rw [stN_len, pathF_st]

theorem findGo_st (ns : List NdD) (p : Nat → Bool) (s : Int) (r : List Int) : ∀ f i, findGo (stN ns p s) r f i = findGo ns r f i
  | 0, _ => rfl
  | f + 1, i => by
    unfold findGo
    have e : ((stN ns p s)[i]?).map (fun d => d.b.root) = (ns[i]?).map (fun d => d.b.root) := by
      by_cases hj : i < ns.length
      · have hj' : i < (stN ns p s).length := by rw [stN_len]; exact hj
        rw [List.getElem?_eq_getElem hj, List.getElem?_eq_getElem hj']
        simp [(stN_b ns p s hj hj').1]
      · rw [List.getElem?_eq_none (l := ns) (by omega), List.getElem?_eq_none (l := stN ns p s) (by rw [stN_len]; omega)]
    rw [e, findGo_st ns p s r f]

theorem findN_st (ns : List NdD) (p : Nat → Bool) (s : Int) (r : List Int) : findN (stN ns p s) r = findN ns r := by
  unfold findN; rw [stN_len, findGo_st]

/-- A path holds the parent of each of its nodes. -/
theorem path_upS {ns : List NdD} (h : TrOK ns) : ∀ i : Nat, i < ns.length → ∀ j : Nat, (j : Int) ∈ pathN ns (i : Int) → 0 < j → (upAt ns j : Int) ∈ pathN ns (i : Int) := by
  intro i
  induction i using Nat.strongRecOn with
  | ind i ih =>
    intro hi j hj h0
    by_cases hi0 : i = 0
    · subst hi0
      rw [show ((0 : Nat) : Int) = 0 from rfl, pathN_zero h.pos] at hj
      have := List.mem_singleton.1 hj
      omega
    · obtain ⟨h1, h2, _⟩ := h.upAt hi (by omega)
      rw [pathN_step h hi (by omega)] at hj ⊢
      rcases List.mem_append.1 hj with hm | hm
      · exact List.mem_append_left _ (ih _ h1 h2 j hm h0)
      · have e : j = i := by have := List.mem_singleton.1 hm; omega
        subst e
        refine List.mem_append_left _ ?_
        by_cases hu : upAt ns j = 0
        · rw [hu, show ((0 : Nat) : Int) = 0 from rfl, pathN_zero h.pos]; simp
        · rw [pathN_step h h2 (by omega)]; simp

/-- A tree stays one where the statuses keep their order. -/
theorem stN_ok {ns : List NdD} (h : TrOK ns) (p : Nat → Bool) {s : Int} (hs : 0 ≤ s ∧ s ≤ 2)
    (hc : ∀ j u (hj : j < ns.length) (hu : u < ns.length), 0 < j → upAt ns j = u → ((if p j = true then s else ns[j].st) = 1 → (if p u = true then s else ns[u].st) = 1) ∧ ((if p u = true then s else ns[u].st) = 2 → (if p j = true then s else ns[j].st) = 2)) : TrOK (stN ns p s) where
  pos := by rw [stN_len]; exact h.pos
  root := fun h0 => by
    have h0' : 0 < ns.length := by rw [stN_len] at h0; exact h0
    rw [(stN_b ns p s h0' h0).2.1]; exact h.root h0'
  up := fun i hi h0 => by
    have hi' : i < ns.length := by rw [stN_len] at hi; exact hi
    obtain ⟨u, hu, e0, e1, e2, e3, e4, e5⟩ := h.up i hi' h0
    have hu' : u < (stN ns p s).length := by rw [stN_len]; exact hu
    obtain ⟨a1, a2, a3⟩ := stN_b ns p s hi' hi
    obtain ⟨b1, b2, b3⟩ := stN_b ns p s hu hu'
    have eu : upAt ns i = u := by have := (h.upAt hi' h0).2.2; rw [e1] at this; omega
    obtain ⟨c1, c2⟩ := hc i u hi' hu h0 eu
    refine ⟨u, hu', e0, by rw [a2]; exact e1, by rw [a1, b1]; exact e2, by rw [a1, b1]; exact e3, by rw [a3, b3]; exact c1, by rw [a3, b3]; exact c2⟩
  ne := fun i j hi hj hl => by
    have hi' : i < ns.length := by rw [stN_len] at hi; exact hi
    have hj' : j < ns.length := by rw [stN_len] at hj; exact hj
    rw [(stN_b ns p s hi' hi).1, (stN_b ns p s hj' hj).1]; exact h.ne i j hi' hj' hl
  st := fun i hi => by
    have hi' : i < ns.length := by rw [stN_len] at hi; exact hi
    rw [(stN_b ns p s hi' hi).2.2]
    split
    · exact hs
    · exact h.st i hi'

/-- Whether a node is on the path to node i. -/
def onB (ns : List NdD) (i : Int) (j : Nat) : Bool := decide ((j : Int) ∈ pathN ns i)

/-- Whether node i is on the path to a node. -/
def belB (ns : List NdD) (i : Int) (j : Nat) : Bool := decide (i ∈ pathN ns (j : Int))

/-- A node with property p and status s. -/
def anyS (ns : List NdD) (p : Nat → Bool) (s : Int) : Prop := ∃ j, ∃ hj : j < ns.length, p j = true ∧ ns[j].st = s
noncomputable instance (ns : List NdD) (p : Nat → Bool) (s : Int) : Decidable (anyS ns p s) := Classical.propDecidable _
noncomputable def raiN (ns : List NdD) (i : Int) : List NdD × Int :=
  if ¬ (0 ≤ i ∧ i < ns.length) then ([], 10) else if anyS ns (onB ns i) 2 then ([], 21) else (stN ns (onB ns i) 1, 0)
noncomputable def conN (ns : List NdD) (i : Int) : List NdD × Int :=
  if ¬ (0 ≤ i ∧ i < ns.length) then ([], 10) else if anyS ns (belB ns i) 1 then ([], 21) else (stN ns (belB ns i) 2, 0)

theorem rai_ok {ns : List NdD} (h : TrOK ns) {i : Int} (he : (raiN ns i).2 = 0) : TrOK (raiN ns i).1 ∧ (raiN ns i).1 = stN ns (onB ns i) 1 ∧ ¬ anyS ns (onB ns i) 2 := by
  unfold raiN at he ⊢
  split at he
  · cases he
  rename_i hi
  split at he
  · cases he
  rename_i ha
  rw [if_neg hi, if_neg ha]
  have hi' : 0 ≤ i ∧ i < ns.length := Classical.not_not.1 hi
  obtain ⟨k, rfl⟩ : ∃ k : Nat, i = k := ⟨i.toNat, by omega⟩
  refine ⟨stN_ok h _ (by omega) (fun j u hj hu h0 hju => ?_), rfl, ha⟩
  have hcl : onB ns (k : Int) j = true → onB ns (k : Int) u = true := fun hp => by
    unfold onB at hp ⊢
    simp only [decide_eq_true_eq] at hp ⊢
    rw [← hju]
    exact path_upS h k (by omega) j hp h0
  obtain ⟨v, hv, _, e1, _, _, e4, e5⟩ := h.up j hj h0
  have ev : v = u := by have := (h.upAt hj h0).2.2; rw [e1] at this; omega
  subst ev
  constructor
  · intro hj1
    by_cases hp : onB ns (k : Int) v = true
    · rw [if_pos hp]
    · rw [if_neg hp]
      by_cases hpj : onB ns (k : Int) j = true
      · exact absurd (hcl hpj) hp
      · rw [if_neg hpj] at hj1; exact e4 hj1
  · intro hu2
    by_cases hp : onB ns (k : Int) v = true
    · rw [if_pos hp] at hu2; cases hu2
    · rw [if_neg hp] at hu2
      by_cases hpj : onB ns (k : Int) j = true
      · exact absurd (hcl hpj) hp
      · rw [if_neg hpj]; exact e5 hu2

theorem con_ok {ns : List NdD} (h : TrOK ns) {i : Int} (he : (conN ns i).2 = 0) : TrOK (conN ns i).1 ∧ (conN ns i).1 = stN ns (belB ns i) 2 ∧ ¬ anyS ns (belB ns i) 1 := by
  unfold conN at he ⊢
  split at he
  · cases he
  rename_i hi
  split at he
  · cases he
  rename_i ha
  rw [if_neg hi, if_neg ha]
  refine ⟨stN_ok h _ (by omega) (fun j u hj hu h0 hju => ?_), rfl, ha⟩
  have hcl : belB ns i u = true → belB ns i j = true := fun hp => by
    unfold belB at hp ⊢
    simp only [decide_eq_true_eq] at hp ⊢
    rw [pathN_step h hj h0, hju]
    exact List.mem_append_left _ hp
  obtain ⟨v, hv, _, e1, _, _, e4, e5⟩ := h.up j hj h0
  have ev : v = u := by have := (h.upAt hj h0).2.2; rw [e1] at this; omega
  subst ev
  constructor
  · intro hj1
    by_cases hpj : belB ns i j = true
    · rw [if_pos hpj] at hj1; cases hj1
    · rw [if_neg hpj] at hj1
      by_cases hp : belB ns i v = true
      · exact absurd (hcl hp) hpj
      · rw [if_neg hp]; exact e4 hj1
  · intro hu2
    by_cases hp : belB ns i v = true
    · rw [if_pos (hcl hp)]
    · rw [if_neg hp] at hu2
      by_cases hpj : belB ns i j = true
      · rw [if_pos hpj]
      · rw [if_neg hpj]; exact e5 hu2
end

end Go.Proofs.Ytdmjpmigejpkmaa
