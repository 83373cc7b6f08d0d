/- The reader's word, Root, Wide. -/
import Derived.Test.YtmnojgdfbhdkhaaCdS
import Derived.Test.YtmnojgdfbhdkhaaCdD
import Derived.Deep.RegionHeld3
import Derived.Laws.CopyOwn
import Derived.Outline
set_option linter.unusedVariables false
namespace Go.Proofs.Ytmnojgdfbhdkhaa
open Go.RowKit
variable {lo : Nat}

theorem res_cellR {P : Program} {fn : Func} {p : Tmp} {ty : TypeId} {d : TypeDesc} {tmps : Array Value} {w : World} {b : Nat} {cs : Array Value} (h : fn.results = #[.cell p ty])
    (hp : tmps.getD p undef = .pointer (some ⟨b, 0, none⟩)) (hB : Blk w b cs) (hu : P.underlying ty = some d) (hd : (match d with | .struct _ | .array _ _ => true | _ => false) = true) (hi : (P.info? ty).map (·.size) = some cs.size) :
    (results fn tmps).run P w = .ok (.agg cs) w := by
  obtain ⟨t', hg⟩ := hB
  exact results_cell_row h tmps w b t' cs (0, 0) d hp hg hu hd hi

theorem grownBy_cut {w w1 w2 : World} {g : Nat} (h1 : w.grownBy w1 (some g)) (h2 : Below w.heap.size w1 w2) : w.grownBy w2 (some g) :=
  ⟨h2.os.trans h1.os, h2.tape.trans h1.tape, h2.output.trans h1.output, Nat.le_trans h1.size h2.size, fun k hk hne => (h2.block k hk).trans (h1.block k hk hne)⟩

def zeroR : List Int := List.replicate 32 0
theorem zeroR_is : IsBytes 32 zeroR := ⟨by decide, by decide⟩

/-- What word reads. -/
def wV (rest : List Int) (e : Int) : List Int := if e = 0 ∧ 32 ≤ rest.length then rest.take 32 else zeroR

theorem wV_is {rest : List Int} {e : Int} (h : ∀ x ∈ rest, 0 ≤ x ∧ x ≤ 255) : IsBytes 32 (wV rest e) := by
  unfold wV
  split
  · refine ⟨by rw [List.length_take]; omega, fun x hx => ?_⟩
    have := h x (List.mem_of_mem_take hx)
    simpa [Lit.wf, IntKind.min, IntKind.max, IntKind.signed, IntKind.bits] using this
  · exact zeroR_is

theorem tk32 (rest : List Int) (e : Int) : (tkV rest e 32 = [] ∧ wV rest e = zeroR) ∨ (tkV rest e 32 = wV rest e ∧ (wV rest e).length = 32) := by
  unfold tkV wV
  by_cases he : e = 0
  · subst he
    by_cases hl : 32 ≤ rest.length
    · right
      simp only [ne_eq, not_true_eq_false, if_false, true_and, if_pos hl]
      rw [if_neg (by omega)]
      exact ⟨rfl, by rw [List.length_take]; omega⟩
    · left
      simp only [ne_eq, not_true_eq_false, if_false, true_and, if_neg hl]
      rw [if_pos (by omega)]
      simp
  · left
    rw [if_pos he, if_neg (fun h => he h.1)]
    simp

theorem copy_src {w : World} {a : Option Addr} {l c : Nat} {ys : List Int} {Z : List Value} (h : Byt w (.slice a l c) ys) (hl : ys.length ≤ 32) (hz : Z.length = 32) :
    (ys.map (Value.int .u8)).length = Nat.min l 32 ∧ (0 < (ys.map (Value.int .u8)).length → ∃ ad, a = some ad ∧ ∀ j v, (ys.map (Value.int .u8))[j]? = some v → w.cell? (ad.add j) = some v) ∧ 0 + (ys.map (Value.int .u8)).length ≤ Z.length := by
  obtain ⟨_, _, _, e', hl2, _, hr⟩ := h.ints
  cases e'
  rw [List.length_map]
  refine ⟨?_, fun hp => ?_, by omega⟩
  · show ys.length = min l 32; omega
  · rcases hr with h0 | ⟨b, off, rfl, _, hc⟩
    · omega
    · refine ⟨_, rfl, fun j v hj => ?_⟩
      have hjl : j < ys.length := by
        have := (List.getElem?_eq_some_iff.1 hj).1
        simpa using this
      rw [Go.WideShapes.add_plain, hc j (by omega), ← hj]
      simp [List.getD, List.getElem?_eq_getElem hjl]

theorem word_splice {rest : List Int} {e : Int} {Z : Array Value} (hZ : Z = Array.replicate 32 (Value.int .u8 0)) (h : (tkV rest e 32 = [] ∧ wV rest e = zeroR) ∨ (tkV rest e 32 = wV rest e ∧ (wV rest e).length = 32)) :
    (splice Z.toList 0 ((tkV rest e 32).map (Value.int .u8))).toArray = bytesV (wV rest e) := by
  rcases h with ⟨h1, h2⟩ | ⟨h1, h2⟩
  · rw [h1, h2, hZ]; rfl
  · rw [h1, hZ]
    simp [splice, bytesV, h2]

set_option maxRecDepth 100000 in
set_option maxHeartbeats 4000000 in
theorem word_any (g : Nat) (rest : List Int) (e : Int) (w : World) (h : Rdr lo w g rest e) :
    Calls Try.prog 113 #[.pointer (some ⟨g, 0, none⟩)] w (Reads lo w g (.agg (bytesV (wV rest e))) (tkR rest e 32) (tkE rest e 32)) := by
  have hglt := h.lt
  have HR := Lib.hid h
  have hrr : ∀ x ∈ rest, 0 ≤ x ∧ x ≤ 255 := by obtain ⟨a, l, c, _, hY, _⟩ := h; exact hY.rng
  clear h
  have HWI := Lib.hid (wV_is (e := e) hrr); clear hrr
  obtain ⟨Z, hZ⟩ : ∃ Z, Z = Array.replicate 32 (Value.int .u8 0) := ⟨_, rfl⟩
  have hsz : Z.size = 32 := by rw [hZ]; simp
  obtain ⟨hz32, hst⟩ := zero_array (P := Try.prog) (t := 23) (n := 32) Z (by rw [hZ]; kernel_rfl) hsz (by rw [hZ]; kernel_rfl)
  have HZ := Lib.hid hZ; clear hZ
  go_enter Try.func113, Try.ntmps113
  go_wp2_with fail
  have hTK := tk32 rest e
  have hTL : (tkV rest e 32).length ≤ 32 := by
    rcases hTK with ⟨h1, _⟩ | ⟨h1, h2⟩
    · rw [h1]; simp
    · rw [h1, h2]; omega
  have HTK := Lib.hid hTK; clear hTK
  have H0 := Lib.hid (HR.out.below (((Below.refl w.heap.size w).alloc (Nat.le_refl _) (.cells Z 23)).alloc (by simp) (.cells Z 23)))
  have hcur0 : Hid (((w.alloc (.cells Z 23)).alloc (.cells Z 23)).heap[w.heap.size + 1]? = some (.cells Z 23 (0, 0))) := by
    have := heap_alloc_new (w.alloc (.cells Z 23)) (.cells Z 23)
    show _ = _
    simpa using this
  have hcur2 : Hid (Blk ((w.alloc (.cells Z 23)).alloc (.cells Z 23)) w.heap.size Z) := (Blk.new rfl).alloc _
  have hsz1 : (Try.prog.info? 5).map (·.size) = some 1 := by kernel_rfl
  have hfar : some (w.heap.size + 1) ≠ some g := by simp; omega
  have hfar2 : w.heap.size ≠ g := by omega
  have HZL := Lib.hid (show Z.toList.toArray = Z by simp)
  have hzl : Z.toList.length = 32 := by simpa using hsz
  have h1c : ∀ v ∈ (tkV rest e 32).map (Value.int .u8), v.oneCell' = true := by
    intro v hv
    obtain ⟨x, _, rfl⟩ := List.mem_map.1 hv
    rfl
  have H1C := Lib.hid h1c; clear h1c
  have TK : Hid (Calls Try.prog 115 #[.pointer (some ⟨g, 0, none⟩), .int .u64 32] ((w.alloc (.cells Z 23)).alloc (.cells Z 23)).drew (Takes lo ((w.alloc (.cells Z 23)).alloc (.cells Z 23)).drew g (tkV rest e 32) (tkR rest e 32) (tkE rest e 32))) :=
    take_any g rest e 32 _ H0.out.drew (by omega) (by omega)
  have hs0 : w.heap.size + 1 < ((w.alloc (.cells Z 23)).alloc (.cells Z 23)).drew.heap.size := by
    show _ < ((w.alloc (.cells Z 23)).alloc (.cells Z 23)).heap.size
    simp
  have HS0 := Lib.hid hs0; clear hs0
  go_region_held3 (fun _ => True) (trivial)
    ((first
      | (go_at_call 115; refine TK.out.mono ?_; rintro en w1 ⟨a1, l1, c1, rfl, hy1, hf1, hr1, hg1⟩
         have HC1 := Lib.hid (copy_src hy1 hTL hzl)
         have HCUR := Lib.hid (((hg1.block (w.heap.size + 1) HS0.out hfar).trans hcur0.out).trans (HZL.out ▸ rfl : some (Obj.cells Z 23 (0, 0)) = some (Obj.cells Z.toList.toArray 23 (0, 0))))
         have HR1 := Lib.hid hr1; clear hr1
         have HG1 := Lib.hid hg1; clear hg1
         clear hy1 hf1)
      | (refine step_copy_splice rfl (.tmp 5) (.tmp 7) 51 51 rfl 5 Try.underlying51 hsz1 (some ⟨w.heap.size + 1, 0, none⟩) a1 32 32 l1 c1 rfl rfl (w.heap.size + 1) 0 Z.toList 23 HCUR.out ((tkV rest e 32).map (Value.int .u8)) HC1.out.1 (fun h => ⟨rfl, HC1.out.2.1 h⟩) HC1.out.2.2 H1C.out (w.heap.size + 1) w1 (Below.refl _ _) (Nat.le_refl _) ?_; intro w4 hg4 hb4)))
  have hE := word_splice HZ.out HTK.out
  have hg4' := hg4.out
  rw [hE] at hg4'
  have HB4 : Hid (Blk w4 (w.heap.size + 1) (bytesV (wV rest e))) := ⟨_, hg4'⟩
  clear hg4 hg4' hE
  have hX0 : (bytesV (wV rest e)).size = 32 := bytesV_size HWI.out.1
  have hX1 := bytesV_one (wV rest e)
  obtain ⟨X, HX⟩ : ∃ X, bytesV (wV rest e) = X := ⟨_, rfl⟩
  rw [HX] at HB4 hX0 hX1
  have HXE := Lib.hid HX; clear HX
  have HX1 := Lib.hid hX1; clear hX1
  have hi32 : (Try.prog.info? 23).map (·.size) = some X.size := by rw [hX0]; kernel_rfl
  have HB5 := Lib.hid (((hcur2.out.drewN (n := 1)).grown HG1.out (by simp; omega)).below hb4 (by omega))
  have HR4 := Lib.hid (HR1.out.belowN hb4 (by omega))
  go_wp2_with (first
    | ((with_reducible refine at_load (.tmp 3) ?_); refine wpList_load_g 23 _ rfl (w.heap.size + 1) rfl X _ HB4.out Try.underlying23 rfl hi32 rfl ?_)
    | ((with_reducible refine at_store _ ?_); refine wpList_store_blk rfl 23 _ _ rfl w.heap.size X rfl rfl Z HB5.out (by rw [hsz, hX0]) hi32 HX1.out ?_; intro w5 U5 B5))
  refine bodyPost_ret (res_cellR rfl rfl B5 Try.underlying23 rfl hi32) rfl ⟨by rw [HXE.out], ?_, ?_⟩
  · exact HR4.out.belowN (U5.below (Below.refl w.heap.size _) (Nat.le_refl _)) hglt
  · have g1 : w.grownBy w1 (some g) := (grownBy_of_below (Below.drewN (n := 1) (((Below.refl w.heap.size w).alloc (Nat.le_refl _) _).alloc (by simp) _))).trans HG1.out
    exact grownBy_cut g1 ((hb4.mono (by omega)).trans (U5.below (Below.refl w.heap.size _) (Nat.le_refl _)))

set_option maxRecDepth 100000 in
set_option maxHeartbeats 4000000 in
theorem root_any (g : Nat) (rest : List Int) (e : Int) (w : World) (h : Rdr lo w g rest e) :
    Calls Try.prog 99 #[.pointer (some ⟨g, 0, none⟩)] w (Reads lo w g (.agg (bytesV (wV rest e))) (tkR rest e 32) (tkE rest e 32)) := by
  have hglt := h.lt
  have hrr : ∀ x ∈ rest, 0 ≤ x ∧ x ≤ 255 := by obtain ⟨a, l, c, _, hY, _⟩ := h; exact hY.rng
  have HWI := Lib.hid (wV_is (e := e) hrr); clear hrr
  obtain ⟨Z, hZ⟩ : ∃ Z, Z = Array.replicate 32 (Value.int .u8 0) := ⟨_, rfl⟩
  have hsz : Z.size = 32 := by rw [hZ]; simp
  obtain ⟨hz32, hst⟩ := zero_array (P := Try.prog) (t := 24) (n := 32) Z (by rw [hZ]; kernel_rfl) hsz (by rw [hZ]; kernel_rfl)
  have HZ := Lib.hid hZ; clear hZ
  have hba := (Below.refl w.heap.size w).alloc (Nat.le_refl _) (.cells Z 24)
  have D := Lib.hid (word_any g rest e _ (h.below hba))
  have HBA := Lib.hid hba; clear hba h
  have hX0 : (bytesV (wV rest e)).size = 32 := bytesV_size HWI.out.1
  have hX1 := bytesV_one (wV rest e)
  obtain ⟨X, HX⟩ : ∃ X, bytesV (wV rest e) = X := ⟨_, rfl⟩
  rw [HX] at D hX0 hX1
  have HXE := Lib.hid HX; clear HX
  have HX1 := Lib.hid hX1; clear hX1
  have hi32 : (Try.prog.info? 24).map (·.size) = some X.size := by rw [hX0]; kernel_rfl
  go_enter Try.func99, Try.ntmps99
  go_wp2_with (first
    | (go_at_call 113; refine D.out.mono ?_; rintro en w1 ⟨rfl, hr1, hg1⟩; have HR1 := Lib.hid hr1; clear hr1; have HB1 := Lib.hid (Blk.grown (Blk.new (w := w) (n := w.heap.size) (cs := Z) (t := 24) rfl) hg1 (by simp; omega)); have HG1 := Lib.hid hg1; clear hg1)
    | ((with_reducible refine at_store _ ?_); refine wpList_store_blk rfl 24 _ _ rfl w.heap.size X rfl rfl Z HB1.out (by rw [hsz, hX0]) hi32 HX1.out ?_; intro w5 U5 B5))
  refine bodyPost_ret (res_cellR rfl rfl B5 Try.underlying24 rfl hi32) rfl ⟨by rw [HXE.out], ?_, ?_⟩
  · exact HR1.out.belowN (U5.below (Below.refl w.heap.size _) (Nat.le_refl _)) hglt
  · exact grownBy_cut ((grownBy_of_below HBA.out).trans HG1.out) (U5.below (Below.refl w.heap.size _) (Nat.le_refl _))

def valK (f : Nat → Int) : Nat → Int
  | 0 => 0
  | k + 1 => valK f k + f k * 2 ^ (8 * k)

theorem pow8_pos (k : Nat) : 0 < (2 : Int) ^ (8 * k) := Int.pow_pos (by omega)

theorem valK_rng {f : Nat → Int} {n : Nat} (hf : ∀ i, i < n → 0 ≤ f i ∧ f i ≤ 255) : ∀ k, k ≤ n → 0 ≤ valK f k ∧ valK f k < 2 ^ (8 * k)
  | 0, _ => by simp [valK]
  | k + 1, hk => by
    obtain ⟨h1, h2⟩ := valK_rng hf k (by omega)
    have hp := pow8_pos k
    have e : (2 : Int) ^ (8 * (k + 1)) = 256 * 2 ^ (8 * k) := by
      rw [show 8 * (k + 1) = 8 * k + 8 by omega, Int.pow_add, Int.mul_comm]; rfl
    have h3 := hf k (by omega)
    rw [valK, e]
    generalize (2 : Int) ^ (8 * k) = p at *
    have h4 : 0 ≤ f k * p := Int.mul_nonneg h3.1 (by omega)
    have h5 : f k * p ≤ 255 * p := Int.mul_le_mul_of_nonneg_right h3.2 (by omega)
    omega

theorem valK_byte {f : Nat → Int} {n : Nat} (hf : ∀ i, i < n → 0 ≤ f i ∧ f i ≤ 255) : ∀ k, k ≤ n → ∀ i, i < k → valK f k / 2 ^ (8 * i) % 256 = f i
  | 0, _, i, hi => absurd hi (Nat.not_lt_zero _)
  | k + 1, hk, i, hi => by
    obtain ⟨h1, h2⟩ := valK_rng hf k (by omega)
    have h3 := hf i (by omega)
    by_cases hik : i = k
    · subst hik
      have hp := pow8_pos i
      rw [valK]
      have : (valK f i + f i * 2 ^ (8 * i)) / 2 ^ (8 * i) = f i := by
        rw [Int.add_mul_ediv_right _ _ (by omega), Int.ediv_eq_zero_of_lt h1 h2]; omega
      rw [this]
      omega
    · have ih := valK_byte hf k (by omega) i (by omega)
      have hp := pow8_pos i
      have e : (2 : Int) ^ (8 * k) = 256 * 2 ^ (8 * (k - i - 1)) * 2 ^ (8 * i) := by
        have : (256 : Int) = 2 ^ 8 := rfl
        rw [this, ← Int.pow_add, ← Int.pow_add]
        congr 1
        omega
      rw [valK, e, ← Int.mul_assoc, Int.add_mul_ediv_right _ _ (by omega)]
      generalize valK f k / 2 ^ (8 * i) = y at *
      rw [show f k * (256 * 2 ^ (8 * (k - i - 1))) = 256 * (f k * 2 ^ (8 * (k - i - 1))) by rw [← Int.mul_assoc, ← Int.mul_assoc, Int.mul_comm (f k) 256]]
      generalize f k * 2 ^ (8 * (k - i - 1)) = z
      omega

/-- Every 32 bytes are those of a number. -/
theorem bytes_of_num {xs : List Int} (h : IsBytes 32 xs) : ∃ n, W256 n ∧ bytesN n = xs := by
  have hf : ∀ i, i < 32 → 0 ≤ xs.getD (31 - i) 0 ∧ xs.getD (31 - i) 0 ≤ 255 := fun i hi => by
    have hlt : 31 - i < xs.length := by rw [h.1]; omega
    have e : xs.getD (31 - i) 0 = xs[31 - i] := by simp [List.getD, List.getElem?_eq_getElem hlt]
    rw [e]
    exact wf_u8 (h.2 _ (List.getElem_mem hlt))
  obtain ⟨h1, h2⟩ := valK_rng hf 32 (Nat.le_refl _)
  refine ⟨valK (fun i => xs.getD (31 - i) 0) 32, ⟨h1, by rw [show (2 : Int) ^ (8 * 32) = 115792089237316195423570985008687907853269984665640564039457584007913129639936 by decide +kernel] at h2; exact h2⟩, ?_⟩
  apply List.ext_getElem?
  intro j
  by_cases hj : j < 32
  · have hv := valK_byte hf 32 (Nat.le_refl _) (31 - j) (by omega)
    rw [show 31 - (31 - j) = j by omega] at hv
    have hlt : j < xs.length := by rw [h.1]; omega
    rw [show xs.getD j 0 = xs[j] by simp [List.getD, List.getElem?_eq_getElem hlt]] at hv
    unfold bytesN
    rw [List.getElem?_map, List.getElem?_range hj, List.getElem?_eq_getElem hlt]
    simp only [Option.map_some]
    unfold byteN
    rw [hv]
  · rw [List.getElem?_eq_none (by simp [bytesN]; omega), List.getElem?_eq_none (by rw [h.1]; omega)]

end Go.Proofs.Ytmnojgdfbhdkhaa
