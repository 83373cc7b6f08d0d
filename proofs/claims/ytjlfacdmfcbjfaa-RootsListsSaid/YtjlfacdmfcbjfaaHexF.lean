/- Contracts of roots.Format and of the reference's FormatRoot. -/
import Derived.Test.YtjlfacdmfcbjfaaHexP
import Derived.OwnWalk
import Derived.Lib.AppendStr
import Derived.Deep.RegionHeld3
import Derived.Deep.AppendLies
import Derived.Deep.RegionLawGrows
import Derived.Lib.SlBytesConst
import Derived.Laws.BytesArg
set_option linter.unusedVariables false
namespace Go.Proofs.Ytjlfacdmfcbjfaa
open Go.RowKit

theorem info_u8 : (Try.prog.info? 5).map (fun i => (i.zero, i.size, i.bytes)) = some (some (.int .u8 0), 1, 1) := by kernel_rfl

theorem idx_bytes {xs : List Int} (h : xs.length = 32) {k : Nat} (hk : k < 32) (w : World) :
    (Instr.index 25 (.agg (bytesV xs)) (.int .i64 (k : Int))).run Try.prog w = .ok (.int .u8 (xs.getD k 0)) w := by
  have hsz : Sem.run Try.prog (sizeOf 5) w = .ok 1 w := by kernel_rfl
  have hlt : ¬ 32 ≤ k := by omega
  have hc := bytesV_at (xs := xs) (i := k) (by omega)
  simp [Instr.index, run_underlying Try.underlying25, asIntOf, hlt, hsz, part, hc, go_sem]

/-- The slice that holds what has been written so far: the first 2 + 2 k bytes. -/
def FmR (w : World) (xs : List Int) (v i : Value) (wr : World) : Prop :=
  ∃ (k g cap : Nat), k ≤ 32 ∧ i = .int .i64 k ∧ v = .slice (some ⟨g, 0, none⟩) (2 + 2 * k) cap ∧ wr.ownsRow (w.heap.size + 1) 5 1 v (2 + 2 * k) ((48 :: 120 :: hexL (xs.take k)).map (Value.int .u8)) ∧
    Below w.heap.size w wr ∧ w.heap.size + 1 ≤ wr.heap.size

theorem hexL_take {xs : List Int} {k : Nat} (h : k < xs.length) : hexL (xs.take (k + 1)) = hexL (xs.take k) ++ [hexd (xs.getD k 0 / 16), hexd (xs.getD k 0 % 16)] := by
  rw [List.take_succ_eq_append_getElem h, hexL_snoc]
  simp [List.getD, List.getElem?_eq_getElem h]

theorem and15 {x : Int} (h0 : 0 ≤ x) (h1 : x ≤ 255) : bits .and .u8 x 15 = x % 16 := by
  obtain ⟨a, rfl⟩ := Int.eq_ofNat_of_zero_le h0
  have key : ∀ x : Fin 256, bits .and .u8 (x.val : Int) 15 = (x.val : Int) % 16 := by decide +kernel
  exact key ⟨a, by omega⟩

theorem FmR.start {w wr : World} {xs : List Int} {v : Value} (h : wr.ownsRow (w.heap.size + 1) 5 1 v 2 [.int .u8 48, .int .u8 120]) (hb : Below w.heap.size w wr) (hs : w.heap.size + 1 ≤ wr.heap.size) : FmR w xs v (.int .i64 0) wr := by
  obtain ⟨g, cap, rfl, _, hlt⟩ := h.form (by omega)
  exact ⟨0, g, cap, by omega, rfl, rfl, h, hb, hs⟩

theorem FmR.next {w w1 : World} {xs : List Int} {k g1 cap1 : Nat} {a b : Int} (hx : xs.length = 32) (hk : k < 32) (ha : a = hexd (xs.getD k 0 / 16)) (hb' : b = hexd (xs.getD k 0 % 16))
    (h : w1.ownsRow (w.heap.size + 1) 5 1 (.slice (some ⟨g1, 0, none⟩) (2 + 2 * k + 2) cap1) (2 + 2 * k + 2) ((48 :: 120 :: hexL (xs.take k)).map (Value.int .u8) ++ [.int .u8 a, .int .u8 b]))
    (hb : Below w.heap.size w w1) (hs : w.heap.size + 1 ≤ w1.heap.size) : FmR w xs (.slice (some ⟨g1, 0, none⟩) (2 + 2 * k + 2) cap1) (.int .i64 ((k : Int) + 1)) w1 := by
  subst ha hb'
  refine ⟨k + 1, g1, cap1, by omega, rfl, by rw [show 2 + 2 * k + 2 = 2 + 2 * (k + 1) by omega], ?_, hb, hs⟩
  rw [hexL_take (by omega)]
  rw [show 2 + 2 * (k + 1) = 2 + 2 * k + 2 by omega]
  simpa using h

/-- The string at the end. -/
theorem FmR.done {w wr : World} {xs : List Int} {g cap : Nat} (hx : xs.length = 32) (h : wr.ownsRow (w.heap.size + 1) 5 1 (.slice (some ⟨g, 0, none⟩) (2 + 2 * 32) cap) (2 + 2 * 32) ((48 :: 120 :: hexL (xs.take 32)).map (Value.int .u8))) :
    (convert 22 9 (.slice (some ⟨g, 0, none⟩) (2 + 2 * 32) cap)).run Try.prog wr = .ok (.string (rootT xs)) wr := by
  have e : xs.take 32 = xs := List.take_of_length_le (by omega)
  rw [e] at h
  unfold rootT
  have hl : (48 :: 120 :: hexL xs).length = 66 := by simp [hexL_length, hx]
  refine run_convert_bytes_arg wr 22 5 (by kernel_rfl) (by kernel_rfl) g 0 (2 + 2 * 32) cap (48 :: 120 :: hexL xs) hl (fun i hi => ?_) 9 (by kernel_rfl)
  rw [Nat.zero_add, h.cellAt i (by omega), List.getElem?_map, List.getD_eq_getElem?_getD, List.getElem?_eq_getElem (by omega)]
  rfl

set_option maxRecDepth 100000 in
set_option maxHeartbeats 4000000 in
theorem fR_any (xs : List Int) (hx : IsBytes 32 xs) (w : World) :
    Calls Try.prog 48 #[.agg (bytesV xs)] w fun e w' => e = .returned (.string (rootT xs)) ∧ Below w.heap.size w w' := by
  obtain ⟨i0, hi, hz0, hz1, hz2⟩ := info_parts info_u8
  obtain ⟨X, HX⟩ : ∃ X, Hid (X = bytesV xs) := ⟨_, rfl⟩
  have HL := Lib.hid hx.1
  have hX32 : X.size = 32 := by rw [HX.out]; exact bytesV_size hx.1
  rw [← HX.out]
  go_enter Try.func48, Try.ntmps48
  go_wp2_with (first
    | (refine wpList_make_own _ rfl _ _ 22 rfl (w.heap.size + 1) 5 i0 (.int .u8 0) 1 Try.underlying22 hi hz0 hz1 .i64 .i64 66 66 rfl rfl rfl (by rw [hz2]; decide) (by decide) (by simp) ?_; intro w1 hown1 hgrow1; rw [World.size_alloc] at hown1)
    | (at_builtin; refine Lib.wpList_append_own_string _ rfl _ _ 22 9 rfl (w.heap.size + 1) 5 i0 Try.underlying22 Try.underlying9 hi hz0 hz1 hz2 (.slice (some ⟨w.heap.size + 1, 0, none⟩) 0 66) 0 [] rfl hown1 ⟨#[48, 120]⟩ rfl (by decide) (by decide) (by have := hgrow1.size; simp at this; omega) ?_; intro v2 w2 hown2 hgrow2 hnil2; clear hnil2; have bX := ((Blk.new (w := w) (t := 25) (cs := X) rfl).grown hgrow1 (by simp)).grown hgrow2 (by simp [Value.ownBlock]))
    | (refine wpList_load_blk rfl 25 _ rfl w.heap.size rfl X _ bX Try.underlying25 rfl (by rw [hX32]; kernel_rfl) ?_))
  have hs1 := hgrow1.size
  have hs2 := hgrow2.size
  have hb1 : Below w.heap.size w w1 := ((Below.refl _ _).alloc (Nat.le_refl _) _).grown hgrow1 (by simp) (fun k hk => by cases hk)
  have hb2 : Below w.heap.size w w2 := hb1.grown hgrow2 (by simp at hs1; omega) (fun k hk => by simp [Value.ownBlock] at hk; omega)
  have hw2 : w.heap.size + 1 ≤ w2.heap.size := by simp at hs1; omega
  clear hown1 hgrow1 hgrow2 hb1 hs1 hs2 bX
  have hst := Lib.hid (FmR.start (xs := xs) (wr := w2) (v := v2) hown2 hb2 hw2)
  clear hown2 hb2 hw2
  go_loopw [3, 10] (fun v i wr => FmR w xs v i wr) (fun _ i _ => 32 - (intOf i).toNat)
  case atStart => exact hst.out
  case round =>
    obtain ⟨k, g, cap, hk, rfl, rfl, hown, hb, hs⟩ := hrel
    clear hst
    by_cases hlt : k < 32
    · obtain ⟨x, HXk⟩ : ∃ x, Hid (x = xs.getD k 0) := ⟨_, rfl⟩
      have hidx := idx_bytes hx.1 hlt
      rw [← HX.out, ← HXk.out] at hidx
      have rx := hx.at hlt
      rw [← HXk.out] at rx
      have hand := and15 rx.1 rx.2
      obtain ⟨hi', ehi⟩ : ∃ m : Nat, x / 16 = m := ⟨(x / 16).toNat, by omega⟩
      obtain ⟨lo, elo⟩ : ∃ m : Nat, x % 16 = m := ⟨(x % 16).toNat, by omega⟩
      rw [elo] at hand
      have hh : hi' < 16 := by omega
      have hl : lo < 16 := by omega
      have cell1 := hex_at' hh
      have cell2 := hex_at' hl
      obtain ⟨y1, hy1⟩ : ∃ y, hexd (hi' : Int) = y := ⟨_, rfl⟩
      obtain ⟨y2, hy2⟩ : ∃ y, hexd (lo : Int) = y := ⟨_, rfl⟩
      rw [hy1] at cell1
      rw [hy2] at cell2
      have HY1 := Lib.hid (show y1 = hexd (xs.getD k 0 / 16) by rw [← HXk.out, ehi, hy1])
      have HY2 := Lib.hid (show y2 = hexd (xs.getD k 0 % 16) by rw [← HXk.out, elo, hy2])
      clear hy1 hy2
      have hi0' : (0 : Int) ≤ (hi' : Int) := by omega
      have hi1' : (hi' : Int) < 16 := by omega
      have lo0' : (0 : Int) ≤ (lo : Int) := by omega
      have lo1' : (lo : Int) < 16 := by omega
      have hk0 : (0 : Int) ≤ (k : Int) := by omega
      have hk2 : (k : Int) < 32 := by omega
      have HE := Lib.hid elo; clear elo
      have HLT := hown.lt
      have h64 : 2 + 2 * k ≤ 66 := by omega
      go_wp2_with fail
      go_region_held3 (fun _ => True) (trivial)
        ((refine step_append_lies _ (by rfl) _ _ _ (by rfl) (w.heap.size + 1) 5 i0 (.int .u8 0) 1 1 Try.underlying22 hi hz0 hz1 hz2 rfl (by omega) (.slice (some ⟨g, 0, none⟩) (2 + 2 * k) cap) (2 + 2 * k) _ (by rfl) ((hown.alloc _).drew) ⟨wr.heap.size, 0, none⟩ 2 2 [.int .u8 y1, .int .u8 y2] (by rfl) (by rfl) (World.news_of_block (cs := #[.int .u8 y1, .int .u8 y2]) (t := 5) (fr := (0, 0)) (heap_alloc_new wr _)) (by simp [Value.oneCell']) (by omega) (by unfold maxLen; omega) (by omega) (by simp; omega) (wr.heap.size + 1) (by simp) ?_; intro g1 cap1 w1 hown1 hgrow hat hlt1))
      all_goals
        have hb1 : Below w.heap.size w w1 := ((hb.alloc hb.size _).drew).grown hgrow (by simp; omega) (fun m hm => by have := HLT m hm; omega)
        have hs1 : w.heap.size + 1 ≤ w1.heap.size := by have := hgrow.size; simp at this; omega
        have HN := Lib.hid (FmR.next HL.out hlt HY1.out HY2.out hown1 hb1 hs1)
        clear hown1 hgrow hat
        first
          | exact ⟨HN.out, by simp [intOf]; omega⟩
          | (go_wp2_with fail
             first
               | exact ⟨HN.out, by simp [intOf]; omega⟩
               | (go_roundw
                  case rel => exact HN.out
                  case measure => simp [intOf]; omega))
    · obtain rfl : k = 32 := by omega
      have hcv := FmR.done HL.out hown
      go_wp2_with fail
      go_ret
      exact ⟨rfl, hb⟩

/-- The reference's: the array stays in its box; at first the slice lies in a block whose end is marked. -/
def FmR2 (w : World) (xs : List Int) (v i : Value) (wr : World) : Prop :=
  (FmR w xs v i wr ∨ (i = .int .i64 (0 : Nat) ∧ v = .slice (some ⟨w.heap.size + 1, 0, none⟩) 2 2 ∧ Below w.heap.size w wr ∧ w.heap.size + 1 < wr.heap.size ∧
    wr.cell? ⟨w.heap.size + 1, 0, none⟩ = some (.int .u8 48) ∧ wr.cell? ⟨w.heap.size + 1, 1, none⟩ = some (.int .u8 120))) ∧ Blk wr w.heap.size (bytesV xs)

theorem cell_new {w : World} {n : Nat} {cs : Array Value} {t : TypeId} {fr : Nat × Nat} (h : n = w.heap.size) (j : Nat) : (w.alloc (.cells cs t fr)).cell? ⟨n, j, none⟩ = cs[j]? := by
  subst h
  exact cell_of_row _ _ j cs t fr (heap_alloc_new w _)

theorem owns_mono {w : World} {base base' : Nat} {e : TypeId} {size n : Nat} {v : Value} {xs : List Value} (h : w.ownsRow base e size v n xs) (hb : base' ≤ base) : w.ownsRow base' e size v n xs := by
  refine ⟨h.1, ?_⟩
  rcases h.2 with h' | ⟨g, cap, cur, h1, h2, h3⟩
  · exact .inl h'
  · exact .inr ⟨g, cap, cur, h1, by omega, h3⟩

end Go.Proofs.Ytjlfacdmfcbjfaa
