/- The order of roots as plain mathematics; the sanity check of stage 3 answers true. -/
import Derived.Test.YtjlfacdmfcbjfaaCmp
import Derived.Test.YtjlfacdmfcbjfaaRow2
import Derived.Test.YtjlfacdmfcbjfaaHexQ
import Derived.Test.YtjlfacdmfcbjfaaHexF
set_option linter.unusedVariables false
namespace Go.Proofs.Ytjlfacdmfcbjfaa
open Go.RowKit

theorem cmpB_anti : ∀ (xs ys : List Int), xs.length = ys.length → cmpB ys xs = - cmpB xs ys
  | [], [], _ => rfl
  | [], _ :: _, h => by simp at h
  | _ :: _, [], h => by simp at h
  | x :: xs, y :: ys, h => by
    have ih := cmpB_anti xs ys (by simpa using h)
    simp only [cmpB]
    rcases Int.lt_trichotomy x y with h | h | h
    · rw [if_neg (by omega), if_pos h, if_pos h]; rfl
    · rw [if_neg (by omega), if_neg (by omega), if_neg (by omega), if_neg (by omega), ih]
    · rw [if_pos h, if_neg (by omega), if_pos h]

theorem cmpB_zero : ∀ (xs ys : List Int), xs.length = ys.length → (cmpB xs ys = 0 ↔ xs = ys)
  | [], [], _ => by simp [cmpB]
  | [], _ :: _, h => by simp at h
  | _ :: _, [], h => by simp at h
  | x :: xs, y :: ys, h => by
    have ih := cmpB_zero xs ys (by simpa using h)
    simp only [cmpB, List.cons.injEq]
    rcases Int.lt_trichotomy x y with h | h | h
    · rw [if_pos h]; omega
    · rw [if_neg (by omega), if_neg (by omega), ih]; simp [h]
    · rw [if_neg (by omega), if_pos h]; omega

theorem cmpB_rng : ∀ (xs ys : List Int), -1 ≤ cmpB xs ys ∧ cmpB xs ys ≤ 1
  | [], _ => by simp [cmpB]
  | _ :: _, [] => by simp [cmpB]
  | x :: xs, y :: ys => by
    have ih := cmpB_rng xs ys
    simp only [cmpB]
    split
    · omega
    · split
      · omega
      · exact ih

theorem cmpB_trans : ∀ (xs ys zs : List Int), xs.length = ys.length → ys.length = zs.length → cmpB xs ys ≤ 0 → cmpB ys zs ≤ 0 → cmpB xs zs ≤ 0
  | [], _, _, _, _, _, _ => by simp [cmpB]
  | _ :: _, [], _, h, _, _, _ => by simp at h
  | _ :: _, _ :: _, [], _, h, _, _ => by simp at h
  | x :: xs, y :: ys, z :: zs, h1, h2, h3, h4 => by
    have ih := cmpB_trans xs ys zs (by simpa using h1) (by simpa using h2)
    simp only [cmpB] at *
    rcases Int.lt_trichotomy x y with a | a | a
    · rcases Int.lt_trichotomy y z with b | b | b
      · rw [if_pos (by omega)]; omega
      · rw [if_pos (by omega)]; omega
      · rw [if_neg (by omega), if_pos b] at h4; omega
    · rcases Int.lt_trichotomy y z with b | b | b
      · rw [if_pos (by omega)]; omega
      · rw [if_neg (by omega), if_neg (by omega)] at h3 h4 ⊢; exact ih h3 h4
      · rw [if_neg (by omega), if_pos b] at h4; omega
    · rw [if_neg (by omega), if_pos a] at h3; omega

/-- A whole variable, read in a world of a class. -/
theorem Blk.loadFrom {P : Program} {w : World} {b n : Nat} {cs : Array Value} (h : Blk w b cs) (hn : cs.size = n) : (loadCellsFrom ⟨b, 0, none⟩ 0 n #[]).run P w = .ok cs w := by
  subst hn
  have := run_loadCells_list (P := P) w ⟨b, 0, none⟩ cs.toList (fun j v hv => by
    rw [Addr.add_mid]
    exact h.range j v hv)
  simpa [loadCells] using this

def one32 : List Int := 1 :: List.replicate 31 0
theorem one32_is : IsBytes 32 one32 := ⟨by decide, by decide⟩
theorem one32_cmp : cmpB one32 zero32' = 1 := by decide
theorem one32_ne : decide (one32 = zero32') = false := by decide
theorem zero32_eq : decide (zero32' = zero32') = true := by decide
theorem one32_head : ((rootT one32).extract 0 6).toList == [48, 120, 48, 49, 48, 48] := by decide +kernel

set_option maxRecDepth 100000 in
set_option maxHeartbeats 1000000 in
theorem awake3 (w : World) : Calls Try.prog 34 #[] w fun e w' => e = .returned (.bool true) ∧ Below w.heap.size w w' := by
  obtain ⟨rb1, rb2, rb3⟩ := root_back one32_is
  have ts := rootT_size one32_is
  have D1 := fR_any one32 one32_is
  have D2 := fun u => pR_any (rootT one32) u (by rw [ts]; decide)
  rw [rb2, rb3] at D2
  have D3 := rcmpRt_any one32 zero32' one32_is zero32'_is
  rw [one32_cmp] at D3
  have D4 := isZ_any zero32' zero32'_is
  rw [zero32_eq] at D4
  have D5 := isZ_any one32 one32_is
  rw [one32_ne] at D5
  have hhead := one32_head
  have heq := eq_root one32_is one32_is
  have ehq : decide (one32 = one32) = true := by decide
  rw [ehq] at heq
  have hs1 : (bytesV one32).size = 32 := rfl
  have ho1 : ∀ v ∈ bytesV one32, v.oneCell' = true := bytesV_one _
  have hbld : ∀ u, (Instr.build 25 #[(0, .int .u8 1)]).run Try.prog u = .ok (.agg (bytesV one32)) u := fun u => by kernel_rfl
  obtain ⟨Z, hZ⟩ : ∃ Z, bytesV zero32' = Z := ⟨_, rfl⟩
  have hsz : Z.size = 32 := by rw [← hZ]; rfl
  obtain ⟨hz32, hst⟩ := zero_array (P := Try.prog) (t := 25) (n := 32) Z (by rw [← hZ]; kernel_rfl) hsz (by rw [← hZ]; kernel_rfl)
  obtain ⟨X, HX⟩ : ∃ X, bytesV one32 = X := ⟨_, rfl⟩
  obtain ⟨t, ht⟩ : ∃ t, rootT one32 = t := ⟨_, rfl⟩
  rw [HX] at D1 D2 D3 D5 heq hs1 ho1 hbld
  rw [hZ] at D3 D4
  rw [ht] at D1 D2 hhead ts
  have hlen : ((t.size : Int) == 66) = true := by rw [ts]; rfl
  have hlen2 : (6 : Int) ≤ (t.size : Int) := by rw [ts]; decide
  clear hZ HX ht ts rb1 rb2 rb3 ehq hst
  have H1 := Lib.hid D1; clear D1
  have H2 := Lib.hid D2; clear D2
  have H3 := Lib.hid D3; clear D3
  have H4 := Lib.hid D4; clear D4
  have H5 := Lib.hid D5; clear D5
  have hb := Below.refl w.heap.size w
  go_enter Try.func34, Try.ntmps34
  go_wp2_with (first
    | ((with_reducible refine at_build (some 5) ?_); refine wpList_build rfl 25 _ rfl #[(0, .int .u8 1)] (by simp [Act.eval]) (.agg X) (hbld _) ?_)
    | ((with_reducible refine at_store (.tmp 1) ?_); refine wpList_store_blk rfl 25 _ _ rfl w.heap.size X rfl rfl Z (Blk.new rfl) (by rw [hsz, hs1]) (by rw [hs1]; kernel_rfl) ho1 ?_; intro w1 U1 bX; replace hb := U1.below (hb.alloc (Nat.le_refl _) _) (Nat.le_refl _); clear U1)
    | ((with_reducible refine at_load (.tmp 1) ?_); refine wpList_load_g 25 _ rfl w.heap.size rfl X _ bX Try.underlying25 rfl (by rw [hs1]; kernel_rfl) (by kernel_rfl) ?_)
    | ((with_reducible refine at_load (.tmp 3) ?_); refine wpList_load_g 25 _ rfl w3.heap.size rfl X _ bY Try.underlying25 rfl (by rw [hs1]; kernel_rfl) (by kernel_rfl) ?_)
    | (go_at_call 48; refine (H1.out _).mono ?_; rintro e w2 ⟨rfl, hb2⟩; replace bX := bX.call hb2; replace hb := bel0 hb hb2; clear hb2)
    | (go_at_call 49; refine (H2.out _).mono ?_; rintro e w3 ⟨rfl, hb3⟩; replace bX := bX.call hb3; replace hb := bel0 hb hb3; clear hb3)
    | ((with_reducible refine at_store (.tmp 3) ?_); refine wpList_store_blk rfl 25 _ _ rfl w3.heap.size X rfl rfl Z (Blk.new rfl) (by rw [hsz, hs1]) (by rw [hs1]; kernel_rfl) ho1 ?_; intro w4 U4 bY; have lX := bX.lt; replace bX := U4.blk (bX.alloc _) (Nat.ne_of_lt lX); replace hb := U4.below (hb.alloc hb.size _) hb.size; clear U4 lX)
    | (go_at_call 50; refine (H3.out _).mono ?_; rintro e w5 ⟨rfl, hb5⟩; replace bX := bX.call hb5; replace bY := bY.call hb5; replace hb := bel0 hb hb5; clear hb5)
    | (go_at_call_of 51 Z; refine (H4.out _).mono ?_; rintro e w6 ⟨rfl, hb6⟩; replace bX := bX.call hb6; replace bY := bY.call hb6; replace hb := bel0 hb hb6; clear hb6)
    | (go_at_call_of 51 X; refine (H5.out _).mono ?_; rintro e w7 ⟨rfl, hb7⟩; replace hb := bel0 hb hb7; clear hb7))
  go_ret
  exact ⟨rfl, hb⟩

end Go.Proofs.Ytjlfacdmfcbjfaa
