/- Stage 3: the walk of RootsTexts. -/
import Derived.Test.YtgleleccmpncnaaAwake3
import Derived.Test.YtgleleccmpncnaaHexR
import Derived.Deep.RegionWith
set_option linter.unusedVariables false
namespace Go.Proofs.Ytgleleccmpncnaa
open Go.RowKit

set_option maxHeartbeats 1000000 in
theorem rtexts_long (xs : List Int) (hx : IsBytes 32 xs) (s : ByteArray) (hs : s.size ≤ maxLen) (h : 500 < s.size) (w : World) :
    Calls Try.prog 6 #[.agg (bytesV xs), .string s] w fun e w' => e = .returned (.bool true) ∧ Below w.heap.size w w' := by
  have hsm : (s.size : Int) ≤ 9223372036854775807 := by unfold maxLen at hs; omega
  have h2 : (500 : Int) < (s.size : Int) := by omega
  obtain ⟨X, HX⟩ : ∃ X, bytesV xs = X := ⟨_, rfl⟩
  rw [HX]
  clear HX
  have hb : Below w.heap.size w (w.alloc (.cells X 37)) := (Below.refl _ _).alloc (Nat.le_refl _) _
  go_enter Try.func6, Try.ntmps6
  go_wp2_with (go_at_call 22; refine (awake3 _).mono ?_; rintro e w1 ⟨rfl, hb1⟩; replace hb := bel0 hb hb1)
  go_ret
  exact ⟨rfl, hb⟩

set_option maxHeartbeats 2000000 in
theorem rtexts_short (xs : List Int) (hx : IsBytes 32 xs) (s : ByteArray) (hs : s.size ≤ maxLen) (h : s.size ≤ 500) (w : World) :
    Calls Try.prog 6 #[.agg (bytesV xs), .string s] w fun e w' => e = .returned (.bool true) ∧ Below w.heap.size w w' := by
  have hsm : (s.size : Int) ≤ 500 := by omega
  have h2 : ¬ (500 : Int) < (s.size : Int) := by omega
  have D1 := fR_any xs hx
  have D5 := rfR_any xs hx
  obtain ⟨b1, b2, b3⟩ := root_back hx
  have hts : (rootT xs).size ≤ maxLen := by rw [rootT_size hx]; decide
  have D2 := fun w => pR_any (rootT xs) w hts
  rw [b2, b3] at D2
  obtain ⟨t, ht⟩ : ∃ t, rootT xs = t := ⟨_, rfl⟩
  rw [ht] at D1 D2 D5
  have D3 := fun w => pR_any s w hs
  have D4 := fun w => rpR_any s w hs
  have hvI := rootV_is s
  obtain ⟨v, hv⟩ : ∃ v, rootV s = v := ⟨_, rfl⟩
  obtain ⟨ev, hev⟩ : ∃ v, rootE s = v := ⟨_, rfl⟩
  rw [hv, hev] at D3 D4
  rw [hv] at hvI
  have q1 := eq_root hx hx
  have q2 := eq_root hvI hvI
  have e1 : decide (xs = xs) = true := by simp
  have e2 : decide (v = v) = true := by simp
  rw [e1] at q1
  rw [e2] at q2
  have hs1 : (bytesV xs).size = 32 := bytesV_size hx.1
  have hs2 : (bytesV v).size = 32 := bytesV_size hvI.1
  have ho1 := bytesV_one xs
  have ho2 := bytesV_one v
  obtain ⟨Z, hZ⟩ : ∃ Z, bytesV zero32' = Z := ⟨_, rfl⟩
  have hsz : Z.size = 32 := by rw [← hZ]; rfl
  obtain ⟨hz32, hst⟩ := zero_array (P := Try.prog) (t := 37) (n := 32) Z (by rw [← hZ]; kernel_rfl) hsz (by rw [← hZ]; kernel_rfl)
  obtain ⟨X, HX⟩ : ∃ X, bytesV xs = X := ⟨_, rfl⟩
  obtain ⟨V, HV⟩ : ∃ X, bytesV v = X := ⟨_, rfl⟩
  rw [HX] at D1 D2 D5 q1 hs1 ho1 ⊢
  rw [HV] at D3 D4 q2 hs2 ho2
  clear hv hev ht hts b1 b2 b3 HX HV hZ hst e1 e2
  have H1 := Lib.hid D1; clear D1
  have H2 := Lib.hid D2; clear D2
  have H3 := Lib.hid D3; clear D3
  have H4 := Lib.hid D4; clear D4
  have H5 := Lib.hid D5; clear D5
  have hb : Below w.heap.size w (w.alloc (.cells X 37)) := (Below.refl _ _).alloc (Nat.le_refl _) _
  have bA : Blk (w.alloc (.cells X 37)) w.heap.size X := Blk.new rfl
  go_enter Try.func6, Try.ntmps6
  go_wp2_with (first
    | ((with_reducible refine at_load (.tmp 2) ?_); refine wpList_load_g 37 _ rfl w.heap.size rfl X _ bA Try.underlying37 rfl (by rw [hs1]; kernel_rfl) (by kernel_rfl) ?_)
    | ((with_reducible refine at_load (.tmp 6) ?_); refine wpList_load_g 37 _ rfl w2.heap.size rfl X _ bX Try.underlying37 rfl (by rw [hs1]; kernel_rfl) (by kernel_rfl) ?_)
    | ((with_reducible refine at_load (.tmp 8) ?_); refine wpList_load_g 37 _ rfl w3.heap.size rfl V _ bY Try.underlying37 rfl (by rw [hs2]; kernel_rfl) (by kernel_rfl) ?_)
    | ((with_reducible refine at_load (.tmp 10) ?_); refine wpList_load_g 37 _ rfl w4.heap.size rfl V _ bZ Try.underlying37 rfl (by rw [hs2]; kernel_rfl) (by kernel_rfl) ?_)
    | ((with_reducible refine at_store (.tmp 6) ?_); refine wpList_store_blk rfl 37 _ _ rfl w2.heap.size X rfl rfl Z (Blk.new rfl) (by rw [hsz, hs1]) (by rw [hs1]; kernel_rfl) ho1 ?_; intro w2' U bX; have lA := bA.lt; replace bA := U.blk (bA.alloc _) (Nat.ne_of_lt lA); replace hb := U.below (hb.alloc hb.size _) hb.size; clear U lA)
    | ((with_reducible refine at_store (.tmp 8) ?_); refine wpList_store_blk rfl 37 _ _ rfl w3.heap.size V rfl rfl Z (Blk.new rfl) (by rw [hsz, hs2]) (by rw [hs2]; kernel_rfl) ho2 ?_; intro w3' U bY; have lA := bA.lt; have lX := bX.lt; replace bA := U.blk (bA.alloc _) (Nat.ne_of_lt lA); replace bX := U.blk (bX.alloc _) (Nat.ne_of_lt lX); replace hb := U.below (hb.alloc hb.size _) hb.size; clear U lA lX)
    | ((with_reducible refine at_store (.tmp 10) ?_); refine wpList_store_blk rfl 37 _ _ rfl w4.heap.size V rfl rfl Z (Blk.new rfl) (by rw [hsz, hs2]) (by rw [hs2]; kernel_rfl) ho2 ?_; intro w4' U bZ; have lA := bA.lt; have lX := bX.lt; have lY := bY.lt; replace bA := U.blk (bA.alloc _) (Nat.ne_of_lt lA); replace bX := U.blk (bX.alloc _) (Nat.ne_of_lt lX); replace bY := U.blk (bY.alloc _) (Nat.ne_of_lt lY); replace hb := U.below (hb.alloc hb.size _) hb.size; clear U lA lX lY)
    | (go_at_call 23; refine (H1.out _).mono ?_; rintro e w1 ⟨rfl, hb1⟩; replace bA := bA.call hb1; replace hb := bel0 hb hb1; clear hb1)
    | (go_at_call_of 24 t; refine (H2.out _).mono ?_; rintro e w2 ⟨rfl, hb2⟩; replace bA := bA.call hb2; replace hb := bel0 hb hb2; clear hb2)
    | (go_at_call_of 24 s; refine (H3.out _).mono ?_; rintro e w3 ⟨rfl, hb3⟩; replace bA := bA.call hb3; replace bX := bX.call hb3; replace hb := bel0 hb hb3; clear hb3)
    | (go_at_call 25; refine (H4.out _).mono ?_; rintro e w4 ⟨rfl, hb4⟩; replace bA := bA.call hb4; replace bX := bX.call hb4; replace bY := bY.call hb4; replace hb := bel0 hb hb4; clear hb4)
    | (go_at_call 26; refine (H5.out _).mono ?_; rintro e w5 ⟨rfl, hb5⟩; replace bA := bA.call hb5; replace bX := bX.call hb5; replace bY := bY.call hb5; replace bZ := bZ.call hb5; replace hb := bel0 hb hb5; clear hb5)
    | (go_at_call 22; refine (awake3 _).mono ?_; rintro e w6 ⟨rfl, hb6⟩; replace hb := bel0 hb hb6; clear hb6))
  go_ret
  exact ⟨rfl, hb⟩

theorem walk_RootsTexts (a0 : List Int) (a1 : ByteArray) (w : World) (w0 : a0.length = 32 ∧ ∀ x ∈ a0, (Lit.int .u8 x).wf = true) (w1 : a1.size ≤ maxLen) :
    Calls Try.prog 6 #[.agg (a0.map (Value.int .u8)).toArray, .string a1] w fun e w' => e = .returned (.bool true) ∧ Below w.heap.size w w' := by
  by_cases h : 500 < a1.size
  · exact rtexts_long a0 w0 a1 w1 h w
  · exact rtexts_short a0 w0 a1 w1 (by omega) w

end Go.Proofs.Ytgleleccmpncnaa
