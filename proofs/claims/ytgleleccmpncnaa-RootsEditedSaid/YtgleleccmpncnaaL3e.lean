/- Stage 3: the walk of RootsEdited. -/
import Derived.Test.YtgleleccmpncnaaAwake3
import Derived.Test.YtgleleccmpncnaaHexR
import Derived.Deep.RegionWith
import Derived.Deep.RegionHeld3
set_option linter.unusedVariables false
namespace Go.Proofs.Ytgleleccmpncnaa
open Go.RowKit

theorem and16 (x : Int) : ∃ m : Nat, m ≤ 65535 ∧ bits .and .i64 x 65535 = m := by
  refine ⟨((BitVec.ofInt 64 x) &&& (BitVec.ofInt 64 65535)).toNat, ?_, ?_⟩
  · rw [BitVec.toNat_and]
    exact Nat.le_trans Nat.and_le_right (by decide)
  · have h : ((BitVec.ofInt 64 x) &&& (BitVec.ofInt 64 65535)).toNat ≤ 65535 := by
      rw [BitVec.toNat_and]
      exact Nat.le_trans Nat.and_le_right (by decide)
    show IntKind.i64.wrap ((BitVec.ofInt 64 x &&& BitVec.ofInt 64 65535).toNat : Int) = _
    rw [IntKind.wrap_i64]
    omega

theorem storeZ {P : Program} {t : TypeId} {w : World} {b : Nat} {cs Z : Array Value} (hB : Blk w b cs) (hs : cs.size = Z.size) (h1 : ∀ v ∈ Z, v.oneCell' = true) :
    (storeCells ⟨b, 0, none⟩ Z.toList 0).run P w = .ok () (w.setCells b 0 Z.toList) := by
  have hth : w.there b 0 Z.size := by rw [← hs]; exact hB.isThere
  have := run_storeCells_cells (P := P) b 0 Z.toList 0 w (fun j hj => by simpa using (hth j (by simpa using hj)).1) (fun j hj => by simpa using (hth j (by simpa using hj)).2) (fun v hv => h1 v (by simpa using hv))
  simpa using this

theorem thereOf {w : World} {b n : Nat} {cs : Array Value} (h : Blk w b cs) (hn : cs.size = n) : w.there b 0 n := hn ▸ h.isThere
theorem thereNew (w : World) (cs : Array Value) (t : TypeId) {n : Nat} (hn : cs.size = n) : (w.alloc (.cells cs t)).there w.heap.size 0 n := thereOf (Blk.new rfl) hn

theorem below_setCells {N : Nat} {w0 w : World} {b : Nat} {vs : List Value} {cs : Array Value} (h : Below N w0 w) (hB : Blk w b cs) (hN : N ≤ b) : Below N w0 (w.setCells b 0 vs) := by
  obtain ⟨_, _, _, hU⟩ := setCells_blk vs 0 cs hB
  exact hU.below h hN

theorem afterA {w w5 u2 : World} {x y : Nat} {V Z : Array Value} (hu : Below w5.heap.size w5 u2) (bT : Blk u2 w5.heap.size Z) (hb : Below w.heap.size w w5) (bX : Blk w5 x V) (bY : Blk w5 y V) :
    Below w.heap.size w (u2.setCells w5.heap.size 0 Z.toList) ∧ Blk (u2.setCells w5.heap.size 0 Z.toList) x V ∧ Blk (u2.setCells w5.heap.size 0 Z.toList) y V := by
  obtain ⟨_, _, _, hU⟩ := setCells_blk Z.toList 0 Z bT
  have lX := bX.lt
  have lY := bY.lt
  exact ⟨hU.below (bel0 hb hu) hb.size, hU.blk (bX.call hu) (by omega), hU.blk (bY.call hu) (by omega)⟩

theorem afterB {w w5 u2 : World} {x y : Nat} {V Z : Array Value} {t : TypeId} (hu : Below w5.heap.size w5 u2) (hb : Below w.heap.size w w5) (bX : Blk w5 x V) (bY : Blk w5 y V) :
    Below w.heap.size w ((u2.alloc (.cells Z t)).setCells u2.heap.size 0 Z.toList) ∧ Blk ((u2.alloc (.cells Z t)).setCells u2.heap.size 0 Z.toList) x V ∧ Blk ((u2.alloc (.cells Z t)).setCells u2.heap.size 0 Z.toList) y V := by
  obtain ⟨_, _, _, hU⟩ := setCells_blk Z.toList 0 Z (Blk.new (w := u2) (t := t) rfl)
  have lX := (bX.call hu).lt
  have lY := (bY.call hu).lt
  have hb2 := bel0 hb hu
  exact ⟨hU.below (hb2.alloc hb2.size _) hb2.size, hU.blk ((bX.call hu).alloc _) (by omega), hU.blk ((bY.call hu).alloc _) (by omega)⟩

set_option maxRecDepth 100000 in
set_option maxHeartbeats 4000000 in
theorem edited_any (xs : List Int) (hx : IsBytes 32 xs) (at_ c : Int) (hat : -9223372036854775808 ≤ at_ ∧ at_ ≤ 9223372036854775807) (hc : 0 ≤ c ∧ c ≤ 255) (w : World) :
    Calls Try.prog 7 #[.agg (bytesV xs), .int .i64 at_, .int .u8 c] w fun e w' => e = .returned (.bool true) ∧ Below w.heap.size w w' := by
  have D1 := rfR_any xs hx
  have ts := rootT_size hx
  obtain ⟨t, ht⟩ : ∃ t, rootT xs = t := ⟨_, rfl⟩
  rw [ht] at D1 ts
  obtain ⟨m, hm, hand⟩ := and16 at_
  obtain ⟨j, hj⟩ : ∃ j : Nat, (m : Int) % 66 = j := ⟨((m : Int) % 66).toNat, by omega⟩
  have hj66 : j < 66 := by omega
  obtain ⟨s1, e1⟩ : ∃ s, t.extract 0 j ++ strOfNums [c] = s := ⟨_, rfl⟩
  obtain ⟨s2, e2⟩ : ∃ s, s1 ++ t.extract (j + 1) t.size = s := ⟨_, rfl⟩
  obtain ⟨s3, e3⟩ : ∃ s, t.extract 0 j ++ t.extract (j + 1) t.size = s := ⟨_, rfl⟩
  have z0 : (t.extract 0 j).size = j := by rw [ByteArray.size_extract]; omega
  have z4 : (t.extract (j + 1) t.size).size = 65 - j := by rw [ByteArray.size_extract]; omega
  have z1 : s1.size = j + 1 := by rw [← e1, ByteArray.size_append, strOfNums_size, z0]; rfl
  have z2 : s2.size = 66 := by rw [← e2, ByteArray.size_append, z1, z4]; omega
  have z3 : s3.size = 65 := by rw [← e3, ByteArray.size_append, z0, z4]; omega
  have hcat1 : ∀ u : World, (Op.stringOp .add (t.extract 0 j) (strOfNums [c])).run Try.prog u = .ok (.string s1) u := fun u => by
    rw [run_string_add_sum u _ _ (by rw [z0, strOfNums_size]; simp; omega), e1]
  have hcat2 : ∀ u : World, (Op.stringOp .add s1 (t.extract (j + 1) t.size)).run Try.prog u = .ok (.string s2) u := fun u => by
    rw [run_string_add_sum u _ _ (by rw [z1, z4]; omega), e2]
  have hcat3 : ∀ u : World, (Op.stringOp .add (t.extract 0 j) (t.extract (j + 1) t.size)).run Try.prog u = .ok (.string s3) u := fun u => by
    rw [run_string_add_sum u _ _ (by rw [z0, z4]; omega), e3]
  have hconv : ∀ (u : World) (b : Nat) (ty : TypeId), b = u.heap.size → (convert 44 9 (.slice (some ⟨b, 0, none⟩) 1 1)).run Try.prog (u.alloc (.cells #[.int .u8 c] ty)) = .ok (.string (strOfNums [c])) (u.alloc (.cells #[.int .u8 c] ty)) := fun u b ty hb => by
    subst hb
    exact run_convert_bytes_arg _ 44 5 (by kernel_rfl) (by kernel_rfl) u.heap.size 0 1 1 [c] rfl (fun i hi => by
      obtain rfl : i = 0 := by omega
      rw [(Blk.new (w := u) (t := ty) (cs := #[.int .u8 c]) rfl).cell]; rfl) 9 (by kernel_rfl)
  have hconv2 : ∀ (u : World) (b : Nat) (ty : TypeId), b = u.heap.size → (convert 44 9 (.slice (some ⟨b, 0, none⟩) 1 1)).run Try.prog (u.alloc (.cells #[.int .u8 c] ty)).drew = .ok (.string (strOfNums [c])) (u.alloc (.cells #[.int .u8 c] ty)).drew := fun u b ty hb => by
    subst hb
    exact run_convert_bytes_arg _ 44 5 (by kernel_rfl) (by kernel_rfl) u.heap.size 0 1 1 [c] rfl (fun i hi => by
      obtain rfl : i = 0 := by omega
      rw [(blk_drew2 (Blk.new (w := u) (t := ty) (cs := #[.int .u8 c]) rfl)).cell]; rfl) 9 (by kernel_rfl)
  have D2 := fun w => pR_any s2 w (by rw [z2]; decide)
  have D3 := fun w => rpR_any s2 w (by rw [z2]; decide)
  have D4 := fun w => pR_any s3 w (by rw [z3]; decide)
  have hB3 : rootB s3 = false := by unfold rootB; simp [z3]
  obtain ⟨n1, n2⟩ := rootV_no hB3
  rw [n1, n2] at D4
  have hvI := rootV_is s2
  obtain ⟨v, hv⟩ : ∃ v, rootV s2 = v := ⟨_, rfl⟩
  obtain ⟨ev, hev⟩ : ∃ v, rootE s2 = v := ⟨_, rfl⟩
  rw [hv, hev] at D2 D3
  rw [hv] at hvI
  have q2 := eq_root hvI hvI
  have ed2 : decide (v = v) = true := by simp
  rw [ed2] at q2
  have hs1 : (bytesV xs).size = 32 := bytesV_size hx.1
  have hs2 : (bytesV v).size = 32 := bytesV_size hvI.1
  have ho2 := bytesV_one v
  have hoZ := bytesV_one zero32
  obtain ⟨Z, hZ⟩ : ∃ Z, bytesV zero32 = Z := ⟨_, rfl⟩
  have hsz : Z.size = 32 := by rw [← hZ]; rfl
  obtain ⟨hz32, hst⟩ := zero_array (P := Try.prog) (t := 37) (n := 32) Z (by rw [← hZ]; kernel_rfl) hsz (by rw [← hZ]; kernel_rfl)
  rw [hZ] at D4 hoZ
  obtain ⟨X, HX⟩ : ∃ X, bytesV xs = X := ⟨_, rfl⟩
  obtain ⟨V, HV⟩ : ∃ X, bytesV v = X := ⟨_, rfl⟩
  rw [HX] at D1 hs1 ⊢
  rw [HV] at D2 D3 q2 hs2 ho2
  have ht66 : (t.size : Int) = 66 := by rw [ts]; rfl
  have b1 : (0 : Int) ≤ (j : Int) := by omega
  have b2 : (j : Int) ≤ (t.size : Int) := by omega
  have b3 : (j : Int) + 1 ≤ (t.size : Int) := by omega
  have b7 : (j : Int) ≤ 66 := by omega
  have b8 : (j : Int) + 1 ≤ 66 := by omega
  have b4 : IntKind.i64.wrap ((j : Int) + 1) = (j : Int) + 1 := IntWalk.i64_in _ (by omega)
  have b5 : (0 : Int) ≤ (j : Int) + 1 := by omega
  have b6 : ((j : Int) + 1).toNat = j + 1 := by omega
  have hm0 : (0 : Int) ≤ (m : Int) := by omega
  have hm1 : (m : Int) ≤ 65535 := by omega
  have hj1 : j ≤ 65 := by omega
  have TS := Lib.hid ts
  clear hv hev ht HX HV hZ ed2 e1 e2 e3 z0 z4 z1 z2 z3 n1 n2 hB3 ts
  have H1 := Lib.hid D1; clear D1
  have H2 := Lib.hid D2; clear D2
  have H3 := Lib.hid D3; clear D3
  have H4 := Lib.hid D4; clear D4
  have hb : Below w.heap.size w (w.alloc (.cells X 37)) := (Below.refl _ _).alloc (Nat.le_refl _) _
  have bA : Blk (w.alloc (.cells X 37)) w.heap.size X := Blk.new rfl
  go_enter Try.func7, Try.ntmps7
  go_wp2_with (first
    | ((with_reducible refine at_load (.tmp 3) ?_); refine wpList_load_g 37 _ rfl w.heap.size rfl X _ bA Try.underlying37 rfl (by rw [hs1]; kernel_rfl) (by kernel_rfl) ?_)
    | (go_at_call 26; refine (H1.out _).mono ?_; rintro e w1 ⟨rfl, hb1⟩; replace hb := bel0 hb hb1; clear hb1 bA))
  rw [hj]
  clear hj hand hm0 hm1 hm hat
  go_region_with (fail)
  have hb2 : Below w.heap.size w ((w1.alloc (.cells #[.int .u8 c] 5)).drew) := (hb.alloc hb.size _).drew
  generalize ((w1.alloc (.cells #[.int .u8 c] 5)).drew) = w2 at hb2 ⊢
  clear hb hconv hconv2 hcat1 hcat2
  go_wp2_with (first
    | (go_at_call 24; refine (H2.out _).mono ?_; rintro e w3 ⟨rfl, hb3⟩; replace hb2 := bel0 hb2 hb3; clear hb3)
    | (go_at_call 25; refine (H3.out _).mono ?_; rintro e w4 ⟨rfl, hb4⟩; replace bX := bX.call hb4; replace hb2 := bel0 hb2 hb4; clear hb4)
    | ((with_reducible refine at_store (.tmp 10) ?_); refine wpList_store_blk rfl 37 _ _ rfl w3.heap.size V rfl rfl Z (Blk.new rfl) (by rw [hsz, hs2]) (by rw [hs2]; kernel_rfl) ho2 ?_; intro w3' U bX; replace hb2 := U.below (hb2.alloc hb2.size _) hb2.size; clear U)
    | ((with_reducible refine at_store (.tmp 12) ?_); refine wpList_store_blk rfl 37 _ _ rfl w4.heap.size V rfl rfl Z (Blk.new rfl) (by rw [hsz, hs2]) (by rw [hs2]; kernel_rfl) ho2 ?_; intro w5 U bY; have lX := bX.lt; replace bX := U.blk (bX.alloc _) (Nat.ne_of_lt lX); replace hb2 := U.below (hb2.alloc hb2.size _) hb2.size; clear U lX))
  have lX := bX.lt
  have lY := bY.lt
  have BX := Lib.hid bX; clear bX
  have BY := Lib.hid bY; clear bY
  have HB := Lib.hid hb2; clear hb2
  have hoZL : ∀ v ∈ Z.toList, v.oneCell' = true := fun v hv => hoZ v (by simpa using hv)
  have hi32 : (Try.prog.info? 37).map (·.size) = some 32 := by kernel_rfl
  go_region_held3 (fun _ => True) (trivial)
    (first
      | (go_at_call 24; refine (H4.out _).mono ?_; rintro e u2 ⟨rfl, hb5⟩; have hu2 : Below w5.heap.size w5 u2 := (by first | exact bel0 (keep_drew' _) hb5 | exact bel0 (((Below.refl _ _).alloc (Nat.le_refl _) _).drew) hb5); have hth2 := thereNew u2 Z 37 hsz; first | (have bT := Blk.call hb5 (blk_drew2 (Blk.new (n := w5.heap.size) rfl)); have hth := thereOf bT hsz) | skip))
  all_goals
    clear hoZL hi32 hst
    first
      | (have K := afterA hu2 bT HB.out BX.out BY.out; clear bT hth hth2 hu2; generalize (World.setCells u2 w5.heap.size 0 Z.toList) = W at K ⊢)
      | (have K := afterB (t := 37) (Z := Z) hu2 HB.out BX.out BY.out; clear hth2 hu2; generalize (World.setCells (World.alloc u2 (.cells Z 37)) u2.heap.size 0 Z.toList) = W at K ⊢)
    obtain ⟨hbW, BXW, BYW⟩ := K
    go_wp2_with (first
      | ((with_reducible refine at_load (.tmp 10) ?_); refine wpList_load_g 37 _ rfl w3.heap.size rfl V _ BXW Try.underlying37 rfl (by rw [hs2]; kernel_rfl) (by kernel_rfl) ?_)
      | ((with_reducible refine at_load (.tmp 12) ?_); refine wpList_load_g 37 _ rfl w4.heap.size rfl V _ BYW Try.underlying37 rfl (by rw [hs2]; kernel_rfl) (by kernel_rfl) ?_)
      | (go_at_call 22; refine (awake3 _).mono ?_; rintro e w6 ⟨rfl, hb6⟩; replace hbW := bel0 hbW hb6; clear hb6))
    go_ret
    exact ⟨rfl, hbW⟩

theorem walk_RootsEdited (a0 : List Int) (a1 a2 : Int) (w : World) (w0 : a0.length = 32 ∧ ∀ x ∈ a0, (Lit.int .u8 x).wf = true) (w1 : (Lit.int .i64 a1).wf = true) (w2 : (Lit.int .u8 a2).wf = true) :
    Calls Try.prog 7 #[.agg (a0.map (Value.int .u8)).toArray, .int .i64 a1, .int .u8 a2] w fun e w' => e = .returned (.bool true) ∧ Below w.heap.size w w' :=
  edited_any a0 w0 a1 a2 (wf_i64 w1) (wf_u8 w2) w

end Go.Proofs.Ytgleleccmpncnaa
