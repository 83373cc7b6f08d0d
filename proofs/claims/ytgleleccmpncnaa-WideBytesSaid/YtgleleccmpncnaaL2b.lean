/- Stage 2: the walk of WideBytes. -/
import Derived.Test.YtgleleccmpncnaaAwake2
import Derived.Test.YtgleleccmpncnaaRow2
import Derived.Test.YtgleleccmpncnaaToB
import Derived.Test.YtgleleccmpncnaaByteOrd
import Derived.Test.YtgleleccmpncnaaOpenW
import Derived.Deep.RegionWith
import Derived.Test.YtgleleccmpncnaaOwn2
set_option linter.unusedVariables false
namespace Go.Proofs.Ytgleleccmpncnaa
open Go.RowKit

theorem eq_bytesV (n : Int) (w : World) : Sem.run Try.prog (Op.equalIn 10000 31 (.agg (bytesV (bytesN n))) (.agg (bytesV (bytesN n)))) w = .ok true w := eq_bytes n w

set_option maxRecDepth 100000 in
set_option maxHeartbeats 4000000 in
theorem bytes_any (n m : Int) (hn : W256 n) (hm : W256 m) (w : World) :
    Calls Try.prog 4 #[.agg #[.int .u64 (l0 (n)), .int .u64 (l1 (n)), .int .u64 (l2 (n)), .int .u64 (l3 (n))], .agg #[.int .u64 (l0 (m)), .int .u64 (l1 (m)), .int .u64 (l2 (m)), .int .u64 (l3 (m))]] w fun e w' => e = .returned (.bool true) ∧ Below w.heap.size w w' := by
  have D1 := toB_any n hn
  have D2 := toB_any m hm
  have ho1 := bytesV_one (bytesN n)
  have ho2 := bytesV_one (bytesN m)
  have hs1 : (bytesV (bytesN n)).size = 32 := bytesV_size (bytesN_is n).1
  have hs2 : (bytesV (bytesN m)).size = 32 := bytesV_size (bytesN_is m).1
  have hZ0 : bytesV (List.replicate 32 0) = Array.replicate 32 (Value.int .u8 0) := rfl
  obtain ⟨Z, hZ⟩ : ∃ Z, Array.replicate 32 (Value.int .u8 0) = Z := ⟨_, rfl⟩
  have hsz : Z.size = 32 := by rw [← hZ]; rfl
  obtain ⟨hz32, hst⟩ := zero_array (P := Try.prog) (t := 31) (n := 32) Z (by rw [← hZ]; kernel_rfl) hsz (by rw [← hZ]; kernel_rfl)
  obtain ⟨X, HX⟩ : ∃ X, bytesV (bytesN n) = X := ⟨_, rfl⟩
  obtain ⟨Y, HY⟩ : ∃ X, bytesV (bytesN m) = X := ⟨_, rfl⟩
  have e1 : ((bytesN n).map (Value.int .u8)).toArray = X := HX
  have e2 : ((bytesN m).map (Value.int .u8)).toArray = Y := HY
  rw [e1] at D1
  rw [e2] at D2
  rw [HX] at ho1 hs1
  rw [HY] at ho2 hs2
  have H1 := Lib.hid D1; clear D1
  have H2 := Lib.hid D2; clear D2
  have hi32 : (Try.prog.info? 31).map (·.size) = some 32 := by kernel_rfl
  clear hZ hZ0 hst
  obtain ⟨a, ha⟩ : ∃ a, w.heap.size = a := ⟨_, rfl⟩
  have bA : Blk ((w.alloc (.cells #[.int .u64 (l0 n), .int .u64 (l1 n), .int .u64 (l2 n), .int .u64 (l3 n)] 24)).alloc (.cells #[.int .u64 (l0 m), .int .u64 (l1 m), .int .u64 (l2 m), .int .u64 (l3 m)] 24)) w.heap.size #[.int .u64 (l0 n), .int .u64 (l1 n), .int .u64 (l2 n), .int .u64 (l3 n)] := (Blk.new rfl).alloc _
  have bB : Blk ((w.alloc (.cells #[.int .u64 (l0 n), .int .u64 (l1 n), .int .u64 (l2 n), .int .u64 (l3 n)] 24)).alloc (.cells #[.int .u64 (l0 m), .int .u64 (l1 m), .int .u64 (l2 m), .int .u64 (l3 m)] 24)) (w.heap.size + 1) #[.int .u64 (l0 m), .int .u64 (l1 m), .int .u64 (l2 m), .int .u64 (l3 m)] := Blk.new (by simp)
  have hb : Below w.heap.size w ((w.alloc (.cells #[.int .u64 (l0 n), .int .u64 (l1 n), .int .u64 (l2 n), .int .u64 (l3 n)] 24)).alloc (.cells #[.int .u64 (l0 m), .int .u64 (l1 m), .int .u64 (l2 m), .int .u64 (l3 m)] 24)) := ((Below.refl _ _).alloc (Nat.le_refl _) _).alloc (by simp) _
  clear ha a
  go_enter Try.func4, Try.ntmps4
  go_wp2_with fail
  generalize hW : ((w.alloc (.cells #[.int .u64 (l0 n), .int .u64 (l1 n), .int .u64 (l2 n), .int .u64 (l3 n)] 24)).alloc (.cells #[.int .u64 (l0 m), .int .u64 (l1 m), .int .u64 (l2 m), .int .u64 (l3 m)] 24)) = W at bA bB hb ⊢
  clear hW
  refine own2 4 6 5 7 X Z Y Z (by kernel_rfl) (by kernel_rfl) rfl rfl (by decide) rfl rfl rfl rfl hz32 (by rw [hsz, hs1]) (by rw [hs1]; exact hi32) ho1 hz32 (by rw [hsz, hs2]) (by rw [hs2]; exact hi32) ho2 ?_
  apply Exists.intro
  refine ⟨?HA, ?h1, ?h2, ?hQ⟩
  case HA =>
    intro W1 hW1 T F hT hF hG
    show wpQuiet _ _ _ _ [_, _, _, _] _
    obtain ⟨a0, a1, a2, a3⟩ := fam_four hF (bA.call hW1)
    obtain ⟨b0, b1, b2, b3⟩ := fam_four hF (bB.call hW1)
    repeat (go_big_quiet_step ((first
      | (go_at_call_of 15 (l0 n); exact fam_call hF hG (Nat.le_refl _) (H1.out _))
      | (go_at_call_of 15 (l0 m); exact fam_call hF hG (Nat.le_refl _) (H2.out _)))))
    exact wpQuiet_nil rfl
  case h1 => rfl
  case h2 => rfl
  case hQ =>
    intro b5 b6 w2 hne hb5 hb6 hb2 bX bY
    replace bA := bA.call hb2
    replace bB := bB.call hb2
    replace hb := bel0 hb hb2
    simp only [Act.put, List.setIfInBounds_toArray, List.set_cons_succ, List.set_cons_zero]
    have q1 := eq_bytesV n
    have q2 := eq_wide hn hn
    rw [HX] at q1
    have D3 := rtoB_any n hn
    rw [e1] at D3
    have D4 := fromB_any n hn
    rw [e1] at D4
    have D5 := wcmp_any n m hn hm
    have D6 := cmpR_any (bytesN n) (bytesN m) (bytesN_is n) (bytesN_is m)
    rw [e1, e2, cmpB_bytes hn hm] at D6
    obtain ⟨r, hr⟩ : ∃ r, cmpN n m = r := ⟨_, rfl⟩
    rw [hr] at D5 D6
    clear hr e1 e2 HX HY hn hm
    have H3 := Lib.hid D3; clear D3
    have H4 := Lib.hid D4; clear D4
    have H5 := Lib.hid D5; clear D5
    have H6 := Lib.hid D6; clear D6
    have I1 : (Try.prog.info? 31).map (·.size) = some X.size := by rw [hs1]; exact hi32
    have I2 : (Try.prog.info? 31).map (·.size) = some Y.size := by rw [hs2]; exact hi32
    go_wp2_with fail
    refine wp_region_fam2 (by kernel_rfl) (by kernel_rfl) ?_
    intro T F hT hF hG
    have CX : ∀ u, (∃ t, u = F t) → Blk u b5 X := by rintro _ ⟨t, rfl⟩; exact bX.call (hF t)
    have CY : ∀ u, (∃ t, u = F t) → Blk u b6 Y := by rintro _ ⟨t, rfl⟩; exact bY.call (hF t)
    obtain ⟨a0, a1, a2, a3⟩ := fam_four hF bA
    obtain ⟨b0, b1, b2, b3⟩ := fam_four hF bB
    repeat (first
      | ((with_reducible refine at_qload (.tmp 5) ?_); refine wpQuiet_load 31 _ rfl b5 rfl X CX Try.underlying31 rfl I1 (by kernel_rfl) ?_; simp only [Act.put, List.setIfInBounds_toArray, List.set_cons_succ, List.set_cons_zero])
      | ((with_reducible refine at_qload (.tmp 6) ?_); refine wpQuiet_load 31 _ rfl b6 rfl Y CY Try.underlying31 rfl I2 (by kernel_rfl) ?_; simp only [Act.put, List.setIfInBounds_toArray, List.set_cons_succ, List.set_cons_zero])
      | (go_big_quiet_step ((first
          | (go_at_call 16; exact fam_call hF hG (Nat.le_refl _) (H3.out _))
          | (go_at_call 17; exact fam_call hF hG (Nat.le_refl _) (H4.out _))
          | (go_at_call 18; exact fam_call hF hG (Nat.le_refl _) (H5.out _))
          | (go_at_call 19; exact fam_call hF hG (Nat.le_refl _) (H6.out _))
          | (go_at_call 10; exact fam_call hF hG (Nat.le_refl _) (awake2 _))))))
    refine wpQuiet_nil ?_
    rintro _ ⟨t, rfl⟩
    go_wp2_with fail
    go_ret
    exact ⟨rfl, bel0 hb (hF t)⟩

theorem walk_WideBytes (a0 a1 : List Int) (w : World) (w0 : a0.length = 4 ∧ ∀ x ∈ a0, (Lit.int .u64 x).wf = true) (w1 : a1.length = 4 ∧ ∀ x ∈ a1, (Lit.int .u64 x).wf = true) :
    Calls Try.prog 4 #[.agg (a0.map (Value.int .u64)).toArray, .agg (a1.map (Value.int .u64)).toArray] w fun e w' => e = .returned (.bool true) ∧ Below w.heap.size w w' := by
  obtain ⟨n, hn, e⟩ := wide_of w0
  obtain ⟨m, hm, e'⟩ := wide_of w1
  rw [e, e']
  exact bytes_any n m hn hm w

end Go.Proofs.Ytgleleccmpncnaa
