/- Roots made of a number (the law's Root); what is left of a block's world behind a store of one cell. -/
import Derived.Test.YtdmjpmigejpkmaaEls
import Derived.Outline
set_option linter.unusedVariables false

set_option linter.unusedSimpArgs false
namespace Go.Proofs.Ytdmjpmigejpkmaa
open Go.RowKit

set_option maxRecDepth 100000

theorem res_cellB {P : Program} {fn : Func} {p : Tmp} {ty : TypeId} {d : TypeDesc} {tmps : Array Value} {w : World} {b : Nat} {cs : Array Value} (h : fn.results = #[.cell p ty])
    (hp : tmps.getD p undef = .pointer (some ⟨b, 0, none⟩)) (hB : Blk w b cs) (hu : P.underlying ty = some d) (hd : (match d with | .struct _ | .array _ _ => true | _ => false) = true) (hi : (P.info? ty).map (·.size) = some cs.size) :
    (results fn tmps).run P w = .ok (.agg cs) w := by
  obtain ⟨t', hg⟩ := hB
  exact results_cell_row h tmps w b t' cs (0, 0) d hp hg hu hd hi

theorem wrap_u64r (n : Int) : 0 ≤ IntKind.u64.wrap n ∧ IntKind.u64.wrap n ≤ 18446744073709551615 := by
  simp only [IntKind.wrap, IntKind.signed, IntKind.bits]
  simp
  omega

def rootL (a b c : Int) : List Int := a :: b :: (List.replicate 29 0 ++ [c])

theorem rootL_is {a b c : Int} (ha : 0 ≤ a ∧ a ≤ 255) (hb : 0 ≤ b ∧ b ≤ 255) (hc : 0 ≤ c ∧ c ≤ 255) : IsBytes 32 (rootL a b c) := by
  refine ⟨by simp [rootL], fun x hx => ?_⟩
  have hx' : x = a ∨ x = b ∨ x = 0 ∨ x = c := by simpa [rootL] using hx
  have hr : 0 ≤ x ∧ x ≤ 255 := by omega
  simp [Lit.wf, IntKind.min, IntKind.max, IntKind.signed, IntKind.bits]; omega

theorem bz_rootL (a b c : Int) (u : World) : (Instr.build 31 #[(0, .int .u8 a), (1, .int .u8 b), (31, .int .u8 c)]).run Try.prog u = .ok (.agg (bytesL (rootL a b c)).toArray) u := by kernel_rfl

/-- The root of a number. -/
def rootK (k : Int) : List Int := rootL (k % 256) (k / 256 % 256) (wrap64 (k * 7) % 256)

theorem rootK_is (k : Int) : IsBytes 32 (rootK k) := rootL_is (by omega) (by omega) (by omega)

set_option maxHeartbeats 800000 in
theorem root_k (k : Int) (w : World) : Calls Try.prog 25 #[.int .i64 k] w fun e w' => e = .returned (.agg (bytesL (rootK k)).toArray) ∧ Below w.heap.size w w' := by
  obtain ⟨ZR, hZR⟩ : ∃ Z, (bytesL zeroR).toArray = Z := ⟨_, rfl⟩
  have hsz : ZR.size = 32 := by rw [← hZR]; rfl
  obtain ⟨hz32, hst⟩ := zero_array (P := Try.prog) (t := 31) (n := 32) ZR (by rw [← hZR]; kernel_rfl) hsz (by rw [← hZR]; kernel_rfl)
  clear hst hZR
  obtain ⟨r, hr⟩ : ∃ r, Hid (rootL (k % 256) (k / 256 % 256) (wrap64 (k * 7) % 256) = r) := ⟨_, rfl⟩
  have HB := Lib.hid (bz_rootL (k % 256) (k / 256 % 256) (wrap64 (k * 7) % 256))
  rw [hr.out] at HB
  have HI : Hid (IsBytes 32 r) := by show IsBytes 32 r; rw [← hr.out]; exact rootL_is (by omega) (by omega) (by omega)
  obtain ⟨X, hX⟩ : ∃ X, Hid ((bytesL r).toArray = X) := ⟨_, rfl⟩
  rw [hX.out] at HB
  have hsX : X.size = 32 := by rw [← hX.out, List.size_toArray, bytesL_len HI.out]
  have hiX : (Try.prog.info? 31).map (·.size) = some X.size := by rw [hsX]; kernel_rfl
  have HOX : Hid (∀ v ∈ X, v.oneCell' = true) := by show ∀ v ∈ X, _; rw [← hX.out]; exact fun v hv => bytesL_one _ v (by simpa using hv)
  go_enter Try.func25, Try.ntmps25
  go_wp2_with (first
    | ((with_reducible refine at_build (some 11) ?_); refine wpList_build rfl 31 _ rfl #[(0, .int .u8 (k % 256)), (1, .int .u8 (k / 256 % 256)), (31, .int .u8 (wrap64 (k * 7) % 256))] (by simp [Act.eval, Act.put]) (.agg X) (HB.out _) ?_)
    | ((with_reducible refine at_store (.tmp 2) ?_); refine wpList_store_blk rfl 31 (.tmp 2) _ rfl w.heap.size X rfl rfl ZR (Blk.new rfl) (by rw [hsz, hsX]) hiX HOX.out ?_; intro w1 U1 B1; have HB1 := Lib.hid (U1.below ((Below.refl w.heap.size w).alloc (Nat.le_refl _) (.cells ZR 31)) (Nat.le_refl _)); have HX1 := Lib.hid B1; clear U1 B1))
  refine bodyPost_ret (res_cellB rfl rfl HX1.out Try.underlying31 rfl hiX) rfl ⟨by unfold rootK; rw [hr.out, hX.out], HB1.out⟩

theorem root_some (k : Int) (w : World) : Calls Try.prog 25 #[.int .i64 k] w fun e w' => (∃ r, IsBytes 32 r ∧ e = .returned (.agg (bytesL r).toArray)) ∧ Below w.heap.size w w' :=
  (root_k k w).mono fun _ _ h => ⟨⟨_, rootK_is k, h.1⟩, h.2⟩

theorem setCell_grown (w : World) (b j : Nat) (v : Value) : w.grownBy (w.setCell ⟨b, j, none⟩ v) (some b) :=
  ⟨rfl, rfl, rfl, by simp [World.setCell], fun k _ hk => Below.heap_setCell _ _ _ _ (fun e => hk (by rw [e]))⟩

theorem i64_and3 (n : Int) : bits .and .i64 n 3 = n % 4 := by
  have h3 : (BitVec.ofInt 64 3).toNat = 2 ^ 2 - 1 := by decide
  have key : (BitVec.ofInt 64 n &&& BitVec.ofInt 64 3).toNat = (n % ((2 ^ 64 : Nat) : Int)).toNat % 2 ^ 2 := by
    rw [BitVec.toNat_and, BitVec.toNat_ofInt, h3, Nat.and_two_pow_sub_one_eq_mod]
  show IntKind.i64.wrap ((BitVec.ofInt 64 n &&& BitVec.ofInt 64 3).toNat : Nat) = n % 4
  rw [key, IntKind.wrap_i64]
  omega

theorem i64_and3_nat (n : Int) : ∃ m : Nat, m ≤ 3 ∧ bits .and .i64 n 3 = m := ⟨(n % 4).toNat, by omega, by rw [i64_and3]; omega⟩

theorem i64_and7 (n : Int) : bits .and .i64 n 7 = n % 8 := by
  have h3 : (BitVec.ofInt 64 7).toNat = 2 ^ 3 - 1 := by decide
  have key : (BitVec.ofInt 64 n &&& BitVec.ofInt 64 7).toNat = (n % ((2 ^ 64 : Nat) : Int)).toNat % 2 ^ 3 := by
    rw [BitVec.toNat_and, BitVec.toNat_ofInt, h3, Nat.and_two_pow_sub_one_eq_mod]
  show IntKind.i64.wrap ((BitVec.ofInt 64 n &&& BitVec.ofInt 64 7).toNat : Nat) = n % 8
  rw [key, IntKind.wrap_i64]
  omega

theorem i64_and7_nat (n : Int) : ∃ m : Nat, m ≤ 7 ∧ bits .and .i64 n 7 = m := ⟨(n % 8).toNat, by omega, by rw [i64_and7]; omega⟩
end Go.Proofs.Ytdmjpmigejpkmaa
