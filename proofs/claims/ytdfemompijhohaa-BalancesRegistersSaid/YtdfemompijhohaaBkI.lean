/- The law's small functions: Root, checkpoint. -/
import Derived.Test.YtdfemompijhohaaBkH
import Derived.Outline
set_option linter.unusedVariables false
set_option linter.unusedSimpArgs false
namespace Go.Proofs.Ytdfemompijhohaa
open Go.RowKit Go.Maps
set_option maxRecDepth 100000

theorem res_cellB {P : Program} {fn : Func} {p : Tmp} {ty : TypeId} {d : TypeDesc} {tmps : Array Value} {w : World} {b : Nat} {cs : Array Value} (h : fn.results = #[.cell p ty])
    (hp : tmps.getD p undef = .pointer (some ⟨b, 0, none⟩)) (hB : Blk w b cs) (hu : P.underlying ty = some d) (hd : (match d with | .struct _ | .array _ _ => true | _ => false) = true) (hi : (P.info? ty).map (·.size) = some cs.size) :
    (results fn tmps).run P w = .ok (.agg cs) w := by
  obtain ⟨t', hg⟩ := hB
  exact results_cell_row h tmps w b t' cs (0, 0) d hp hg hu hd hi

theorem wrap_u64r (n : Int) : 0 ≤ IntKind.u64.wrap n ∧ IntKind.u64.wrap n ≤ 18446744073709551615 := by
  simp only [IntKind.wrap, IntKind.signed, IntKind.bits]
  simp
  omega

def rootL (a b c : Int) : List Int := a :: b :: (List.replicate 29 0 ++ [c])
theorem rootL_is {a b c : Int} (ha : 0 ≤ a ∧ a ≤ 255) (hb : 0 ≤ b ∧ b ≤ 255) (hc : 0 ≤ c ∧ c ≤ 255) : IsBytes 32 (rootL a b c) := by
  refine ⟨by simp [rootL], fun x hx => ?_⟩
  have hx' : x = a ∨ x = b ∨ x = 0 ∨ x = c := by simpa [rootL] using hx
  have hr : 0 ≤ x ∧ x ≤ 255 := by omega
  simp [Lit.wf, IntKind.min, IntKind.max, IntKind.signed, IntKind.bits]; omega
theorem bz_rootL (a b c : Int) (u : World) : (Instr.build 24 #[(0, .int .u8 a), (1, .int .u8 b), (31, .int .u8 c)]).run Try.prog u = .ok (.agg (bytesL (rootL a b c)).toArray) u := by kernel_rfl

set_option maxHeartbeats 800000 in
theorem root_some (k : Int) (w : World) : Calls Try.prog 32 #[.int .i64 k] w fun e w' => (∃ r, IsBytes 32 r ∧ e = .returned (.agg (bytesL r).toArray)) ∧ Below w.heap.size w w' := by
  obtain ⟨ZR, hZR⟩ : ∃ Z, (bytesL zeroR).toArray = Z := ⟨_, rfl⟩
  have hsz : ZR.size = 32 := by rw [← hZR]; rfl
  obtain ⟨hz32, hst⟩ := zero_array (P := Try.prog) (t := 24) (n := 32) ZR (by rw [← hZR]; kernel_rfl) hsz (by rw [← hZR]; kernel_rfl)
  clear hst hZR
  obtain ⟨r, hr⟩ : ∃ r, Hid (rootL (k % 256) (k / 256 % 256) (wrap64 (k * 7) % 256) = r) := ⟨_, rfl⟩
  have HB := Lib.hid (bz_rootL (k % 256) (k / 256 % 256) (wrap64 (k * 7) % 256))
  rw [hr.out] at HB
  have HI : Hid (IsBytes 32 r) := by show IsBytes 32 r; rw [← hr.out]; exact rootL_is (by omega) (by omega) (by omega)
  obtain ⟨X, hX⟩ : ∃ X, Hid ((bytesL r).toArray = X) := ⟨_, rfl⟩
  rw [hX.out] at HB
  have hsX : X.size = 32 := by rw [← hX.out, List.size_toArray, bytesL_len HI.out]
  have hiX : (Try.prog.info? 24).map (·.size) = some X.size := by rw [hsX]; kernel_rfl
  have HOX : Hid (∀ v ∈ X, v.oneCell' = true) := by show ∀ v ∈ X, _; rw [← hX.out]; exact fun v hv => bytesL_one _ v (by simpa using hv)
  go_enter Try.func32, Try.ntmps32
  go_wp2_with (first
    | ((with_reducible refine at_build (some 11) ?_); refine wpList_build rfl 24 _ rfl #[(0, .int .u8 (k % 256)), (1, .int .u8 (k / 256 % 256)), (31, .int .u8 (wrap64 (k * 7) % 256))] (by simp [Act.eval, Act.put]) (.agg X) (HB.out _) ?_)
    | ((with_reducible refine at_store (.tmp 2) ?_); refine wpList_store_blk rfl 24 (.tmp 2) _ rfl w.heap.size X rfl rfl ZR (Blk.new rfl) (by rw [hsz, hsX]) hiX HOX.out ?_; intro w1 U1 B1; have HB1 := Lib.hid (U1.below ((Below.refl w.heap.size w).alloc (Nat.le_refl _) (.cells ZR 24)) (Nat.le_refl _)); have HX1 := Lib.hid B1; clear U1 B1))
  refine bodyPost_ret (res_cellB rfl rfl HX1.out Try.underlying24 rfl hiX) rfl ⟨⟨r, HI.out, by rw [hX.out]⟩, HB1.out⟩

set_option maxHeartbeats 800000 in
theorem check_some (k : Int) (w : World) : Calls Try.prog 19 #[.int .i64 k] w fun e w' => (∃ c : CpD, c.ok ∧ e = .returned (cpX c)) ∧ Below w.heap.size w w' := by
  have HR := Lib.hid root_some
  obtain ⟨ZC, hZC⟩ : ∃ Z, zeC.cells.toArray = Z := ⟨_, rfl⟩
  have hsz : ZC.size = 33 := by rw [← hZC]; rfl
  obtain ⟨hz33, hst⟩ := zero_array (P := Try.prog) (t := 26) (n := 33) ZC (by rw [← hZC]; kernel_rfl) hsz (by rw [← hZC]; kernel_rfl)
  clear hst hZC
  obtain ⟨N, HN⟩ : ∃ N, IntKind.u64.wrap (bits BinOp.and IntKind.i64 k 3) = N := ⟨_, rfl⟩
  have HNR : Hid (0 ≤ N ∧ N ≤ 18446744073709551615) := by show _ ∧ _; rw [← HN]; exact wrap_u64r _
  have HBA : Hid (Below w.heap.size w (w.alloc (.cells ZC 26))) := (Below.refl _ _).alloc (Nat.le_refl _) _
  go_enter Try.func19, Try.ntmps19
  go_wp2_with (first
    | (go_at_call 32; refine (HR.out _ _).mono ?_; rintro e w1 ⟨⟨r, hr, rfl⟩, hb1⟩; have HB1 := Lib.hid hb1; have HRR := Lib.hid hr; clear hb1 hr)
    | ((with_reducible refine at_build (some 10) ?_); refine wpList_build rfl 26 _ rfl #[(0, .int .u64 N), (1, .agg (bytesL r).toArray)] (by simp [Act.eval, Act.put, HN]) (.agg (CpD.mk N r).cells.toArray) (build_cpd HRR.out _) ?_)
    | ((with_reducible refine at_store (.tmp 2) ?_); have HL := Lib.hid (CpD.len (show (CpD.mk N r).ok from ⟨HNR.out.1, HNR.out.2, HRR.out⟩)); refine wpList_store_blk rfl 26 (.tmp 2) _ rfl w.heap.size (CpD.mk N r).cells.toArray rfl rfl ZC (((Blk.new (t := 26) (w := w) rfl).call HB1.out)) (by rw [hsz, List.size_toArray, HL.out]) (by rw [List.size_toArray, HL.out]; kernel_rfl) (fun v hv => CpD.one _ v (by simpa using hv)) ?_; intro w2 U2 B2; have HB2 := Lib.hid (U2.below (HBA.out.trans (HB1.out.mono HBA.out.size)) (Nat.le_refl _)); have HX2 := Lib.hid B2; clear U2 B2))
  have hiX : (Try.prog.info? 26).map (·.size) = some (CpD.mk N r).cells.toArray.size := by rw [List.size_toArray, HL.out]; kernel_rfl
  refine bodyPost_ret (res_cellB rfl rfl HX2.out Try.underlying26 rfl hiX) rfl ⟨⟨⟨N, r⟩, ⟨HNR.out.1, HNR.out.2, HRR.out⟩, rfl⟩, HB2.out⟩

theorem setCell_grown (w : World) (b j : Nat) (v : Value) : w.grownBy (w.setCell ⟨b, j, none⟩ v) (some b) :=
  ⟨rfl, rfl, rfl, by simp [World.setCell], fun k _ hk => Below.heap_setCell _ _ _ _ (fun e => hk (by rw [e]))⟩

/-- A book while a block that is none of its own turns. -/
theorem BookIs.turned {w w' : World} {b mb g : Nat} {n lim : Int} {E : List TeD} (h : BookIs w b mb n lim E) (hg : w.grownBy w' (some g)) (hb : b ≠ g) (hm : mb ≠ g) (he : ∀ e ∈ E, Off g e.v) : BookIs w' b mb n lim E :=
  ⟨h.blk.grown hg (by simpa using hb), h.map.grown hg (by simpa using hm), fun e hE => ⟨⟨(h.rows e hE).1.1.grownOff hg (fun k e' => by cases e'; exact he e hE), (h.rows e hE).1.2⟩, (h.rows e hE).2⟩⟩

theorem tab_one {c : CpD} {a : Option Addr} {m k : Nat} : ∀ v ∈ flatP [c.cells, [.slice a m k]], v.oneCell' = true := flatP_one fun p hp v hv => by
  simp only [List.mem_cons, List.not_mem_nil, or_false] at hp
  rcases hp with rfl | rfl
  · exact CpD.one _ v hv
  · rw [List.mem_singleton.1 hv]; rfl

end Go.Proofs.Ytdfemompijhohaa
