/- '==' of structs: a value is itself; SameAttestation. -/
import Derived.Test.YtgcgjnjbhdhhgaaRcB
set_option linter.unusedVariables false
namespace Go.Proofs.Ytgcgjnjbhdhhgaa
open Go.RowKit

theorem ints_shape' {k : IntKind} {w : World} {v : Value} {l : List Int} (h : Ints k w v l) : ∃ a n c, v = .slice a n c := by obtain ⟨a, n, c, e, _⟩ := h; exact ⟨a, n, c, e⟩

theorem mapM_exists {α β : Type} (g : α → Option β) : ∀ (l : List α), (∀ x ∈ l, ∃ y, g x = some y) → ∃ ys, l.mapM g = some ys
  | [], _ => ⟨[], rfl⟩
  | x :: l, hall => by
    obtain ⟨y, hy⟩ := hall x (by simp)
    obtain ⟨ys, hys⟩ := mapM_exists g l (fun z hz => hall z (by simp [hz]))
    exact ⟨y :: ys, by rw [List.mapM_cons, hy, hys]; rfl⟩

theorem keyLits_struct {P : Program} {t : TypeId} {fs : Array Field} {d : Nat} {cs : List Value} (hu : P.underlying t = some (.struct fs)) (hl : cs.length = P.cellsOf t) (hn : fs.all (·.name != "_") = true)
    (h : ∀ f ∈ fs.toList, ∃ l, P.keyLits d f.type ((cs.drop f.offset).take (P.cellsOf f.type)) = some l) : ∃ ls, P.keyLits (d + 1) t cs = some ls := by
  obtain ⟨ys, hys⟩ := mapM_exists (fun f => P.keyLits d f.type ((cs.drop f.offset).take (P.cellsOf f.type))) fs.toList h
  unfold Program.keyLits
  simp only [hu, hl, hn, and_self, if_true, hys, Option.map_some]
  exact ⟨_, rfl⟩

theorem keyLits_int {P : Program} {t : TypeId} {k : IntKind} {d : Nat} {n : Int} (hu : P.underlying t = some (.int k)) (hw : (Lit.int k n).wf = true) : ∃ ls, P.keyLits (d + 1) t [.int k n] = some ls := by
  unfold Program.keyLits
  simp only [hu, hw, and_self, if_true]
  exact ⟨_, rfl⟩
theorem keyLits_bool {P : Program} {t : TypeId} {d : Nat} {b : Bool} (hu : P.underlying t = some .bool) : ∃ ls, P.keyLits (d + 1) t [.bool b] = some ls := by
  unfold Program.keyLits
  simp only [hu]
  exact ⟨_, rfl⟩

/-- A value of a comparable type is itself. -/
theorem eq_self {P : Program} {t : TypeId} {m : Nat} (hk : P.keyTypeAt m t = true) (hm : m ≤ 10000) (X : Array Value) (hf : (Value.agg X).formed P t = true) (hl : ∃ ls, P.keyLits m t X.toList = some ls) (w : World) :
    Sem.run P (Op.equalIn 10000 t (.agg X) (.agg X)) w = .ok true w := by
  obtain ⟨ls, hls⟩ := hl
  have hc : (Value.agg X).cells.toList = X.toList := by simp [Value.cells]
  obtain ⟨r, hr, hiff⟩ := run_equalIn_deep (P := P) (10000 - m) m t hk w m m _ _ _ _ hf hf (by rw [hc]; exact hls) (by rw [hc]; exact hls)
  rw [show 10000 - m + m = 10000 by omega] at hr
  rw [hr, hiff.2 rfl]

theorem keyLits_bytes {d : Nat} {t : TypeId} (hu : Try.prog.underlying t = some (.array 32 5)) (hc : Try.prog.cellsOf t = 32) {r : List Int} (h : IsBytes 32 r) : ∃ ls, Try.prog.keyLits (d + 2) t (bytesL r) = some ls :=
  ⟨_, keyLits_ints hu Try.underlying5 hc (by kernel_rfl) d r h.1 h.2⟩

theorem keyLits_cp {d : Nat} {c : CpD} (h : c.ok) : ∃ ls, Try.prog.keyLits (d + 3) 31 c.cells = some ls := by
  refine keyLits_struct Try.underlying31 (by rw [CpD.len h]; kernel_rfl) (by kernel_rfl) ?_
  intro f hf
  simp only [List.mem_cons, List.not_mem_nil, or_false] at hf
  rcases hf with rfl | rfl
  · have e : (c.cells.drop 0).take (Try.prog.cellsOf 27) = [.int .u64 c.n] := by
      rw [show Try.prog.cellsOf 27 = 1 by kernel_rfl]; rfl
    show ∃ l, Try.prog.keyLits (d + 2) 27 ((c.cells.drop 0).take (Try.prog.cellsOf 27)) = some l
    rw [e]
    exact keyLits_int Try.underlying27 (wf_of_u64 ⟨h.1, h.2.1⟩)
  · have e : (c.cells.drop 1).take (Try.prog.cellsOf 29) = bytesL c.r := by
      rw [show Try.prog.cellsOf 29 = 32 by kernel_rfl]
      show (bytesL c.r).take 32 = _
      rw [List.take_of_length_le (by rw [bytesL_len h.2.2]; omega)]
    show ∃ l, Try.prog.keyLits (d + 2) 29 ((c.cells.drop 1).take (Try.prog.cellsOf 29)) = some l
    rw [e]
    exact keyLits_bytes Try.underlying29 (by kernel_rfl) h.2.2

theorem eq_cp {c : CpD} (h : c.ok) (w : World) : Sem.run Try.prog (Op.equalIn 10000 31 (.agg c.cells.toArray) (.agg c.cells.toArray)) w = .ok true w :=
  eq_self (m := 3) (by kernel_rfl) (by omega) _ (by simp [Value.formed, Try.underlying31, CpD.len h]; kernel_rfl) (by simpa using keyLits_cp (d := 0) h) w

theorem eq_bytes32 {r : List Int} (h : IsBytes 32 r) (w : World) : Sem.run Try.prog (Op.equalIn 10000 29 (.agg (bytesL r).toArray) (.agg (bytesL r).toArray)) w = .ok true w := by
  have := eq_root h h w
  rw [decide_eq_true rfl] at this
  exact this

set_option maxRecDepth 100000 in
set_option maxHeartbeats 4000000 in
theorem satt_any (s : Int) (r : List Int) (c : CpD) (v1 v2 : Value) (l : List Int) (w : World) (hs : 0 ≤ s ∧ s ≤ 18446744073709551615) (hr : IsBytes 32 r) (hc : c.ok) (h1 : IntsV w v1 l) (h2 : IntsV w v2 l) :
    Calls Try.prog 20 #[.agg (flatP [[.int .u64 s], bytesL r, c.cells, [v1]]), .agg (flatP [[.int .u64 s], bytesL r, c.cells, [v2]])] w fun e w' => e = .returned (.bool true) ∧ Below w.heap.size w w' := by
  obtain ⟨a1, n1, k1, rfl⟩ := ints_shape' h1.1
  obtain ⟨a2, n2, k2, rfl⟩ := ints_shape' h2.1
  have h32 := bytesL_len hr
  have h33 := CpD.len hc
  have oo : ∀ v : Value, offP [[Value.int .u64 s], bytesL r, c.cells, [v]] 0 = 0 ∧ offP [[Value.int .u64 s], bytesL r, c.cells, [v]] 1 = 1 ∧ offP [[Value.int .u64 s], bytesL r, c.cells, [v]] 2 = 33 ∧ offP [[Value.int .u64 s], bytesL r, c.cells, [v]] 3 = 66 ∧ (flatP [[Value.int .u64 s], bytesL r, c.cells, [v]]).size = 67 := fun v => ⟨rfl, rfl, by simp [offP, h32], by simp [offP, h32, h33], by rw [flatP_size]; simp [h32, h33]⟩
  have HO1 := Lib.hid (oo (.slice a1 n1 k1))
  have HO2 := Lib.hid (oo (.slice a2 n2 k2))
  clear oo
  obtain ⟨X, HX⟩ : ∃ X, Hid (flatP [[Value.int .u64 s], bytesL r, c.cells, [.slice a1 n1 k1]] = X) := ⟨_, rfl⟩
  obtain ⟨Y, HY⟩ : ∃ Y, Hid (flatP [[Value.int .u64 s], bytesL r, c.cells, [.slice a2 n2 k2]] = Y) := ⟨_, rfl⟩
  rw [HX.out, HY.out]
  have hX0 : X.size = 67 := by rw [← HX.out]; exact HO1.out.2.2.2.2
  have hY0 : Y.size = 67 := by rw [← HY.out]; exact HO2.out.2.2.2.2
  have hba := ((Below.refl w.heap.size w).alloc (Nat.le_refl _) (.cells X 45)).alloc (by simp) (.cells Y 45)
  have B1 : Hid (Blk ((w.alloc (.cells X 45)).alloc (.cells Y 45)) w.heap.size (flatP [[Value.int .u64 s], bytesL r, c.cells, [.slice a1 n1 k1]])) := ((Blk.new rfl).alloc _).to HX.out.symm
  have B2 : Hid (Blk ((w.alloc (.cells X 45)).alloc (.cells Y 45)) (w.heap.size + 1) (flatP [[Value.int .u64 s], bytesL r, c.cells, [.slice a2 n2 k2]])) := (Blk.new (by simp)).to HY.out.symm
  have DS := Lib.hid (sints_any _ _ l _ (h1.below hba) (h2.below hba))
  have HBA := Lib.hid hba; clear hba
  have E1 := eq_bytes32 hr
  have E2 := eq_cp hc
  have HI32 : Hid ((Try.prog.info? 29).map (·.size) = some (bytesL r).length) := by show _ = _; rw [h32]; kernel_rfl
  have HI33 : Hid ((Try.prog.info? 31).map (·.size) = some c.cells.length) := by show _ = _; rw [h33]; kernel_rfl
  clear h32 h33 h1 h2 hr hc
  obtain ⟨R, HR⟩ : ∃ R, bytesL r = R := ⟨_, rfl⟩
  obtain ⟨C, HC⟩ : ∃ C, c.cells = C := ⟨_, rfl⟩
  rw [HR] at E1 HI32 B1 B2 HO1 HO2
  rw [HC] at E2 HI33 B1 B2 HO1 HO2
  clear HR HC HX HY
  have hss : (s == s) = true := by simp
  go_enter Try.func20, Try.ntmps20
  go_wp2_with (first
    | ((with_reducible refine at_load (.tmp 5) ?_); refine wpList_load_1 27 (.tmp 5) rfl w.heap.size 0 (.int .u64 s) (B1.out.cellAt (k := 0) rfl HO1.out.1) rfl _ Try.underlying27 rfl rfl ?_)
    | ((with_reducible refine at_load (.tmp 7) ?_); refine wpList_load_1 27 (.tmp 7) rfl (w.heap.size + 1) 0 (.int .u64 s) (B2.out.cellAt (k := 0) rfl HO2.out.1) rfl _ Try.underlying27 rfl rfl ?_)
    | ((with_reducible refine at_load (.tmp 11) ?_); refine wpList_load_part 29 (.tmp 11) rfl w.heap.size _ 1 1 R B1.out rfl HO1.out.2.1 rfl _ Try.underlying29 rfl HI32.out rfl ?_)
    | ((with_reducible refine at_load (.tmp 13) ?_); refine wpList_load_part 29 (.tmp 13) rfl (w.heap.size + 1) _ 1 1 R B2.out rfl HO2.out.2.1 rfl _ Try.underlying29 rfl HI32.out rfl ?_)
    | ((with_reducible refine at_load (.tmp 18) ?_); refine wpList_load_part 31 (.tmp 18) rfl w.heap.size _ 2 33 C B1.out rfl HO1.out.2.2.1 rfl _ Try.underlying31 rfl HI33.out rfl ?_)
    | ((with_reducible refine at_load (.tmp 20) ?_); refine wpList_load_part 31 (.tmp 20) rfl (w.heap.size + 1) _ 2 33 C B2.out rfl HO2.out.2.2.1 rfl _ Try.underlying31 rfl HI33.out rfl ?_)
    | ((with_reducible refine at_load (.tmp 25) ?_); refine wpList_load_1 22 (.tmp 25) rfl w.heap.size 66 (.slice a1 n1 k1) (B1.out.cellAt (k := 3) rfl HO1.out.2.2.2.1) rfl _ Try.underlying22 rfl rfl ?_)
    | ((with_reducible refine at_load (.tmp 27) ?_); refine wpList_load_1 22 (.tmp 27) rfl (w.heap.size + 1) 66 (.slice a2 n2 k2) (B2.out.cellAt (k := 3) rfl HO2.out.2.2.2.1) rfl _ Try.underlying22 rfl rfl ?_)
    | (go_at_call 59; refine DS.out.mono ?_; rintro e w1 ⟨rfl, hb1⟩; have HB1 := Lib.hid hb1; clear hb1))
  go_ret
  exact ⟨rfl, HBA.out.trans (HB1.out.mono HBA.out.size)⟩

end Go.Proofs.Ytgcgjnjbhdhhgaa
