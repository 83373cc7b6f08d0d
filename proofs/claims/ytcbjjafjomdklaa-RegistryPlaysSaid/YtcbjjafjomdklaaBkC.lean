/- Known, Balance, Total of a book. -/
import Derived.Test.YtcbjjafjomdklaaBkB
set_option linter.unusedVariables false

set_option linter.unusedSimpArgs false
namespace Go.Proofs.Ytcbjjafjomdklaa
open Go.RowKit Go.Maps

set_option maxRecDepth 100000

def balV (E : List TeD) (c : CpD) (i : Int) : Int := if i < 0 then 0 else (tlst E c).getD i.toNat 0

theorem infoCp {c : CpD} (h : c.ok) : (Try.prog.info? 34).map (·.size) = some c.cells.toArray.size := by rw [List.size_toArray, CpD.len h]; kernel_rfl

set_option maxHeartbeats 4000000 in
theorem known_any (b mb : Nat) (n lim : Int) (E : List TeD) (c : CpD) (w : World) (hB : BookIs w b mb n lim E) (hc : c.ok) :
    Calls Try.prog 31 #[.pointer (some ⟨b, 0, none⟩), cpX c] w fun e w' => e = .returned (.bool (tget E c).isSome) ∧ Below w.heap.size w w' := by
  have HB := Lib.hid hB
  have HL := Lib.hid (fun u (hu : BookIs u b mb n lim E) => hu.map.look hc true Try.underlying88 (zero_nums u))
  rw [BookIs.known] at HL
  obtain ⟨r, hr⟩ : ∃ r, (tget E c).isSome = r := ⟨_, rfl⟩
  obtain ⟨y, hy⟩ : ∃ y, (mget (E.map TeD.ent) c).getD nilS = y := ⟨_, rfl⟩
  rw [hr, hy] at HL
  rw [hr]
  have hi := infoCp hc
  unfold cpX at HL ⊢
  obtain ⟨X, HX⟩ : ∃ X, c.cells.toArray = X := ⟨_, rfl⟩
  rw [HX] at HL hi ⊢
  have HBA := Lib.hid ((Below.refl w.heap.size w).alloc (Nat.le_refl _) (.cells X 34))
  have HBX : Hid (Blk (w.alloc (.cells X 34)) w.heap.size X) := Blk.new rfl
  clear hr hy HX hB hc
  go_enter Try.func31, Try.ntmps31
  go_wp2_with fail
  refine wp_region_fam2 (by kernel_rfl) (by kernel_rfl) ?_
  intro T F hT hF hG
  have CB : ∀ u, (∃ t, u = F t) → BookIs u b mb n lim E := by rintro _ ⟨t, rfl⟩; exact HB.out.call (bel0 HBA.out (hF t))
  have CX : ∀ u, (∃ t, u = F t) → Blk u w.heap.size X := by rintro _ ⟨t, rfl⟩; exact HBX.out.call (hF t)
  have c2 : ∀ t, (F t).cell? ⟨b, 2, none⟩ = some (.map (some mb)) := fun t => (CB _ ⟨t, rfl⟩).blk.cell 2
  have CL := Lib.hid (fun u (hu : ∃ t, u = F t) => HL.out u (CB u hu))
  have CX' := Lib.hid CX
  clear CB CX
  repeat (first
    | ((with_reducible refine at_qload (.tmp 3) ?_); refine wpQuiet_load 34 _ rfl w.heap.size rfl X CX'.out Try.underlying34 rfl hi (by kernel_rfl) ?_; simp only [Act.put, List.setIfInBounds_toArray, List.set_cons_succ, List.set_cons_zero])
    | ((with_reducible refine at_qlook _ _ ?_); refine wpQuiet_look _ _ _ _ rfl _ _ _ rfl rfl CL.out (by kernel_rfl) ?_; simp only [if_true, Act.put, List.setIfInBounds_toArray, List.set_cons_succ, List.set_cons_zero])
    | (go_big_quiet_step (fail)))
  refine wpQuiet_nil ?_
  rintro _ ⟨t, rfl⟩
  have HF := Lib.hid (bel0 HBA.out (hF t))
  clear c2 CL CX' hF hG
  go_wp2_with fail
  go_ret
  exact ⟨rfl, HF.out⟩

theorem tlst_sum {w : World} {b mb : Nat} {n lim : Int} {E : List TeD} (h : BookIs w b mb n lim E) (c : CpD) : (tlst E c).sum ≤ 4611686018427387904 := by
  unfold tlst
  cases ht : tget E c with
  | none => simp
  | some e => exact (h.rows e (tget_mem ht).1).2.2

theorem balV_neg {E : List TeD} {c : CpD} {i : Int} (h : i < 0) : balV E c i = 0 := by unfold balV; rw [if_pos h]

theorem balV_nat {E : List TeD} {c : CpD} (i : Nat) : balV E c i = (tlst E c).getD i 0 := by unfold balV; rw [if_neg (by omega)]; rfl

set_option maxHeartbeats 4000000 in
theorem bal_any (b mb : Nat) (n lim : Int) (E : List TeD) (c : CpD) (i : Int) (w : World) (hB : BookIs w b mb n lim E) (hc : c.ok) :
    Calls Try.prog 49 #[.pointer (some ⟨b, 0, none⟩), cpX c, .int .i64 i] w fun e w' => e = .returned (.int .u64 (balV E c i)) ∧ Below w.heap.size w w' := by
  have HB := Lib.hid hB
  have HL := Lib.hid (fun u (hu : BookIs u b mb n lim E) => hu.map.look hc false Try.underlying88 (zero_nums u))
  have HN := Lib.hid (fun u (hu : BookIs u b mb n lim E) => hu.at c)
  obtain ⟨B, hbv⟩ : ∃ B, Hid (balV E c i = B) := ⟨_, rfl⟩
  have H1 : Hid (i < 0 → B = 0) := fun h => by rw [← hbv.out]; exact balV_neg h
  have H2 : Hid (∀ j : Nat, i = j → B = (tlst E c).getD j 0) := fun j h => by rw [← hbv.out, h]; exact balV_nat j
  rw [hbv.out]
  clear hbv
  obtain ⟨l, hl⟩ : ∃ l, tlst E c = l := ⟨_, rfl⟩
  obtain ⟨y, hy⟩ : ∃ y, (mget (E.map TeD.ent) c).getD nilS = y := ⟨_, rfl⟩
  rw [hy] at HL
  rw [hy, hl] at HN
  rw [hl] at H2
  obtain ⟨a, k, rfl, hm⟩ := (HN.out w hB).shape
  have hi := infoCp hc
  unfold cpX at HL ⊢
  obtain ⟨X, HX⟩ : ∃ X, c.cells.toArray = X := ⟨_, rfl⟩
  rw [HX] at HL hi ⊢
  have HBA := Lib.hid ((Below.refl w.heap.size w).alloc (Nat.le_refl _) (.cells X 34))
  have HBX : Hid (Blk (w.alloc (.cells X 34)) w.heap.size X) := Blk.new rfl
  clear hl hy HX hB hc
  go_enter Try.func49, Try.ntmps49
  go_wp2_with fail
  refine wp_region_fam2 (by kernel_rfl) (by kernel_rfl) ?_
  intro T F hT hF hG
  have CB : ∀ u, (∃ t, u = F t) → BookIs u b mb n lim E := by rintro _ ⟨t, rfl⟩; exact HB.out.call (bel0 HBA.out (hF t))
  have CX : ∀ u, (∃ t, u = F t) → Blk u w.heap.size X := by rintro _ ⟨t, rfl⟩; exact HBX.out.call (hF t)
  have c2 : ∀ t, (F t).cell? ⟨b, 2, none⟩ = some (.map (some mb)) := fun t => (CB _ ⟨t, rfl⟩).blk.cell 2
  have CL := Lib.hid (fun u (hu : ∃ t, u = F t) => HL.out u (CB u hu))
  have CN := Lib.hid (fun t => HN.out (F t) (CB _ ⟨t, rfl⟩))
  have CX' := Lib.hid CX
  clear CB CX
  repeat (first
    | ((with_reducible refine at_qload (.tmp 4) ?_); refine wpQuiet_load 34 _ rfl w.heap.size rfl X CX'.out Try.underlying34 rfl hi (by kernel_rfl) ?_; simp only [Act.put, List.setIfInBounds_toArray, List.set_cons_succ, List.set_cons_zero])
    | ((with_reducible refine at_qlook _ _ ?_); refine wpQuiet_look _ _ _ _ rfl _ _ _ rfl rfl CL.out (by kernel_rfl) ?_; simp only [Bool.false_eq_true, if_false, Act.put, List.setIfInBounds_toArray, List.set_cons_succ, List.set_cons_zero])
    | (go_big_quiet_step (fail)))
  refine wpQuiet_nil ?_
  rintro _ ⟨t, rfl⟩
  have HF := Lib.hid (bel0 HBA.out (hF t))
  have hn := CN.out t
  clear c2 CL CX' CN hF hG
  obtain ⟨u, hu⟩ : ∃ u, F t = u := ⟨_, rfl⟩
  rw [hu] at HF hn
  rw [hu]
  clear hu
  unfold maxLen at hm
  by_cases h1 : i < 0
  · have HE := Lib.hid (H1.out h1)
    go_wp2_with fail
    go_ret
    exact ⟨by rw [HE.out]; rfl, HF.out⟩
  obtain ⟨j, rfl⟩ : ∃ j : Nat, i = j := ⟨i.toNat, by omega⟩
  have HE := Lib.hid (H2.out j rfl)
  clear H1 H2
  by_cases h2 : j < l.length
  · obtain ⟨⟨a', n', k', e, hl, hm', hr⟩, _⟩ := hn
    cases e
    rcases hr with h0 | ⟨g, off, rfl, hg, hcell⟩
    · omega
    have cj : u.cell? ⟨g, off + j, none⟩ = some (.int .u64 B) := by rw [HE.out]; exact hcell j (by omega)
    clear hcell hl hm'
    go_wp2_with fail
    go_ret
    exact ⟨rfl, HF.out⟩
  · have HE2 : Hid (B = 0) := by show B = 0; rw [HE.out]; simp [List.getD, List.getElem?_eq_none (Nat.le_of_not_lt h2)]
    clear HE hn
    have h2' : (l.length : Int) ≤ j := by omega
    go_wp2_with fail
    go_ret
    exact ⟨by rw [HE2.out]; rfl, HF.out⟩
end Go.Proofs.Ytcbjjafjomdklaa
