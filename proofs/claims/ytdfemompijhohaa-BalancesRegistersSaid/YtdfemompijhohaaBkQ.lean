/- Drop of a book; the law's table. -/
import Derived.Test.YtdfemompijhohaaBkP
set_option linter.unusedVariables false
set_option linter.unusedSimpArgs false
namespace Go.Proofs.Ytdfemompijhohaa
open Go.RowKit Go.Maps
set_option maxRecDepth 100000

def dropE (ep : Int) (E : List TeD) : List TeD := E.filter fun e => decide (ep ≤ e.c.n)
theorem dropE_ent (ep : Int) (E : List TeD) : (E.map TeD.ent).filter (keepE ep) = (dropE ep E).map TeD.ent := by
  unfold dropE
  rw [List.filter_map]
  rfl

/-- What Drop leaves. -/
def DropR (b mb : Nat) (n lim : Int) (E : List TeD) (ep : Int) (w : World) (e : Ending) (w' : World) : Prop :=
  e = .returned (.int .i64 ((E.length : Int) - (dropE ep E).length)) ∧ BookIs w' b mb n lim (dropE ep E) ∧ w.grownBy w' (some mb)

set_option maxHeartbeats 8000000 in
theorem drop_any (b mb : Nat) (n lim : Int) (E : List TeD) (ep : Int) (w : World) (hB : BookIs w b mb n lim E) (hE : E.length ≤ 1000) :
    Calls Try.prog 14 #[.pointer (some ⟨b, 0, none⟩), .int .u64 ep] w (DropR b mb n lim E ep w) := by
  have HBA := Lib.hid ((Below.refl w.heap.size w).alloc (Nat.le_refl _) (.cells #[.int .u64 ep] 22))
  have HB := Lib.hid (hB.call HBA.out)
  have HB0 := Lib.hid hB
  have HC : Hid ((w.alloc (.cells #[.int .u64 ep] 22)).cell? ⟨w.heap.size, 0, none⟩ = some (.int .u64 ep)) := (Blk.new (cs := #[.int .u64 ep]) (t := 22) (w := w) rfl).cell 0
  have HD := Lib.hid (delf_any mb (E.map TeD.ent) ep w.heap.size _ HB.out.map HC.out)
  rw [dropE_ent] at HD
  have c2 : (w.alloc (.cells #[.int .u64 ep] 22)).cell? ⟨b, 2, none⟩ = some (.map (some mb)) := HB.out.blk.cell 2
  have HL1 : Hid ((E.map TeD.ent).length = E.length) := List.length_map _
  have HL2 : Hid (((dropE ep E).map TeD.ent).length = (dropE ep E).length) := List.length_map _
  have hle : (dropE ep E).length ≤ E.length := List.length_filter_le _ _
  obtain ⟨m, hm⟩ : ∃ m, E.length = m := ⟨_, rfl⟩
  obtain ⟨m', hm'⟩ : ∃ m', (dropE ep E).length = m' := ⟨_, rfl⟩
  have HM := Lib.hid (And.intro hm hm')
  rw [hm] at HL1 hle hE
  rw [hm'] at HL2 hle
  clear hm hm' hB
  go_enter Try.func14, Try.ntmps14
  go_wp2_with (first
    | ((with_reducible refine at_lenC 58 (.tmp 9) ?_); refine wpList_lenC rfl (.tmp 9) 58 27 rfl Try.underlying58 mb _ rfl HB.out.map ?_; rw [HL1.out])
    | (go_at_call 27; refine HD.out.mono ?_; rintro e w2 ⟨rfl, hm2, hg2⟩; have HM2 := Lib.hid hm2; have HG2 := Lib.hid hg2; have c22 : w2.cell? ⟨b, 2, none⟩ = some (.map (some mb)) := (HB.out.blk.keptMap HB.out.map hg2).cell 2; clear hm2 hg2)
    | ((with_reducible refine at_lenC 58 (.tmp 21) ?_); refine wpList_lenC rfl (.tmp 21) 58 27 rfl Try.underlying58 mb _ rfl HM2.out ?_; rw [HL2.out]))
  go_ret
  refine ⟨?_, ⟨HB.out.blk.keptMap HB.out.map HG2.out, HM2.out, fun e he => ?_⟩, ((below_grown HBA.out).but _).andThen HG2.out (fun j hj => .inr hj)⟩
  · rw [HM.out.1, HM.out.2]; rfl
  · have := HB.out.rows e (List.mem_filter.1 he).1
    exact ⟨this.1.keptMap HB.out.map HG2.out, this.2⟩

end Go.Proofs.Ytdfemompijhohaa
