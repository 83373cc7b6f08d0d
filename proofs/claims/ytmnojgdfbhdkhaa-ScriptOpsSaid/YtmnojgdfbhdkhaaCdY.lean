/- The reader's Bytes. -/
import Derived.Test.YtmnojgdfbhdkhaaCdV
set_option linter.unusedVariables false
namespace Go.Proofs.Ytmnojgdfbhdkhaa
open Go.RowKit
variable {lo : Nat}

def byN (rest : List Int) (e : Int) : Int := ruV rest e 18446744073709551615
def byR1 (rest : List Int) (e : Int) : List Int := ruR rest e 18446744073709551615
def byE1 (rest : List Int) (e : Int) : Int := ruE rest e 18446744073709551615
/-- Bytes: its error, its value, what is left. -/
def byE (rest : List Int) (e most : Int) : Int := if byE1 rest e ≠ 0 then byE1 rest e else if most < 0 ∨ most < byN rest e then 3 else tkE (byR1 rest e) 0 (byN rest e)
def byV (rest : List Int) (e most : Int) : List Int := if byE rest e most = 0 then tkV (byR1 rest e) 0 (byN rest e) else []
def byR (rest : List Int) (e most : Int) : List Int := if byE rest e most = 0 then tkR (byR1 rest e) 0 (byN rest e) else rest

def RdB (lo : Nat) (w : World) (g : Nat) (ys rest : List Int) (e : Int) (en : Ending) (w' : World) : Prop := ∃ v', en = .returned v' ∧ Byt w' v' ys ∧ Rdr lo w' g rest e ∧ w.grownBy w' (some g)

theorem ruV_rng {rest : List Int} {e most : Int} (h : ∀ k, k < rest.length → 0 ≤ rest.getD k 0 ∧ rest.getD k 0 ≤ 255) : 0 ≤ ruV rest e most ∧ ruV rest e most ≤ 18446744073709551615 := by
  have hP := pu_rng rest h 10 0 rfl
  unfold ruV
  split
  · omega
  · split
    · omega
    · split <;> omega

theorem ruR_len (rest : List Int) (e most : Int) : (ruR rest e most).length ≤ rest.length := by
  unfold ruR
  split
  · omega
  · split
    · omega
    · split
      · omega
      · simp
theorem tkV_len (rest : List Int) (e n : Int) : (tkV rest e n).length ≤ rest.length := by
  unfold tkV
  split
  · simp
  · split
    · simp
    · simp; omega

theorem two3 {w : World} {g : Nat} {rest : List Int} {e : Int} (h : Rdr lo w g rest e) : ∃ a l c, w.cell? ⟨g, 0, none⟩ = some (.slice a l c) ∧ w.cell? ⟨g, 1, none⟩ = some (.int .i64 e) ∧ ∀ j, w.frozen? ⟨g, j, none⟩ = false := by
  obtain ⟨a, l, c, hB, _⟩ := h
  exact ⟨a, l, c, Rdr.two hB⟩

end Go.Proofs.Ytmnojgdfbhdkhaa
