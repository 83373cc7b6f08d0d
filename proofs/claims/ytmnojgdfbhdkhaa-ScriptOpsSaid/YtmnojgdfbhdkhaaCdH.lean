/- A struct's value built of its parts' cells. -/
import Derived.Test.YtmnojgdfbhdkhaaCdG
set_option linter.unusedVariables false
namespace Go.Proofs.Ytmnojgdfbhdkhaa
open Go.RowKit

theorem foldl_lay (off : Nat) : ∀ (xs : List Value) (k : Nat) (D R : List Value), D.length = off + k → xs.length ≤ R.length →
    (xs.zipIdx k).foldl (fun (cs : Array Value) (x : Value × Nat) => cs.setIfInBounds (off + x.2) x.1) (D ++ R).toArray = (D ++ xs ++ R.drop xs.length).toArray
  | [], k, D, R, _, _ => by simp
  | x :: xs, k, D, r :: R, hD, hl => by
    rw [List.zipIdx_cons, List.foldl_cons]
    have e : (D ++ r :: R).toArray.setIfInBounds (off + k) x = ((D ++ [x]) ++ R).toArray := by
      rw [List.setIfInBounds_toArray, ← hD, List.set_append_right _ _ (Nat.le_refl _)]
      simp
    simp only [e]
    rw [foldl_lay off xs (k + 1) (D ++ [x]) R (by simp; omega) (by simpa using hl)]
    simp
  | x :: xs, k, D, [], _, hl => by simp at hl

/-- One part is laid behind what has been laid. -/
theorem fill_step {place : Nat → Option (Nat × Nat)} {D R : List Value} {i : Nat} {v : Value} {rest : List (Nat × Value)} (hp : place i = some (D.length, v.cells.size)) (hl : v.cells.size ≤ R.length) :
    Instr.fill place (D ++ R).toArray ((i, v) :: rest) = Instr.fill place (D ++ v.cells.toList ++ R.drop v.cells.size).toArray rest := by
  have h := foldl_lay D.length v.cells.toList 0 D R rfl (by simpa using hl)
  have e : v.cells.zipIdx.foldl (fun (cs : Array Value) (x : Value × Nat) => cs.setIfInBounds (D.length + x.2) x.1) (D ++ R).toArray = (D ++ v.cells.toList ++ R.drop v.cells.size).toArray := by
    rw [← Array.foldl_toList, Array.toList_zipIdx]
    rw [h]
    simp
  conv => lhs; unfold Instr.fill
  simp only [hp]
  rw [if_neg (by simp; omega)]
  exact congrArg (fun z => Instr.fill place z rest) e

theorem build_struct {P : Program} {t : TypeId} {fields : Array Field} {zero cells : Array Value} {parts : Array (Nat × Value)} {places : Array (Nat × Nat)} (hz : ∀ w, (zeroValue t).run P w = .ok (.agg zero) w) (hu : P.underlying t = some (.struct fields))
    (hpl : ∀ w, Sem.run P (fields.mapM fun f => do pure (f.offset, ← sizeOf f.type)) w = .ok places w) (hf : Instr.fill (places[·]?) zero parts.toList = some cells) (u : World) : (Instr.build t parts).run P u = .ok (.agg cells) u := by
  unfold Instr.build
  simp only [Sem.run_bind, hz, Result.andThen_ok, run_underlying hu, hpl, Value.cells, hf, Sem.run_pure]

theorem build_cp (n : Int) (xs : List Int) (hx : IsBytes 32 xs) (u : World) : (Instr.build 26 #[(0, .int .u64 n), (1, .agg (bytesV xs))]).run Try.prog u = .ok (.agg (cpV n xs)) u := by
  have hz : ∀ w, (zeroValue 26).run Try.prog w = .ok (.agg (cpV 0 zeroR)) w := fun w => by kernel_rfl
  have hX : (bytesV xs).size = 32 := bytesV_size hx.1
  have hf : ∀ place : Nat → Option (Nat × Nat), place 0 = some (0, 1) → place 1 = some (1, 32) → Instr.fill place (cpV 0 zeroR) [(0, .int .u64 n), (1, .agg (bytesV xs))] = some (cpV n xs) := fun place h0 h1 => by
    have e0 : cpV 0 zeroR = ([] ++ (Value.int .u64 0 :: zeroR.map (Value.int .u8))).toArray := rfl
    rw [e0, fill_step (D := []) (v := .int .u64 n) h0 (by simp [Value.cells])]
    have e1 : ([] ++ (Value.int .u64 n).cells.toList ++ (Value.int .u64 0 :: zeroR.map (Value.int .u8)).drop (Value.int .u64 n).cells.size) = [Value.int .u64 n] ++ zeroR.map (Value.int .u8) := by simp [Value.cells]
    rw [e1, fill_step (D := [Value.int .u64 n]) (v := .agg (bytesV xs)) (by rw [h1]; simp [Value.cells, hX]) (by simp [Value.cells, hX, zeroR])]
    unfold Instr.fill
    congr 1
    simp [Value.cells, zeroR, cpV, bytesV]
    have := hx.1
    omega
  exact build_struct hz Try.underlying26 (places := #[(0, 1), (1, 32)]) (fun w => by kernel_rfl) (hf _ rfl rfl) u

end Go.Proofs.Ytmnojgdfbhdkhaa
