/- Loads of whole variables under a guard ('&&'). -/
import Derived.Test.YtdmjpmigejpkmaaRow
import Derived.BigFrame
import Derived.BigQuiet
set_option linter.unusedVariables false
namespace Go.Proofs.Ytdmjpmigejpkmaa
open Go.RowKit

theorem wpList_load_g {P : Program} {ops : Array Oper} {rest : List Oper} {op : Oper} {a : Act} {w : World} {Q : Exit → Act → World → Prop} (ty : TypeId) (x : Operand) (ho : op.op = .load ty x)
    (b : Nat) (hx : a.eval x = .pointer (some ⟨b, 0, none⟩)) (cs : Array Value) (d : TypeDesc) (hB : Blk w b cs)
    (hu : P.underlying ty = some d) (hd : d.isRow = true) (hi : (P.info? ty).map (·.size) = some cs.size) (hw : Region.wanted op (yielded ops a.tmps) = true)
    (h : wpList P ops Q rest (a.put op.dst (.agg cs)) w) : wpList P ops Q (op :: rest) a w :=
  BigFrame.wpList_want hw fun _ hK => wp_load_mid ty x ho b 0 hx cs.toList d hB.range hu hd (by simpa using hi) (by simpa using hK _ _ h)

/-- Guards for a walk's arms: nothing is done; at another operation they fail at once (under with_reducible). -/
theorem at_load {P : Program} {ops : Array Oper} {Q : Exit → Act → World → Prop} {dst : Option Tmp} {ty ty' : TypeId} (x : Operand) {pos : String} {aft : Array Edge} {g : Option (Nat × Bool)} {rest : List Oper} {a : Act} {w : World}
    (h : wpList P ops Q (⟨dst, .load ty x, ty', pos, aft, g⟩ :: rest) a w) : wpList P ops Q (⟨dst, .load ty x, ty', pos, aft, g⟩ :: rest) a w := h

theorem at_store {P : Program} {ops : Array Oper} {Q : Exit → Act → World → Prop} {dst : Option Tmp} {ty ty' : TypeId} (x : Operand) {y : Operand} {pos : String} {aft : Array Edge} {g : Option (Nat × Bool)} {rest : List Oper} {a : Act} {w : World}
    (h : wpList P ops Q (⟨dst, .store ty x y, ty', pos, aft, g⟩ :: rest) a w) : wpList P ops Q (⟨dst, .store ty x y, ty', pos, aft, g⟩ :: rest) a w := h

theorem at_build {P : Program} {ops : Array Oper} {Q : Exit → Act → World → Prop} (dst : Option Tmp) {ty ty' : TypeId} {ps : Array (Nat × Operand)} {pos : String} {aft : Array Edge} {g : Option (Nat × Bool)} {rest : List Oper} {a : Act} {w : World}
    (h : wpList P ops Q (⟨dst, .build ty ps, ty', pos, aft, g⟩ :: rest) a w) : wpList P ops Q (⟨dst, .build ty ps, ty', pos, aft, g⟩ :: rest) a w := h

/-- .. in a region that draws its order and is walked once. -/
theorem at_qload {P : Program} {ops : Array Oper} {C : World → Prop} {Q : Act → Prop} {dst : Option Tmp} {ty ty' : TypeId} (x : Operand) {pos : String} {aft : Array Edge} {g : Option (Nat × Bool)} {rest : List Oper} {a : Act}
    (h : wpQuiet P ops C Q (⟨dst, .load ty x, ty', pos, aft, g⟩ :: rest) a) : wpQuiet P ops C Q (⟨dst, .load ty x, ty', pos, aft, g⟩ :: rest) a := h

theorem wpQuiet_load {P : Program} {ops : Array Oper} {C : World → Prop} {Q : Act → Prop} {o : Oper} {rest : List Oper} {a : Act} (ty : TypeId) (x : Operand) (ho : o.op = .load ty x) (b : Nat) (hx : a.eval x = .pointer (some ⟨b, 0, none⟩)) (cs : Array Value) {d : TypeDesc}
    (hC : ∀ w, C w → Blk w b cs) (hu : P.underlying ty = some d) (hd : d.isRow = true) (hi : (P.info? ty).map (·.size) = some cs.size) (hw : Region.wanted o (yielded ops a.tmps) = true)
    (h : wpQuiet P ops C Q rest (a.put o.dst (.agg cs))) : wpQuiet P ops C Q (o :: rest) a := by
  refine BigFrame.wpQuiet_want hw fun K hK => ⟨.agg cs, fun w hw' => ?_, hK _ h⟩
  have hl := run_loadVar_mid (P := P) w b 0 ty cs.toList d (hC w hw').range hu hd (by simpa using hi)
  unfold Oper.quietAt execOp
  simp only [ho, hx, Instr.loadAt, Instr.sureAddr, Sem.run_bind, Sem.run_pure, Result.andThen_ok, hl]
  exact ⟨rfl, rfl⟩

/-- A whole variable, as an operation of a walk reads it, in a world. -/
theorem Blk.loadAt {P : Program} {w : World} {b : Nat} {cs : Array Value} (ty : TypeId) {d : TypeDesc} (h : Blk w b cs) (hu : P.underlying ty = some d) (hd : d.isRow = true) (hi : (P.info? ty).map (·.size) = some cs.size) :
    (Instr.loadAt ty (.pointer (some ⟨b, 0, none⟩))).run P w = .ok (.agg cs) w := by
  have := run_loadAt_mid (P := P) w b 0 ty cs.toList d h.range hu hd (by simpa using hi)
  simpa using this
end Go.Proofs.Ytdmjpmigejpkmaa
