/- The set of the guilty: NewSet, Guilty, Members, Punish. -/
import Derived.Test.YtcbjjafjomdklaaEvD
set_option linter.unusedVariables false

set_option linter.unusedSimpArgs false
namespace Go.Proofs.Ytcbjjafjomdklaa
open Go.RowKit

set_option maxRecDepth 100000

/-- Two strictly ascending lists with the same members are the same. -/
theorem sorted_ext : ∀ {l m : List Int}, l.Pairwise (· < ·) → m.Pairwise (· < ·) → (∀ x, x ∈ l ↔ x ∈ m) → l = m
  | [], [], _, _, _ => rfl
  | [], y :: m, _, _, h => absurd ((h y).2 (by simp)) (by simp)
  | x :: l, [], _, _, h => absurd ((h x).1 (by simp)) (by simp)
  | x :: l, y :: m, h1, h2, h => by
    rw [List.pairwise_cons] at h1 h2
    have exy : x = y := by
      have ha := List.mem_cons.1 ((h x).1 (by simp))
      have hb := List.mem_cons.1 ((h y).2 (by simp))
      rcases ha with e | ha
      · exact e
      rcases hb with e | hb
      · exact e.symm
      have := h2.1 x ha
      have := h1.1 y hb
      omega
    subst exy
    have e : l = m := sorted_ext h1.2 h2.2 fun z => by
      constructor
      · intro hz
        rcases List.mem_cons.1 ((h z).1 (List.mem_cons_of_mem _ hz)) with e | hm
        · have := h1.1 z hz; omega
        · exact hm
      · intro hz
        rcases List.mem_cons.1 ((h z).2 (List.mem_cons_of_mem _ hz)) with e | hm
        · have := h2.1 z hz; omega
        · exact hm
    rw [e]

/-- Bools as parts of a row. -/
def blP (gs : List Bool) : List (List Value) := gs.map fun q => [.bool q]

theorem blP_off (gs : List Bool) {k : Nat} (hk : k ≤ gs.length) : offP (blP gs) k = k := by
  unfold offP
  rw [flat_len (sz := 1) (fun L hL => by
    have := List.mem_of_mem_take hL
    unfold blP at this
    obtain ⟨q, _, rfl⟩ := List.mem_map.1 this
    rfl)]
  simp [blP]; omega

theorem blP_at {gs : List Bool} {k : Nat} (hk : k < gs.length) : (blP gs)[k]? = some [.bool (gs.getD k false)] := by
  unfold blP
  rw [List.getElem?_map]; simp [List.getD, List.getElem?_eq_getElem hk]

theorem blP_set (gs : List Bool) (k : Nat) (q : Bool) : (blP gs).set k [.bool q] = blP (gs.set k q) := by
  unfold blP; rw [List.map_set]

theorem blP_rep (n : Nat) : Array.replicate n (Value.bool false) = flatP (blP (List.replicate n false)) := by
  apply Array.toList_inj.1
  unfold flatP blP
  rw [List.map_replicate]
  induction n with
  | zero => rfl
  | succ n ih => simp [List.replicate_succ] at ih ⊢

/-- The set: its object in block b, its row in block g. -/
structure SetI (w : World) (b g : Nat) (gs : List Bool) : Prop where
  blk : Blk w b #[.slice (some ⟨g, 0, none⟩) gs.length gs.length]
  row : Blk w g (flatP (blP gs))
  len : gs.length ≤ 1024
  ne : b ≠ g

theorem SetI.call {w w' : World} {b g : Nat} {gs : List Bool} (h : SetI w b g gs) (hb : Below w.heap.size w w') : SetI w' b g gs := ⟨h.blk.call hb, h.row.call hb, h.len, h.ne⟩

theorem SetI.grown {w w' : World} {b g : Nat} {gs : List Bool} {row : Option Nat} (h : SetI w b g gs) (hg : w.grownBy w' row) (h1 : some b ≠ row) (h2 : some g ≠ row) : SetI w' b g gs := ⟨h.blk.grown hg h1, h.row.grown hg h2, h.len, h.ne⟩

theorem SetI.at {w : World} {b g : Nat} {gs : List Bool} (h : SetI w b g gs) {k : Nat} (hk : k < gs.length) : w.cell? ⟨g, k, none⟩ = some (.bool (gs.getD k false)) := by
  have := h.row.part1 (blP_at hk)
  rw [blP_off gs (Nat.le_of_lt hk)] at this
  exact this

theorem SetI.put {w w' : World} {b g : Nat} {gs : List Bool} (h : SetI w b g gs) {k : Nat} (U : Upd g w w') (B : Blk w' g (flatP ((blP gs).set k [.bool true]))) : SetI w' b g (gs.set k true) := by
  refine ⟨?_, ?_, ?_, h.ne⟩
  · rw [List.length_set]; exact U.blk h.blk h.ne
  · rw [← blP_set]; exact B
  · rw [List.length_set]; exact h.len

/-- make([]bool, n). -/
theorem wpList_make_bools {ops : Array Oper} {rest : List Oper} {o : Oper} {a : Act} {w : World} {Q : Exit → Act → World → Prop} (hg : o.guard = none) (l : Operand) (t e : TypeId) (bytes : Nat) (hop : o.op = Op.makeSlice t l l)
    (hu : Try.prog.underlying t = some (.slice e)) (hi : (Try.prog.info? e).map (fun i => (i.zero, i.size, i.bytes)) = some (some (.bool false), 1, bytes)) (hby : bytes ≤ 8) (kl : IntKind) (n : Nat) (hl : a.eval l = .int kl (n : Int)) (hn : n ≤ 1000000)
    (hK : ∀ w', Below w.heap.size w w' → w'.heap.size = w.heap.size + 1 → Blk w' w.heap.size (Array.replicate n (.bool false)) → wpList Try.prog ops Q rest (a.put o.dst (.slice (some ⟨w.heap.size, 0, none⟩) n n)) w') : wpList Try.prog ops Q (o :: rest) a w := by
  obtain ⟨i0, hi0, hz0, hz1, hz2⟩ := info_parts hi
  refine wpList_plain hg fun _ hK' => ?_
  have hbn : bytes * n ≤ 8 * n := Nat.mul_le_mul_right _ hby
  have hr := run_make (P := Try.prog) w t e i0 (.bool false) hu hi0 hz0 kl kl n n (by omega) (by omega) (by rw [hz2, ← Int.natCast_mul]; omega) (by omega)
  simp only [Int.toNat_natCast, hz1, Nat.mul_one] at hr
  have hm : madeCells (Value.bool false).cells n = Array.replicate n (.bool false) := by
    apply Array.toList_inj.1
    rw [show (Value.bool false).cells = #[Value.bool false] from rfl, toList_madeCells_one]
    simp
  rw [hm] at hr
  unfold Oper.wp
  simp only [execOp, hop, hl, Sem.run_bind, hr, Result.andThen, Sem.run_pure]
  exact hK' _ _ (hK _ ((Below.refl _ w).alloc (Nat.le_refl _) _) (by simp) (Blk.new rfl))

set_option maxHeartbeats 4000000 in
theorem snew_bad (n : Int) (w : World) (h : n < 0 ∨ 1024 < n) :
    Calls Try.prog 38 #[.int .i64 n] w fun e w' => e = .returned (.tuple #[.pointer none, .int .i64 3]) ∧ w' = w := by
  by_cases h1 : n < 0
  · clear h
    go_enter Try.func38, Try.ntmps38
    go_wp2_with fail
    go_ret2
    exact ⟨rfl, rfl⟩
  have h2 : 1024 < n := by omega
  clear h
  go_enter Try.func38, Try.ntmps38
  go_wp2_with fail
  go_ret2
  exact ⟨rfl, rfl⟩

theorem info_bool : (Try.prog.info? 4).map (fun i => (i.zero, i.size, i.bytes)) = some (some (.bool false), 1, 1) := by kernel_rfl

set_option maxHeartbeats 4000000 in
theorem snew_ok (n : Nat) (w : World) (h : n ≤ 1024) :
    Calls Try.prog 38 #[.int .i64 n] w fun e w' => e = .returned (.tuple #[.pointer (some ⟨w.heap.size + 1, 0, none⟩), .int .i64 0]) ∧ SetI w' (w.heap.size + 1) w.heap.size (List.replicate n false) ∧ Below w.heap.size w w' := by
  have h1 : ¬ (n : Int) < 0 := by omega
  have h2 : ¬ (1024 : Int) < n := by omega
  have HI := Lib.hid info_bool
  go_enter Try.func38, Try.ntmps38
  go_wp2_with ((with_reducible refine at_makeEl (.tmp 10) ?_); refine wpList_make_bools rfl (.tmp 10) 83 4 1 rfl Try.underlying83 HI.out (by omega) .i64 n rfl (by omega) ?_; intro w1 hg1 hs1 hr1; have HG1 := Lib.hid hg1; have HR1 := Lib.hid hr1; have HS1 := Lib.hid hs1; clear hg1 hr1 hs1)
  have hb1 : Below w.heap.size w w1 := HG1.out
  have hs1 := HS1.out
  go_ret2
  refine ⟨by simp [hs1], ⟨?_, ?_, ?_, ?_⟩, hb1.alloc (by rw [hs1]; omega) _⟩
  · rw [List.length_replicate]; exact Blk.new hs1.symm
  · rw [← blP_rep]; exact HR1.out.alloc _
  · rw [List.length_replicate]; exact h
  · omega

/-- Whether a number is in the set. -/
def guiV (gs : List Bool) (i : Int) : Bool := decide (0 ≤ i) && gs.getD i.toNat false

theorem guiV_neg {gs : List Bool} {i : Int} (h : i < 0) : guiV gs i = false := by
  unfold guiV; rw [decide_eq_false (by omega)]; rfl

theorem guiV_far {gs : List Bool} {i : Int} (h : gs.length ≤ i) : guiV gs i = false := by
  unfold guiV; simp [List.getD, List.getElem?_eq_none (show gs.length ≤ i.toNat by omega)]

theorem guiV_nat {gs : List Bool} (k : Nat) : guiV gs k = gs.getD k false := by
  unfold guiV; rw [decide_eq_true (by omega)]; simp

set_option maxHeartbeats 4000000 in
theorem guilty_any (b g : Nat) (gs : List Bool) (i : Int) (w : World) (hV : SetI w b g gs) (hi : -9223372036854775808 ≤ i ∧ i ≤ 9223372036854775807) :
    Calls Try.prog 48 #[.pointer (some ⟨b, 0, none⟩), .int .i64 i] w fun e w' => e = .returned (.bool (guiV gs i)) ∧ w' = w := by
  have HV := Lib.hid hV
  have hblt := hV.blk.lt
  have c0 : w.cell? ⟨b, 0, none⟩ = some (.slice (some ⟨g, 0, none⟩) gs.length gs.length) := hV.blk.cell 0
  have HL : Hid (gs.length ≤ 1024) := hV.len
  obtain ⟨m, hm⟩ : ∃ m, gs.length = m := ⟨_, rfl⟩
  rw [hm] at c0 HL
  have hm1 : m ≤ 1024 := HL.out
  clear hV
  by_cases h1 : i < 0
  · rw [guiV_neg h1]
    have h1' : ¬ 0 ≤ i := by omega
    clear hm
    go_enter Try.func48, Try.ntmps48
    go_wp2_with fail
    go_ret
    exact ⟨rfl, rfl⟩
  have h0 : 0 ≤ i := by omega
  by_cases h2 : (m : Int) ≤ i
  · rw [guiV_far (by omega)]
    have h2' : ¬ i < (m : Int) := by omega
    clear hm
    go_enter Try.func48, Try.ntmps48
    go_wp2_with fail
    go_ret
    exact ⟨rfl, rfl⟩
  obtain ⟨k, rfl⟩ : ∃ k : Nat, i = k := ⟨i.toNat, by omega⟩
  have hk : k < m := by omega
  have HC := Lib.hid (HV.out.at (k := k) (by omega))
  rw [guiV_nat]
  obtain ⟨q, hq⟩ : ∃ q, gs.getD k false = q := ⟨_, rfl⟩
  rw [hq] at HC ⊢
  clear hm hq h1 h2
  have hlt : (k : Int) < m := by omega
  go_enter Try.func48, Try.ntmps48
  go_wp2_with ((with_reducible refine at_load (.tmp 22) ?_); refine wpList_load_1 4 (.tmp 22) rfl g k (.bool q) HC.out rfl _ Try.underlying4 rfl rfl ?_)
  go_ret
  exact ⟨rfl, rfl⟩

/-- The members among the first k. -/
def memK (gs : List Bool) : Nat → List Int
  | 0 => []
  | k + 1 => if gs.getD k false = true then memK gs k ++ [(k : Int)] else memK gs k

theorem memK_len (gs : List Bool) : ∀ k, (memK gs k).length ≤ k
  | 0 => by simp [memK]
  | k + 1 => by
    have := memK_len gs k
    rw [memK]; split <;> simp <;> omega

theorem memK_mem {gs : List Bool} {x : Int} : ∀ {k : Nat}, x ∈ memK gs k ↔ 0 ≤ x ∧ x < k ∧ gs.getD x.toNat false = true
  | 0 => by simp [memK]; omega
  | k + 1 => by
    rw [memK]
    by_cases h : gs.getD k false = true
    · rw [if_pos h, List.mem_append, memK_mem, List.mem_singleton]
      constructor
      · rintro (⟨h1, h2, h3⟩ | rfl)
        · exact ⟨h1, by omega, h3⟩
        · exact ⟨by omega, by omega, by simpa using h⟩
      · rintro ⟨h1, h2, h3⟩
        by_cases e : x = k
        · exact .inr e
        · exact .inl ⟨h1, by omega, h3⟩
    · rw [if_neg h, memK_mem]
      constructor
      · rintro ⟨h1, h2, h3⟩; exact ⟨h1, by omega, h3⟩
      · rintro ⟨h1, h2, h3⟩
        refine ⟨h1, ?_, h3⟩
        by_cases e : x = k
        · subst e; simp at h3 h; rw [h] at h3; cases h3
        · omega

theorem memK_sorted (gs : List Bool) : ∀ k, (memK gs k).Pairwise (· < ·)
  | 0 => List.Pairwise.nil
  | k + 1 => by
    rw [memK]
    split
    · rw [List.pairwise_append]
      refine ⟨memK_sorted gs k, by simp, fun x hx y hy => ?_⟩
      rw [List.mem_singleton.1 hy]
      exact (memK_mem.1 hx).2.1
    · exact memK_sorted gs k

/-- All of them. -/
def memS (gs : List Bool) : List Int := memK gs gs.length

theorem memS_mem {gs : List Bool} {x : Int} : x ∈ memS gs ↔ guiV gs x = true := by
  unfold memS guiV
  rw [memK_mem]
  simp only [Bool.and_eq_true, decide_eq_true_eq]
  constructor
  · rintro ⟨h1, h2, h3⟩; exact ⟨h1, h3⟩
  · rintro ⟨h1, h3⟩
    refine ⟨h1, ?_, h3⟩
    by_cases h : x.toNat < gs.length
    · omega
    · rw [List.getD, List.getElem?_eq_none (by omega)] at h3; cases h3

theorem memS_rep (n : Nat) : memS (List.replicate n false) = [] := by
  have h : ∀ x, x ∉ memS (List.replicate n false) := fun x hx => by
    rw [memS_mem] at hx
    unfold guiV at hx
    simp [List.getD, List.getElem?_replicate] at hx
    obtain ⟨_, h⟩ := hx
    split at h <;> simp at h
  exact List.eq_nil_iff_forall_not_mem.2 h

def MemI (w : World) (gs : List Bool) (v i : Value) (wr : World) : Prop :=
  ∃ k : Nat, k ≤ gs.length ∧ i = .int .i64 k ∧ OwnK .i64 3 wr w.heap.size v (memK gs k) ∧ Below w.heap.size w wr

set_option maxHeartbeats 4000000 in
theorem members_any (b g : Nat) (gs : List Bool) (w : World) (hV : SetI w b g gs) :
    Calls Try.prog 40 #[.pointer (some ⟨b, 0, none⟩)] w fun e w' => ∃ v', e = .returned v' ∧ OwnK .i64 3 w' w.heap.size v' (memS gs) ∧ Below w.heap.size w w' := by
  have HV := Lib.hid hV
  have hblt := hV.blk.lt
  have c0 : w.cell? ⟨b, 0, none⟩ = some (.slice (some ⟨g, 0, none⟩) gs.length gs.length) := hV.blk.cell 0
  have HL : Hid (gs.length ≤ 1024) := hV.len
  have HII := Lib.hid info_int
  obtain ⟨m, hm⟩ : ∃ m, Hid (gs.length = m) := ⟨_, rfl⟩
  rw [hm.out] at c0 HL
  have hm1 : m ≤ 1024 := HL.out
  clear hV
  go_enter Try.func40, Try.ntmps40
  go_wp2_with fail
  go_loopw [3, 11] (fun v i wr => MemI w gs v i wr) (fun _ i _ => m - (intOf i).toNat)
  case atStart => exact ⟨0, Nat.zero_le _, rfl, OwnK.nil _ _ _ _, Below.refl _ _⟩
  case round =>
    obtain ⟨k, hk, rfl, hown, hbl⟩ := hrel
    rw [hm.out] at hk
    have HOW := Lib.hid hown
    have HBL := Lib.hid hbl
    clear hown hbl c0
    by_cases hlt : k < m
    case neg =>
      obtain rfl : k = m := by omega
      go_wp2_with fail
      go_ret
      exact ⟨_, rfl, by unfold memS; rw [hm.out]; exact HOW.out, HBL.out⟩
    have hlt' : (k : Int) < m := by omega
    have hkv : k < gs.length := by rw [hm.out]; exact hlt
    have HC := Lib.hid ((HV.out.call HBL.out).at hkv)
    have HML := Lib.hid (memK_len gs k)
    have HNX : Hid (memK gs (k + 1) = if gs.getD k false = true then memK gs k ++ [(k : Int)] else memK gs k) := rfl
    obtain ⟨q, hq⟩ : ∃ q, gs.getD k false = q := ⟨_, rfl⟩
    rw [hq] at HC HNX
    clear hq hkv
    cases q
    case false =>
      go_wp2_with ((with_reducible refine at_load (.tmp 14) ?_); refine wpList_load_1 4 (.tmp 14) rfl g k (.bool false) HC.out rfl _ Try.underlying4 rfl rfl ?_)
      go_roundw
      case rel => exact ⟨k + 1, by rw [hm.out]; omega, by go_num, by rw [HNX.out]; exact HOW.out, HBL.out⟩
      case measure => simp [intOf]; omega
    case true =>
      go_wp2_with (first
        | ((with_reducible refine at_load (.tmp 14) ?_); refine wpList_load_1 4 (.tmp 14) rfl g k (.bool true) HC.out rfl _ Try.underlying4 rfl rfl ?_)
        | ((with_reducible refine at_app (.tmp 17) (.tmp 19) ?_); refine wpList_app1 HII.out (by omega) Try.underlying45 (.tmp 17) (.tmp 19) rfl rfl w.heap.size _ _ rfl (HOW.out.grown (World.grownBy_alloc _ (.cells #[.int .i64 (k : Int)] 3) none) (fun n _ => by simp)) wr.heap.size 1 (k : Int) rfl ((Blk.new rfl).cell 0) (by have := HML.out; omega) (by have := HBL.out.size; simp; omega) ?_; intro v3 w3 h3 g3 o3; have HOW3 := Lib.hid h3; have HG3 := Lib.hid g3; clear h3 g3 o3))
      have hbn : Below w.heap.size w (wr.alloc (.cells #[.int .i64 (k : Int)] 3)) := HBL.out.alloc HBL.out.size _
      go_roundw
      case rel => exact ⟨k + 1, by rw [hm.out]; omega, by go_num, by rw [HNX.out, if_pos rfl]; exact HOW3.out, hbn.grown HG3.out hbn.size (fun n e => (HOW.out.lt n e).1)⟩
      case measure => simp [intOf]; omega
/-! ### Punish -/

/-- One validator's turn. -/
def punT (s : List Bool × Int) (i : Int) : List Bool × Int :=
  if s.1.getD i.toNat false = true then s else (s.1.set i.toNat true, s.2 + 1)

def punL (gs : List Bool) (l : List Int) (k : Nat) : List Bool × Int := (l.take k).foldl punT (gs, 0)

theorem punL_zero (gs : List Bool) (l : List Int) : punL gs l 0 = (gs, 0) := rfl

theorem punL_succ {gs : List Bool} {l : List Int} {k : Nat} (hk : k < l.length) : punL gs l (k + 1) = punT (punL gs l k) (l.getD k 0) := by
  unfold punL
  rw [List.take_add_one, List.foldl_append]
  simp [List.getD, List.getElem?_eq_getElem hk]

theorem punT_len (s : List Bool × Int) (i : Int) : (punT s i).1.length = s.1.length := by
  unfold punT; split <;> simp

theorem punL_len (gs : List Bool) (l : List Int) : ∀ k, k ≤ l.length → (punL gs l k).1.length = gs.length
  | 0, _ => rfl
  | k + 1, h => by rw [punL_succ (by omega), punT_len]; exact punL_len gs l k (by omega)

theorem punT_cnt (s : List Bool × Int) (i : Int) : s.2 ≤ (punT s i).2 ∧ (punT s i).2 ≤ s.2 + 1 := by
  unfold punT; split
  · omega
  · show s.2 ≤ s.2 + 1 ∧ s.2 + 1 ≤ s.2 + 1; omega

theorem punL_cnt (gs : List Bool) (l : List Int) : ∀ k : Nat, k ≤ l.length → 0 ≤ (punL gs l k).2 ∧ (punL gs l k).2 ≤ k
  | 0, _ => by rw [punL_zero]; simp
  | k + 1, h => by
    have h1 := punL_cnt gs l k (by omega)
    have h2 := punT_cnt (punL gs l k) (l.getD k 0)
    rw [punL_succ (by omega)]
    omega

/-- All of it. -/
def punR (gs : List Bool) (l : List Int) : List Bool × Int := if vlE l gs.length = 0 then punL gs l l.length else (gs, 0)

theorem upd_to {w a u : World} {g : Nat} (h : w.grownBy a (some g)) (hu : Upd g a u) : w.grownBy u (some g) :=
  ⟨hu.os.trans h.os, hu.tape.trans h.tape, hu.output.trans h.output, by rw [hu.size]; exact h.size, fun k hk hne => (hu.block k (fun e => hne (by rw [e]))).trans (h.block k hk hne)⟩

def PunS (w : World) (b g : Nat) (gs : List Bool) (l : List Int) (c i : Value) (wr : World) : Prop :=
  ∃ k : Nat, k ≤ l.length ∧ i = .int .i64 k ∧ c = .int .i64 (punL gs l k).2 ∧ SetI wr b g (punL gs l k).1 ∧ w.grownBy wr (some g)

set_option maxHeartbeats 8000000 in
theorem punish_code (b g : Nat) (gs : List Bool) (v : Value) (l : List Int) (w : World) (hV : SetI w b g gs) (hI : IntsV w v l) (hO : Off g v) :
    Calls Try.prog 15 #[.pointer (some ⟨b, 0, none⟩), v] w fun e w' => e = .returned (.tuple #[.int .i64 (punR gs l).2, .int .i64 (vlE l gs.length)]) ∧ SetI w' b g (punR gs l).1 ∧ w.grownBy w' (some g) := by
  have HV := Lib.hid hV
  have hblt := hV.blk.lt
  have hglt := hV.row.lt
  have c0 : w.cell? ⟨b, 0, none⟩ = some (.slice (some ⟨g, 0, none⟩) gs.length gs.length) := hV.blk.cell 0
  have HL : Hid (gs.length ≤ 1024) := hV.len
  have HI := Lib.hid hI
  have HO := Lib.hid hO
  have HVL := Lib.hid (fun u (hu : IntsV u v l) => vlist_any v l gs.length u hu (by omega) (by have := hV.len; omega))
  obtain ⟨m, hm⟩ : ∃ m, Hid (gs.length = m) := ⟨_, rfl⟩
  rw [hm.out] at c0 HL HVL
  obtain ⟨ve, hve⟩ : ∃ ve, vlE l m = ve := ⟨_, rfl⟩
  rw [hve] at HVL
  have HVE : Hid (vlE l gs.length = ve) := by show _ = _; rw [hm.out]; exact hve
  have hm1 : m ≤ 1024 := HL.out
  obtain ⟨a, len, cap, rfl, hlen, hmax, _⟩ := hI.1
  unfold maxLen at hmax
  have HLEN := Lib.hid hlen
  have hi1 : (Try.prog.info? 4).map (·.size) = some 1 := by kernel_rfl
  clear hV hI hO hve hlen
  by_cases h0 : ve = 0
  case neg =>
    have hq : (ve != 0) = true := by simpa using h0
    have HC : Hid (punR gs l = (gs, 0)) := by show punR gs l = _; unfold punR; rw [if_neg (by rw [HVE.out]; exact h0)]
    go_enter Try.func15, Try.ntmps15
    go_wp2_with (go_at_call 26; refine (HVL.out _ HI.out).mono ?_; rintro e w1 ⟨rfl, rfl⟩)
    go_ret2
    exact ⟨by rw [HC.out, HVE.out]; rfl, by rw [HC.out]; exact HV.out, World.grownBy.rfl' _ _⟩
  subst h0
  have HC : Hid (punR gs l = punL gs l l.length) := by show punR gs l = _; unfold punR; rw [if_pos HVE.out]
  have HG := Lib.hid (vl_good HVE.out)
  go_enter Try.func15, Try.ntmps15
  go_wp2_with (go_at_call 26; refine (HVL.out _ HI.out).mono ?_; rintro e w1 ⟨rfl, rfl⟩)
  go_loopw [4, 20] (fun c i wr => PunS w b g gs l c i wr) (fun _ i _ => len - (intOf i).toNat)
  case atStart => exact ⟨0, Nat.zero_le _, rfl, rfl, HV.out, World.grownBy.rfl' _ _⟩
  case round =>
    obtain ⟨k, hk, rfl, rfl, hti, hgr⟩ := hrel
    have HTM0 : (punL gs l k).1.length = m := by rw [punL_len _ _ k hk, hm.out]
    have HCN := Lib.hid (punL_cnt gs l k hk)
    have HNX := Lib.hid (fun hk => punL_succ (gs := gs) (l := l) (k := k) hk)
    rw [HLEN.out] at hk
    obtain ⟨P, hP⟩ : ∃ P, punL gs l k = P := ⟨_, rfl⟩
    obtain ⟨T, n⟩ := P
    rw [hP] at hti HTM0 HCN HNX ⊢
    simp only at hti HTM0 HCN HNX ⊢
    have HP := Lib.hid hP
    have HTI := Lib.hid hti
    have HTM := Lib.hid HTM0
    have HGR := Lib.hid hgr
    have HN := HCN.out
    clear hti HTM0 hgr c0 hP
    by_cases hlt : k < len
    case neg =>
      obtain rfl : k = len := by omega
      go_wp2_with fail
      go_ret2
      have e1 : punR gs l = (T, n) := by rw [HC.out, HLEN.out]; exact HP.out
      exact ⟨by rw [e1, HVE.out]; rfl, by rw [e1]; exact HTI.out, HGR.out⟩
    have hlt' : (k : Int) < len := by omega
    have hkl : k < l.length := by rw [HLEN.out]; exact hlt
    obtain ⟨hx0, hx1, _⟩ := HG.out.2 k hkl
    have HIr := HI.out.1.grownOff HGR.out (fun g' e' => by cases e'; exact HO.out)
    obtain ⟨rb, ro, rfl, hcx⟩ : ∃ rb ro, a = some ⟨rb, ro, none⟩ ∧ wr.cell? ⟨rb, ro + k, none⟩ = some (.int .i64 (l.getD k 0)) := by
      obtain ⟨a', n', c', e', _, _, h5⟩ := HIr
      cases e'
      rcases h5 with h0 | ⟨b', off, rfl, _, hc⟩
      · omega
      · exact ⟨b', off, rfl, hc k hlt⟩
    have HNK := Lib.hid (HNX.out hkl)
    obtain ⟨j, hj⟩ : ∃ j : Nat, l.getD k 0 = j := ⟨(l.getD k 0).toNat, by omega⟩
    rw [hj] at hcx HNK hx1
    have hjm : j < m := by rw [hm.out] at hx1; omega
    have hjm' : (j : Int) < m := by omega
    have hjT : j < T.length := by rw [HTM.out]; exact hjm
    have HCJ := Lib.hid (HTI.out.at hjT)
    have HX := Lib.hid hcx
    have c0 : wr.cell? ⟨b, 0, none⟩ = some (.slice (some ⟨g, 0, none⟩) m m) := by have := HTI.out.blk.cell 0; rw [HTM.out] at this; exact this
    have HNK2 : Hid (punL gs l (k + 1) = if T.getD j false = true then (T, n) else (T.set j true, n + 1)) := by
      show punL gs l (k + 1) = _
      rw [HNK.out]; unfold punT; rfl
    have HOFF := Lib.hid (blP_off T (Nat.le_of_lt hjT))
    have HAT := Lib.hid (blP_at hjT)
    obtain ⟨q, hq⟩ : ∃ q, T.getD j false = q := ⟨_, rfl⟩
    rw [hq] at HCJ HNK2 HAT
    clear HNX HNK hx0 hx1 hj HIr hcx hq
    cases q
    case true =>
      go_wp2_with (first
        | ((with_reducible refine at_load (.tmp 22) ?_); refine wpList_load_1 3 (.tmp 22) rfl rb (ro + k) (.int .i64 j) HX.out rfl _ Try.underlying3 rfl rfl ?_)
        | ((with_reducible refine at_load (.tmp 29) ?_); refine wpList_load_1 4 (.tmp 29) rfl g j (.bool true) HCJ.out rfl _ Try.underlying4 rfl rfl ?_))
      go_roundw
      case rel => exact ⟨k + 1, by omega, by go_num, by rw [HNK2.out]; rfl, by rw [HNK2.out]; exact HTI.out, HGR.out⟩
      case measure => simp [intOf]; omega
    case false =>
      go_wp2_with (first
        | ((with_reducible refine at_load (.tmp 22) ?_); refine wpList_load_1 3 (.tmp 22) rfl rb (ro + k) (.int .i64 j) HX.out rfl _ Try.underlying3 rfl rfl ?_)
        | ((with_reducible refine at_load (.tmp 29) ?_); refine wpList_load_1 4 (.tmp 29) rfl g j (.bool false) HCJ.out rfl _ Try.underlying4 rfl rfl ?_)
        | ((with_reducible refine at_store (.tmp 37) ?_); refine wpList_store_part1 rfl 4 (.tmp 37) _ rfl g (blP T) j (.bool false) (.bool true) HTI.out.row HAT.out (by rw [HOFF.out]; rfl) rfl hi1 rfl rfl ?_; intro w2 U2 B2; have HT2 := Lib.hid (HTI.out.put U2 B2); have HG2 := Lib.hid (upd_to HGR.out U2); clear U2 B2))
      go_roundw
      case rel => exact ⟨k + 1, by omega, by go_num, by rw [HNK2.out]; rfl, by rw [HNK2.out]; exact HT2.out, HG2.out⟩
      case measure => simp [intOf]; omega
end Go.Proofs.Ytcbjjafjomdklaa
