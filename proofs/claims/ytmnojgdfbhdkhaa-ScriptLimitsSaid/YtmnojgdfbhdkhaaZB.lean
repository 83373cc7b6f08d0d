/- Several texts as one: L6m. -/
import Derived.Test.YtmnojgdfbhdkhaaZA
namespace Go.Proofs.Ytmnojgdfbhdkhaa

/-! L6m -/
section
set_option linter.unusedVariables false
set_option linter.unusedSimpArgs false
open Go.RowKit

theorem andI1' (n : Int) : bits .and .i64 n 1 = n % 2 := by
  have e : (BitVec.ofInt 64 n &&& BitVec.ofInt 64 1).toNat = (n % 2).toNat := by
    have h1 : (BitVec.ofInt 64 1).toNat = 1 := by decide
    rw [BitVec.toNat_and, h1, Nat.and_one_is_mod, BitVec.toNat_ofInt]
    omega
  show IntKind.i64.wrap ((BitVec.ofInt 64 n &&& BitVec.ofInt 64 1).toNat : Int) = n % 2
  rw [e, Int.toNat_of_nonneg (by omega), IntKind.wrap_i64]
  omega

/-! ### Ticks as bytes -/
theorem nx_tick (t : List Int) : nxE (1 :: t) = 0 ∧ nxU (1 :: t) = 1 := by
  have e : uenc (1 : Int).toNat ++ t = 1 :: t := by rw [show uenc (1 : Int).toNat = [1] by decide +kernel]; rfl
  have h := U_back (n := 1) (m := 8) (by omega) (by omega) (by omega) t
  rw [e] at h
  have hK : nxK (1 :: t) = 1 := h.1
  have hR : nxR (1 :: t) = t := by unfold nxR; rw [h.2]
  refine ⟨?_, ?_⟩
  · unfold nxE
    rw [if_neg (by rw [h.2]; simp), hK]
    rfl
  · unfold nxU nxT
    rw [hK, hR]
    show (1 :: t).length - t.length = 1
    simp
theorem dops_ticks (N : Nat) : ∀ f k, k ≤ 4096 → k ≤ N → N - k < f → (dops (List.replicate N 1) f k k).1.length = min N 4096 - k ∧ (dops (List.replicate N 1) f k k).2 = (min N 4096, if 4096 < N then 11 else 0)
  | 0, k, _, _, h => by omega
  | f + 1, k, h1, h2, h3 => by
    rw [dops, List.length_replicate]
    by_cases hN : N ≤ k
    · rw [if_pos hN, if_neg (by omega)]
      exact ⟨by simp; omega, by rw [show min N 4096 = k by omega]⟩
    rw [if_neg hN]
    by_cases h4 : k = 4096
    · rw [if_pos h4, if_pos (by omega)]
      exact ⟨by simp; omega, by rw [show min N 4096 = k by omega]⟩
    rw [if_neg h4]
    have e : (List.replicate N (1 : Int)).drop k = 1 :: List.replicate (N - k - 1) 1 := by
      rw [List.drop_replicate, show N - k = (N - k - 1) + 1 by omega, List.replicate_succ]; rfl
    obtain ⟨g1, g2⟩ := nx_tick (List.replicate (N - k - 1) 1)
    rw [← e] at g1 g2
    rw [if_neg (by rw [g1]; simp), g2]
    obtain ⟨i1, i2⟩ := dops_ticks N f (k + 1) (by omega) (by omega) (by omega)
    refine ⟨?_, i2⟩
    simp only [List.length_cons]
    rw [i1]; omega

/-! ### Ticks as operations -/
theorem ticks_err (N : Nat) : opsErr (List.replicate N tickD) = 0 := opsErr_zero fun j hj => by rw [List.getElem_replicate]; exact err_tick
theorem ticks_by (N : Nat) : opsBy (List.replicate N tickD) = List.replicate N 1 := by
  induction N with
  | zero => rfl
  | succ n ih =>
    rw [List.replicate_succ, List.replicate_succ]
    show opBy tickD ++ opsBy (List.replicate n tickD) = _
    rw [ih, by_tick]; rfl
theorem ticks_good {N : Nat} (h : N ≤ 4097) : GoodL (List.replicate N tickD) where
  small := by
    intro d hd
    rw [List.eq_of_mem_replicate hd]
    exact ⟨by show (0 : Nat) ≤ _; omega, by show (0 : Nat) ≤ _; omega, by show (0 : Nat) ≤ _; omega, by show (0 : Nat) ≤ _; omega⟩
  fits := by
    intro k hk _
    rw [List.take_replicate, ticks_by, List.length_replicate]
    omega

/-- A row of N operations of which the first k are ticks. -/
def tickRow (T Z : Array Value) (N k : Nat) : List (Array Value) := List.replicate k T ++ List.replicate (N - k) Z
theorem tickRow_zero (T Z : Array Value) (N : Nat) : tickRow T Z N 0 = List.replicate N Z := by simp [tickRow]
theorem tickRow_all (T Z : Array Value) (N : Nat) : tickRow T Z N N = List.replicate N T := by simp [tickRow]
theorem tickRow_next {T Z : Array Value} {N k : Nat} {sz : Nat} (hT : T.size = sz) (hZ : Z.size = sz) (h00 : 0 < sz) (hk : k < N) {v : Value} (h0 : Z.setIfInBounds 0 v = T) :
    (rowsL (tickRow T Z N k)).toArray.setIfInBounds (k * sz) v = (rowsL (tickRow T Z N (k + 1))).toArray := by
  have e1 : tickRow T Z N k = List.replicate k T ++ (Z :: List.replicate (N - (k + 1)) Z) := by
    unfold tickRow; rw [← List.replicate_succ, show N - (k + 1) + 1 = N - k by omega]
  have e2 : tickRow T Z N (k + 1) = List.replicate k T ++ (T :: List.replicate (N - (k + 1)) Z) := by
    unfold tickRow; rw [List.replicate_succ', List.append_assoc]; rfl
  have hl : (rowsL (List.replicate k T)).length = k * sz := by
    rw [rowsL_len (sz := sz) (fun X hX => by rw [List.eq_of_mem_replicate hX]; exact hT), List.length_replicate]
  have er : ∀ (X : Array Value) (r : List (Array Value)), rowsL (X :: r) = X.toList ++ rowsL r := fun _ _ => rfl
  rw [e1, e2, rowsL_app, rowsL_app, er, er, List.setIfInBounds_toArray, List.set_append_right _ _ (by omega), hl, Nat.sub_self]
  congr 2
  rw [← h0, Array.toList_setIfInBounds]
  rw [List.set_append_left _ _ (by rw [Array.length_toList, hZ]; exact h00)]
theorem tickRow_at {T Z : Array Value} {N k : Nat} {sz : Nat} (hT : T.size = sz) (hZ : Z.size = sz) (h00 : 0 < sz) (hk : k < N) : (rowsL (tickRow T Z N k)).toArray[k * sz]? = Z[0]? := by
  have hs : ∀ X ∈ tickRow T Z N k, X.size = sz := fun X hX => by
    rcases List.mem_append.1 hX with h | h
    · rw [List.eq_of_mem_replicate h]; exact hT
    · rw [List.eq_of_mem_replicate h]; exact hZ
  have hl : k < (tickRow T Z N k).length := by simp [tickRow]; omega
  have := rowsL_at hs hl (j := 0) h00
  rw [List.getElem?_toArray]
  rw [Nat.add_zero] at this
  rw [this]
  have e : (tickRow T Z N k)[k] = Z := by
    have h1 : (tickRow T Z N k)[k]? = some Z := by
      unfold tickRow
      rw [List.getElem?_append_right (by simp), List.length_replicate, Nat.sub_self, List.getElem?_replicate, if_pos (by omega)]
    rw [List.getElem?_eq_getElem hl] at h1
    exact Option.some.inj h1
  rw [e]; simp

theorem madeRow {Z : Array Value} {sz n : Nat} (hZ : Z.size = sz) (h0 : 0 < sz) : madeCells Z (n * sz) = (rowsL (List.replicate n Z)).toArray := by
  apply Array.ext_getElem?
  intro i
  have hs : ∀ X ∈ List.replicate n Z, X.size = sz := fun X hX => by rw [List.eq_of_mem_replicate hX]; exact hZ
  by_cases hi : i < n * sz
  · have hq : i / sz < n := (Nat.div_lt_iff_lt_mul h0).2 hi
    have := rowsL_at hs (i := i / sz) (by simpa using hq) (j := i % sz) (Nat.mod_lt _ h0)
    rw [show i / sz * sz + i % sz = i from Nat.div_add_mod' i sz] at this
    have e2 : (rowsL (List.replicate n Z)).toArray[i]? = (rowsL (List.replicate n Z))[i]? := List.getElem?_toArray
    rw [e2, this]
    have hm : i % sz < Z.size := by rw [hZ]; exact Nat.mod_lt _ h0
    simp only [madeCells, Array.getElem?_map, Array.getElem?_range, hi, hZ, List.getElem_replicate]
    simp [hm, getElem!_pos Z (i % sz) hm]
  · rw [Array.getElem?_eq_none (by rw [size_madeCells]; omega), Array.getElem?_eq_none (by rw [List.size_toArray, rowsL_len hs, List.length_replicate]; omega)]

/-- make([]T, n) of any type. -/
theorem wpList_make_any {ops : Array Oper} {rest : List Oper} {o : Oper} {a : Act} {w : World} {Q : Exit → Act → World → Prop} (hg : o.guard = none) (l : Operand) (t e : TypeId) (z : Value) (sz bytes : Nat) (hop : o.op = Op.makeSlice t l l)
    (hu : Try.prog.underlying t = some (.slice e)) (hi : (Try.prog.info? e).map (fun i => (i.zero, i.size, i.bytes)) = some (some z, sz, bytes)) (kl : IntKind) (n : Nat) (hl : a.eval l = .int kl (n : Int)) (hn : n ≤ 1000000) (hby : bytes ≤ 100000)
    (hK : wpList Try.prog ops Q rest (a.put o.dst (.slice (some ⟨w.heap.size, 0, none⟩) n n)) (w.alloc (.cells (madeCells z.cells (n * sz)) e))) : wpList Try.prog ops Q (o :: rest) a w := by
  obtain ⟨i0, hi0, hz0, hz1, hz2⟩ := info_parts hi
  refine wpList_plain hg fun _ hK' => ?_
  have hr := run_make (P := Try.prog) w t e i0 z hu hi0 hz0 kl kl n n (by omega) (by omega) (by rw [hz2]; have h1 : (bytes : Int) * (n : Int) ≤ 100000 * 1000000 := Int.mul_le_mul (by omega) (by omega) (by omega) (by omega); omega) (by omega)
  simp only [Int.toNat_natCast, hz1] at hr
  unfold Oper.wp
  simp only [execOp, hop, hl, Sem.run_bind, hr, Result.andThen, Sem.run_pure]
  exact hK' _ _ hK

theorem ticks_elV {w : World} {b N : Nat} {T : Array Value} (hT : T = flatP (tickD.parts nilV nilV nilV nilV)) (hB : Blk w b (rowsL (List.replicate N T)).toArray) (hN : N ≤ 4097) : ElV OpIn 446 w (.slice (some ⟨b, 0, none⟩) N N) (List.replicate N tickD) := by
  refine ⟨some ⟨b, 0, none⟩, N, by rw [List.length_replicate], by rw [List.length_replicate]; unfold maxLen; omega, .inr ⟨b, 0, rfl, hB.lt, List.replicate N T, ?_, ?_⟩⟩
  · have := hB.range; simpa using this
  · refine ⟨by simp, fun p hp => ?_⟩
    have h1 := List.of_mem_zip hp
    rw [List.eq_of_mem_replicate h1.1, List.eq_of_mem_replicate h1.2, hT]
    exact tick_in w
theorem info_u8c' : (Try.prog.info? 5).map (fun i => (i.zero, i.size, i.bytes)) = some (some (.int .u8 0), 1, 1) := info_u8c
theorem row_bytes (N : Nat) : rowK .u8 (fun _ => 1) N N = bytesV (List.replicate N 1) := by
  unfold rowK bytesV
  congr 1
  apply List.ext_getElem?
  intro i
  by_cases hi : i < N
  · simp [hi]
  · rw [List.getElem?_eq_none (by simp; omega), List.getElem?_eq_none (by simp; omega)]
theorem byt_zero {w : World} {a : Option Addr} {l c : Nat} (h : Byt w (.slice a l c) []) : l = 0 := by
  obtain ⟨_, _, _, e, hl, _⟩ := h.ints; cases e; simpa using hl.symm
set_option maxRecDepth 100000 in
theorem tick_set : (flatP ((kOp 0).parts nilV nilV nilV nilV)).setIfInBounds 0 (.int .i64 1) = flatP (tickD.parts nilV nilV nilV nilV) := rfl

set_option maxRecDepth 100000 in
set_option maxHeartbeats 4000000 in
theorem lim6_any (a0 : Int) (k N : Nat) (w : World) (w0 : -9223372036854775808 ≤ a0 ∧ a0 ≤ 9223372036854775807) (hk : a0 % 2 = k) (hN : N = 4096 + k) :
    Calls Try.prog 5 #[.int .i64 a0] w fun e w' => e = .returned (.bool true) ∧ Below w.heap.size w w' := by
  have hand := andI1' a0
  rw [hk] at hand
  have hkk : k ≤ 1 := by omega
  have DA := Lib.hid awake6
  obtain ⟨Z, hZ⟩ : ∃ Z, Hid (flatP ((kOp 0).parts nilV nilV nilV nilV) = Z) := ⟨_, rfl⟩
  obtain ⟨T, hT⟩ : ∃ T, Hid (T = flatP (tickD.parts nilV nilV nilV nilV)) := ⟨_, rfl⟩
  have hZ0 : Hid (Z.size = 446) := by show _ = _; rw [← hZ.out]; exact (OpD.size (kOp_ok (k := 0) (by unfold i64R; omega)) _ _ _ _)
  have hT0 : Hid (T.size = 446) := by show _ = _; rw [hT.out]; exact (tick_in w).size
  have hZT : Hid (Z.setIfInBounds 0 (.int .i64 1) = T) := by show _ = _; rw [← hZ.out, hT.out]; exact tick_set
  have hZ1 : Hid (Z[0]? = some (.int .i64 0)) := by show _ = _; rw [← hZ.out]; rfl
  have IO : Hid ((Try.prog.info? 48).map (fun i => (i.zero, i.size, i.bytes)) = some (some (.agg Z), 446, 720)) := by show _ = _; rw [← hZ.out]; exact info_opc
  have HM : Hid (madeCells (Value.agg Z).cells (N * 446) = (rowsL (List.replicate N Z)).toArray) := madeRow hZ0.out (by omega)
  have HM2 : Hid (madeCells (Value.int .u8 0).cells (N * 1) = rowK .u8 (fun _ => 1) N 0) := by
    show _ = _
    rw [Nat.mul_one, ← rowK_zero]
    apply Array.toList_inj.1
    rw [show (Value.int .u8 0).cells = #[Value.int .u8 0] from rfl, toList_madeCells_one]
    simp
  have hNi : (4096 : Int) + (k : Int) = (N : Int) := by omega
  have hN2 : N ≤ 4097 := by omega
  have HN := Lib.hid hN
  obtain ⟨M0, hM0⟩ : ∃ M, (rowsL (List.replicate N Z)).toArray = M := ⟨_, rfl⟩
  obtain ⟨M1, hM1⟩ : ∃ M, rowK .u8 (fun _ => (1 : Int)) N 0 = M := ⟨_, rfl⟩
  rw [hM0] at HM
  rw [hM1] at HM2
  have B1 : Hid (Blk ((w.alloc (.cells M0 48)).alloc (.cells M1 5)) w.heap.size (rowsL (tickRow T Z N 0)).toArray) := ((Blk.new rfl).alloc _).to (by rw [tickRow_zero, hM0])
  have B2 : Hid (Blk ((w.alloc (.cells M0 48)).alloc (.cells M1 5)) (w.heap.size + 1) (rowK .u8 (fun _ => 1) N 0)) := (Blk.new (by simp)).to hM1.symm
  have HB0 := Lib.hid (((Below.refl w.heap.size w).alloc (Nat.le_refl _) (.cells M0 48)).alloc (by simp) (.cells M1 5))
  clear hM0 hM1 hN
  go_enter Try.func5, Try.ntmps5
  go_wp2_with (first
    | ((with_reducible refine at_makeS (.tmp 16) ?_); refine wpList_make_any rfl (.tmp 16) 56 48 (.agg Z) 446 720 rfl Try.underlying56 IO.out .i64 N rfl (by omega) (by omega) ?_; rw [HM.out])
    | ((with_reducible refine at_makeS (.tmp 19) ?_); refine wpList_make_any rfl (.tmp 19) 51 5 (.int .u8 0) 1 1 rfl Try.underlying51 info_u8c .i64 N rfl (by omega) (by omega) ?_; rw [HM2.out]))
  go_loopw [6] (fun i wr => ∃ j : Nat, j ≤ N ∧ i = .int .i64 j ∧ Blk wr w.heap.size (rowsL (tickRow T Z N j)).toArray ∧ Blk wr (w.heap.size + 1) (rowK .u8 (fun _ => 1) N j) ∧ Below w.heap.size w wr) (fun i _ => N - (intOf i).toNat)
  case atStart => exact ⟨0, Nat.zero_le _, rfl, by simpa using B1.out, by simpa using B2.out, by simpa using HB0.out⟩
  case round =>
    obtain ⟨j, hj, rfl, hb1, hb2, hb⟩ := hrel
    by_cases hlt : j < N
    · have k0 := (hb1.cell (j * 446)).trans ((tickRow_at hT0.out hZ0.out (by omega) hlt).trans hZ1.out)
      have k1 := hb1.free
      have k2 := (hb2.cell j).trans (rowK_at hlt)
      rw [if_neg (by omega)] at k2
      have k3 := hb2.free
      have HB1 := Lib.hid hb1
      have HB2 := Lib.hid hb2
      have HB := Lib.hid hb
      clear hb1 hb2 hb
      go_wp2_with fail
      refine ⟨⟨j + 1, hlt, by go_num, ?_, ?_, (HB.out.setCell (Nat.le_refl _) _).setCell (Nat.le_succ _) _⟩, by simp [intOf]; omega⟩
      · exact ((HB1.out.setCell (j := j * 446) (v := .int .i64 1)).to (tickRow_next hT0.out hZ0.out (by omega) hlt hZT.out)).setCell_other (Nat.ne_of_lt (Nat.lt_succ_self _))
      · exact ((HB2.out.setCell_other (Nat.succ_ne_self _)).setCell (j := j) (v := .int .u8 1)).to (rowK_set hlt)
    · obtain rfl : j = N := by omega
      rw [tickRow_all] at hb1
      rw [row_bytes] at hb2
      have hV := ticks_elV hT.out hb1 hN2
      have hY : Byt wr (.slice (some ⟨w.heap.size + 1, 0, none⟩) j j) (List.replicate j 1) := by
        have := Byt.of_blk (cap := j) hb2 (by rw [List.length_replicate]; unfold maxLen; omega) (fun x hx => by rw [List.eq_of_mem_replicate hx]; omega)
        rwa [List.length_replicate] at this
      have hE := enc_any _ _ wr hV (ticks_good hN2)
      unfold EncL at hE
      rw [List.length_replicate, ticks_err, ticks_by] at hE
      obtain ⟨g1, g2⟩ := dops_ticks j (j + 1) 0 (by omega) (by omega) (by omega)
      have eT : dopT (List.replicate j 1) = dops (List.replicate j 1) (j + 1) 0 0 := by unfold dopT; rw [List.length_replicate]
      rw [← eT] at g1 g2
      have hm : min j 4096 = 4096 := by omega
      rw [hm] at g1 g2
      have hD : ∀ u, Below wr.heap.size wr u → Calls Try.prog 12 #[.slice (some ⟨w.heap.size + 1, 0, none⟩) j j] u (DecR u (dopT (List.replicate j 1))) := fun u hu => sdec_any _ _ u (hY.below hu) (by rw [List.length_replicate]; omega)
      have hP : ∀ u, Below wr.heap.size wr u → Calls Try.prog 14 #[.slice (some ⟨w.heap.size + 1, 0, none⟩) j j] u (PreR u (dopT (List.replicate j 1))) := fun u hu => spre_any _ _ u (hY.below hu) (by rw [List.length_replicate]; omega)
      obtain ⟨T, hT9⟩ : ∃ T, dopT (List.replicate j 1) = T := ⟨_, rfl⟩
      rw [hT9] at hD hP g1 g2
      obtain ⟨T1, T2⟩ := T
      simp only at g1 g2
      subst g2
      unfold DecR at hD
      unfold PreR at hP
      have HB := Lib.hid hb
      have HY := Lib.hid (fun u (hu : Below wr.heap.size wr u) => hY.below hu)
      have HG := Lib.hid g1
      obtain ⟨S4, HS4⟩ : ∃ S4, Hid (strOfNums (List.replicate j 1) = S4) := ⟨_, rfl⟩
      obtain rfl | rfl : k = 0 ∨ k = 1 := by omega
      · obtain rfl : j = 4096 := by have := HN.out; omega
        rw [if_neg (by omega)] at hE
        have hD2 : ∀ u, Below wr.heap.size wr u → Calls Try.prog 12 #[.slice (some ⟨w.heap.size + 1, 0, none⟩) 4096 4096] u fun en w' => ∃ v, en = .returned (.tuple #[v, .int .i64 0]) ∧ ElV OpIn 446 w' v T1 ∧ Below u.heap.size u w' := fun u hu => by
          have := hD u hu; simpa using this
        have hP2 : ∀ u, Below wr.heap.size wr u → Calls Try.prog 14 #[.slice (some ⟨w.heap.size + 1, 0, none⟩) 4096 4096] u fun en w' => ∃ v, en = .returned (.tuple #[v, .int .i64 4096]) ∧ ElV OpIn 446 w' v T1 ∧ Below u.heap.size u w' := fun u hu => by
          have := hP u hu; simpa using this
        have DE := Lib.hid hE
        have DD := Lib.hid hD2
        have DP := Lib.hid hP2
        clear hE hD hP hD2 hP2 hb1 hb2 hb hV hY g1 eT hm hT9
        go_wp2_with (first
          | (go_at_call 8; refine (DE.out).mono ?_; rintro e w1 ⟨v1, rfl, hy1, hb1⟩; rw [if_pos rfl] at hy1; obtain ⟨ca, cl, cc, rfl⟩ := hy1.shape; have Y1 := Lib.hid hy1; have HW1 := Lib.hid hb1; clear hy1 hb1)
          | (go_at_call 12; refine (DD.out _ HW1.out).mono ?_; rintro e w2 ⟨v2, rfl, hv2, hb2⟩; obtain ⟨xa, xc, rfl, _⟩ := hv2.shape; have Y2 := Lib.hid (Y1.out.below hb2); have HW2 := Lib.hid (HW1.out.trans (hb2.mono HW1.out.size)); have hg2 := HG.out; rw [hg2]; clear hv2 hb2)
          | (go_at_call 14; refine (DP.out _ HW2.out).mono ?_; rintro e w3 ⟨v3, rfl, hv3, hb3⟩; obtain ⟨ya, yc, rfl, _⟩ := hv3.shape; have Y3 := Lib.hid (Y2.out.below hb3); have HW3 := Lib.hid (HW2.out.trans (hb3.mono HW2.out.size)); have hg3 := HG.out; rw [hg3]; have hc1 : (convert 51 9 (.slice ca cl cc)).run Try.prog w3 = .ok (.string S4) w3 := (by rw [← HS4.out]; exact conv_any Y3.out); have hc2 : (convert 51 9 (.slice (some ⟨w.heap.size + 1, 0, none⟩) 4096 4096)).run Try.prog w3 = .ok (.string S4) w3 := (by rw [← HS4.out]; exact conv_any (HY.out _ HW3.out)); clear hv3 hb3)
          | (go_at_call 7; refine (DA.out _).mono ?_; rintro e u9 ⟨rfl, hb9⟩))
        go_ret
        exact ⟨rfl, HB.out.trans ((HW3.out.trans (hb9.mono HW3.out.size)).mono HB.out.size)⟩
      · obtain rfl : j = 4097 := by have := HN.out; omega
        rw [if_pos (by omega)] at hE
        have hD2 : ∀ u, Below wr.heap.size wr u → Calls Try.prog 12 #[.slice (some ⟨w.heap.size + 1, 0, none⟩) 4097 4097] u fun en w' => ∃ v, en = .returned (.tuple #[v, .int .i64 11]) ∧ ElV OpIn 446 w' v [] ∧ Below u.heap.size u w' := fun u hu => by
          have := hD u hu; simpa using this
        have hP2 : ∀ u, Below wr.heap.size wr u → Calls Try.prog 14 #[.slice (some ⟨w.heap.size + 1, 0, none⟩) 4097 4097] u fun en w' => ∃ v, en = .returned (.tuple #[v, .int .i64 4096]) ∧ ElV OpIn 446 w' v T1 ∧ Below u.heap.size u w' := fun u hu => by
          have := hP u hu; simpa using this
        have DE := Lib.hid hE
        have DD := Lib.hid hD2
        have DP := Lib.hid hP2
        clear hE hD hP hD2 hP2 hb1 hb2 hb hV hY g1 eT hm hT9
        go_wp2_with (first
          | (go_at_call 8; refine (DE.out).mono ?_; rintro e w1 ⟨v1, rfl, hy1, hb1⟩; rw [if_neg (by omega)] at hy1; obtain ⟨ca, cl, cc, rfl⟩ := hy1.shape; have hcl := byt_zero hy1; subst hcl; have HW1 := Lib.hid hb1; clear hy1 hb1)
          | (go_at_call 12; refine (DD.out _ HW1.out).mono ?_; rintro e w2 ⟨v2, rfl, hv2, hb2⟩; obtain ⟨xa, xc, rfl, _⟩ := hv2.shape; simp only [List.length_nil]; have HW2 := Lib.hid (HW1.out.trans (hb2.mono HW1.out.size)); clear hv2 hb2)
          | (go_at_call 14; refine (DP.out _ HW2.out).mono ?_; rintro e w3 ⟨v3, rfl, hv3, hb3⟩; obtain ⟨ya, yc, rfl, _⟩ := hv3.shape; have HW3 := Lib.hid (HW2.out.trans (hb3.mono HW2.out.size)); have hg3 := HG.out; rw [hg3]; clear hv3 hb3)
          | (go_at_call 7; refine (DA.out _).mono ?_; rintro e u9 ⟨rfl, hb9⟩))
        go_ret
        exact ⟨rfl, HB.out.trans ((HW3.out.trans (hb9.mono HW3.out.size)).mono HB.out.size)⟩

theorem walk_ScriptLimits (a0 : Int) (w : World) (w0 : (Lit.int .i64 a0).wf = true) :
    Calls Try.prog 5 #[.int .i64 a0] w fun e w' => e = .returned (.bool true) ∧ Below w.heap.size w w' := by
  have h := wf_i64 w0
  obtain ⟨k, hk⟩ : ∃ k : Nat, a0 % 2 = k := ⟨(a0 % 2).toNat, by omega⟩
  exact lim6_any a0 k (4096 + k) w h hk rfl
end

end Go.Proofs.Ytmnojgdfbhdkhaa
