/- The code's reader of records: newReader, number, list. -/
import Derived.Test.YtgcgjnjbhdhhgaaRcE
set_option linter.unusedVariables false
namespace Go.Proofs.Ytgcgjnjbhdhhgaa
open Go.RowKit
variable {lo : Nat}

/-- A block before the reader's bytes is written: the reader stays. -/
theorem Rdr.upd {w w' : World} {g b : Nat} {rest : List Int} {e : Int} (h : Rdr lo w g rest e) (hU : Upd b w w') (hb : b < lo) (hg : b ≠ g) : Rdr lo w' g rest e := by
  obtain ⟨a, l, c, hB, hY, hF⟩ := h
  refine ⟨a, l, c, hU.blk hB hg.symm, ⟨?_, hY.rng, hY.fits⟩, hF⟩
  obtain ⟨a', l', c', e', hl, hm, hr⟩ := hY.ints
  cases e'
  refine ⟨_, _, _, rfl, hl, hm, ?_⟩
  rcases hr with h0 | ⟨d, off, rfl, hlt, hc⟩
  · exact .inl h0
  · by_cases h0 : l = 0
    · exact .inl h0
    · have hlo := (hF _ rfl (by omega)).1
      have hne : d ≠ b := by simp only at hlo; omega
      refine .inr ⟨d, off, rfl, by rw [hU.size]; exact hlt, fun i hi => ?_⟩
      rw [show w'.cell? ⟨d, off + i, none⟩ = w.cell? ⟨d, off + i, none⟩ by simp only [World.cell?, hU.block d hne]]
      exact hc i hi

theorem take_all2 {w : World} {b : Nat} {vs : List Value} {o : Nat} : Upd b w (w.setCells b o vs) := by
  induction vs generalizing o w with
  | nil => exact ⟨rfl, rfl, rfl, rfl, fun _ _ => rfl⟩
  | cons v r ih =>
    have h3 := ih (w := w.setCell ⟨b, o, none⟩ v) (o := o + 1)
    exact ⟨h3.os, h3.tape, h3.output, by rw [World.setCells, h3.size]; simp [World.setCell], fun k hk => by
      show (World.setCells (w.setCell ⟨b, o, none⟩ v) b (o + 1) r).heap[k]? = _
      rw [h3.block k hk, Below.heap_setCell _ _ _ _ hk]⟩

theorem Rdr.bytes {w : World} {g : Nat} {rest : List Int} {e : Int} (h : Rdr lo w g rest e) : byteL rest := by
  obtain ⟨a, l, c, _, hY, _⟩ := h; exact hY.rng

set_option maxRecDepth 100000 in
set_option maxHeartbeats 2000000 in
theorem nrd_any (v : Value) (bs : List Int) (w : World) (h : Byt w v bs) (hb : bs.length ≤ 20604) :
    Calls Try.prog 42 #[v] w fun e w' => ∃ g, e = .returned (.agg #[.pointer (some ⟨g, 0, none⟩), .int .i64 (bs.length : Nat)]) ∧ Rdr w.heap.size w' g bs 0 ∧ w.heap.size < g ∧ Below w.heap.size w w' := by
  obtain ⟨a, l, c, e, hl, hm, _⟩ := h.ints
  subst e
  have hfits := (h.fits _ _ _ rfl)
  unfold maxLen at hfits
  rw [hl] at hb
  have hmin : min (l : Int) 20604 = (l : Int) := by omega
  have hba := (Below.refl w.heap.size w).alloc (Nat.le_refl _) (.cells #[.pointer none, .int .i64 0] 86)
  have D := newr_any (.slice a l c) bs _ (h.below hba) (by omega)
  have hsz : (w.alloc (.cells #[.pointer none, .int .i64 0] 86)).heap.size = w.heap.size + 1 := by simp
  rw [hsz] at D
  have HSZ := Lib.hid hsz; clear hsz
  have HD := Lib.hid D; clear D
  have HBA := Lib.hid hba; clear hba h hm
  have B0 : Hid (Blk (w.alloc (.cells #[.pointer none, .int .i64 0] 86)) w.heap.size #[.pointer none, .int .i64 0]) := Blk.new rfl
  rw [hl]
  clear hl
  have hb' : (l : Int) ≤ 20604 := by omega
  go_enter Try.func42, Try.ntmps42
  go_wp2_with (go_at_call 79; refine HD.out.mono ?_; rintro e w1 ⟨g, rfl, hr1, hg1, hb1⟩; have HB1 := Lib.hid (B0.out.below hb1 (by omega)); have k0 := HB1.out.cell 0; have k1 := HB1.out.cell 1; have k2 := HB1.out.free; have HR1 := Lib.hid hr1; clear hr1; have HBL := Lib.hid hb1; clear hb1)
  have u1 : Upd w.heap.size w1 (w1.setCells w.heap.size 0 [.pointer (some ⟨g, 0, none⟩), .int .i64 (l : Int)]) := take_all2
  have hB5 := (HB1.out.setCell (j := 0) (v := .pointer (some ⟨g, 0, none⟩))).setCell (j := 1) (v := .int .i64 (l : Int))
  have hB6 : Blk ((w1.setCell ⟨w.heap.size, 0, none⟩ (.pointer (some ⟨g, 0, none⟩))).setCell ⟨w.heap.size, 1, none⟩ (.int .i64 (l : Int))) w.heap.size #[.pointer (some ⟨g, 0, none⟩), .int .i64 (l : Int)] := by simpa using hB5
  refine bodyPost_ret (res_cellR rfl rfl hB6 Try.underlying86 rfl (by kernel_rfl)) rfl ⟨g, rfl, ?_, by omega, ?_⟩
  · obtain ⟨ra, rl, rc, rB, rY, rF⟩ := HR1.out.upd u1 (by omega) (by omega)
    exact ⟨ra, rl, rc, rB, rY, fun x hx h0 => ⟨by have := (rF x hx h0).1; omega, (rF x hx h0).2⟩⟩
  · exact ((HBA.out.trans (HBL.out.mono (by omega))).setCell (Nat.le_refl _) _).setCell (Nat.le_refl _) _

set_option maxRecDepth 100000 in
set_option maxHeartbeats 2000000 in
theorem num_any (g : Nat) (size : Int) (rest : List Int) (e : Int) (w : World) (h : Rdr lo w g rest e) :
    Calls Try.prog 43 #[.agg #[.pointer (some ⟨g, 0, none⟩), .int .i64 size]] w (Reads lo w g (.int .u64 (ruV rest e 18446744073709551615)) (ruR rest e 18446744073709551615) (ruE rest e 18446744073709551615)) := by
  have hba := (Below.refl w.heap.size w).alloc (Nat.le_refl _) (.cells #[.pointer (some ⟨g, 0, none⟩), .int .i64 size] 86)
  have D := Lib.hid (uint_any g rest e 18446744073709551615 _ (h.below hba) (by omega) (by omega))
  have HBA := Lib.hid hba; clear hba h
  obtain ⟨n, hn⟩ : ∃ n, ruV rest e 18446744073709551615 = n := ⟨_, rfl⟩
  rw [hn] at D ⊢
  clear hn
  go_enter Try.func43, Try.ntmps43
  go_wp2_with (go_at_call 66; refine D.out.mono ?_; rintro en w1 ⟨rfl, hr1, hg1⟩; have HR1 := Lib.hid hr1; clear hr1; have HG1 := Lib.hid hg1; clear hg1)
  go_ret
  exact ⟨rfl, HR1.out, (grownBy_of_below HBA.out).trans HG1.out⟩

/-! ### A row that is made and filled -/
/-- make([]T, n) of integers. -/
theorem wpList_make_ints {ops : Array Oper} {rest : List Oper} {o : Oper} {a : Act} {w : World} {Q : Exit → Act → World → Prop} (hg : o.guard = none) (l : Operand) (t e : TypeId) (k : IntKind) (hop : o.op = Op.makeSlice t l l)
    (hu : Try.prog.underlying t = some (.slice e)) (hi : (Try.prog.info? e).map (fun i => (i.zero, i.size, i.bytes)) = some (some (.int k 0), 1, 8)) (kl : IntKind) (n : Nat) (hl : a.eval l = .int kl (n : Int)) (hn : n ≤ 1000000)
    (hK : ∀ w', Below w.heap.size w w' → w'.heap.size = w.heap.size + 1 → Blk w' w.heap.size (Array.replicate n (.int k 0)) → wpList Try.prog ops Q rest (a.put o.dst (.slice (some ⟨w.heap.size, 0, none⟩) n n)) w') : wpList Try.prog ops Q (o :: rest) a w := by
  obtain ⟨i0, hi0, hz0, hz1, hz2⟩ := info_parts hi
  refine wpList_plain hg fun _ hK' => ?_
  have hr := run_make (P := Try.prog) w t e i0 (.int k 0) hu hi0 hz0 kl kl n n (by omega) (by omega) (by rw [hz2]; omega) (by omega)
  simp only [Int.toNat_natCast, hz1, Nat.mul_one] at hr
  have hm : madeCells (Value.int k 0).cells n = Array.replicate n (.int k 0) := by
    apply Array.toList_inj.1
    rw [show (Value.int k 0).cells = #[Value.int k 0] from rfl, toList_madeCells_one]
    simp
  rw [hm] at hr
  unfold Oper.wp
  simp only [execOp, hop, hl, Sem.run_bind, hr, Result.andThen, Sem.run_pure]
  exact hK' _ _ (hK _ ((Below.refl _ w).alloc (Nat.le_refl _) _) (by simp) (Blk.new rfl))

theorem at_makeS {P : Program} {ops : Array Oper} {Q : Exit → Act → World → Prop} {dst : Option Tmp} {t ty' : TypeId} (x : Operand) {y : Operand} {pos : String} {aft : Array Edge} {g : Option (Nat × Bool)} {rest : List Oper} {a : Act} {w : World}
    (h : wpList P ops Q (⟨dst, .makeSlice t x y, ty', pos, aft, g⟩ :: rest) a w) : wpList P ops Q (⟨dst, .makeSlice t x y, ty', pos, aft, g⟩ :: rest) a w := h

/-- A row of n numbers, of which the first k have been written. -/
def rowK (kd : IntKind) (f : Nat → Int) (n k : Nat) : Array Value := ((List.range n).map fun i => if i < k then Value.int kd (f i) else .int kd 0).toArray
theorem rowK_zero (kd : IntKind) (f : Nat → Int) (n : Nat) : Array.replicate n (Value.int kd 0) = rowK kd f n 0 := by
  apply Array.ext_getElem?
  intro i
  simp only [rowK, Nat.not_lt_zero, if_false]
  by_cases hi : i < n
  · simp [hi]
  · rw [Array.getElem?_eq_none (by simp; omega), Array.getElem?_eq_none (by simp; omega)]
theorem rowK_at {kd : IntKind} {f : Nat → Int} {n k i : Nat} (hi : i < n) : (rowK kd f n k)[i]? = some (if i < k then .int kd (f i) else .int kd 0) := by
  simp [rowK, hi]
theorem rowK_set {kd : IntKind} {f : Nat → Int} {n k : Nat} (hk : k < n) : (rowK kd f n k).setIfInBounds k (.int kd (f k)) = rowK kd f n (k + 1) := by
  apply Array.ext_getElem?
  intro i
  rw [Array.getElem?_setIfInBounds]
  by_cases hik : k = i
  · subst hik
    rw [if_pos rfl, if_pos (by simp [rowK]; exact hk), rowK_at hk, if_pos (by omega)]
  · rw [if_neg hik]
    by_cases hi : i < n
    · rw [rowK_at hi, rowK_at hi]
      by_cases h1 : i < k
      · rw [if_pos h1, if_pos (by omega)]
      · rw [if_neg h1, if_neg (by omega)]
    · rw [Array.getElem?_eq_none (by simp [rowK]; omega), Array.getElem?_eq_none (by simp [rowK]; omega)]
theorem rowK_ints {kd : IntKind} {f : Nat → Int} {n b c : Nat} {w : World} (h : Blk w b (rowK kd f n n)) (hn : n ≤ maxLen) : Ints kd w (.slice (some ⟨b, 0, none⟩) n c) ((List.range n).map f) := by
  refine ⟨_, _, _, rfl, by simp, hn, .inr ⟨b, 0, rfl, h.lt, fun i hi => ?_⟩⟩
  rw [Nat.zero_add, h.cell, rowK_at hi, if_pos hi]
  simp [List.getD, hi]

/-- What a method promises that reads a list. -/
def RdL (lo : Nat) (k : IntKind) (w : World) (g : Nat) (l : List Int) (s : RS) (en : Ending) (w' : World) : Prop :=
  ∃ v', en = .returned v' ∧ Ints k w' v' l ∧ (∀ x a b, v' = .slice (some x) a b → w.heap.size ≤ x.block) ∧ Rdr lo w' g s.r s.e ∧ w.grownBy w' (some g)

def lstE (v : Nat → Int) (k : Nat) : Int := if k = 0 then 0 else elK v (k - 1) + 1
theorem elK_lst (v : Nat → Int) : ∀ k, elK v k = lstE v k + v k
  | 0 => by simp [elK, lstE]
  | k + 1 => by rw [elK, lstE, if_neg (by omega)]; simp
theorem lstE_next (v : Nat → Int) (k : Nat) : lstE v (k + 1) = elK v k + 1 := by rw [lstE, if_neg (by omega)]; simp

/-- What stands at the loop's head of list. -/
def RI (lo : Nat) (w : World) (g b bx n : Nat) (P : Value) (size : Int) (s1 : RS) (m i : Value) (wr : World) : Prop :=
  ∃ k : Nat, k ≤ n ∧ i = .int .i64 k ∧ m = .int .i64 (lstE (fun i => vU 1024 (stK 1024 s1 i)) k) ∧ Blk wr b (rowK .i64 (elK fun i => vU 1024 (stK 1024 s1 i)) n k) ∧ Rdr lo wr g (stK 1024 s1 k).r (stK 1024 s1 k).e ∧
    Blk wr bx #[P, .int .i64 size] ∧ w.grownBy wr (some g)

theorem grownBy_keep {w w1 w2 : World} {g b : Nat} (h1 : w.grownBy w1 (some g)) (h2 : Upd b w1 w2) (hb : w.heap.size ≤ b) : w.grownBy w2 (some g) :=
  ⟨h2.os.trans h1.os, h2.tape.trans h1.tape, h2.output.trans h1.output, by rw [h2.size]; exact h1.size, fun k hk hne => (h2.block k (by omega)).trans (h1.block k hk hne)⟩

/-- A block on or above the reader is written: the reader stays. -/
theorem Rdr.updHi {w w' : World} {g b : Nat} {rest : List Int} {e : Int} (h : Rdr lo w g rest e) (hU : Upd b w w') (hg : g < b) : Rdr lo w' g rest e :=
  h.belowN (N := b) (hU.below (Below.refl b w) (Nat.le_refl _)) hg

theorem upd_set {w : World} {b j : Nat} {v : Value} : Upd b w (w.setCell ⟨b, j, none⟩ v) := take_all2 (vs := [v]) (o := j)

set_option maxRecDepth 100000 in
set_option maxHeartbeats 4000000 in
theorem rlist_any (g : Nat) (size : Int) (s : RS) (w : World) (h : Rdr lo w g s.r s.e) :
    Calls Try.prog 57 #[.agg #[.pointer (some ⟨g, 0, none⟩), .int .i64 size]] w (RdL lo .i64 w g (lsV s) (lsN s)) := by
  have hg := h.lt
  have hby := h.bytes
  have hba := (Below.refl w.heap.size w).alloc (Nat.le_refl _) (.cells #[.pointer (some ⟨g, 0, none⟩), .int .i64 size] 86)
  have B0 : Hid (Blk (w.alloc (.cells #[.pointer (some ⟨g, 0, none⟩), .int .i64 size] 86)) w.heap.size #[.pointer (some ⟨g, 0, none⟩), .int .i64 size]) := Blk.new rfl
  have D := uint_any g s.r s.e 1024 _ (h.below hba) (by omega) (by omega)
  have HBA := Lib.hid hba; clear hba h
  have hn := vU_rng (m := 1024) hby (by omega)
  obtain ⟨n, hnn⟩ : ∃ n : Nat, Hid ((vU 1024 s).toNat = n) := ⟨_, rfl⟩
  have hn1 : n ≤ 1024 := by rw [← hnn.out]; omega
  have e1 : ruV s.r s.e 1024 = (n : Int) := by rw [← hnn.out, Int.toNat_of_nonneg hn.1]; rfl
  rw [e1] at D
  have HD := Lib.hid D; clear D e1 hn
  have HV : Hid (lsV s = (List.range n).map (elK fun i => vU 1024 (stK 1024 (nU 1024 s) i))) := by show _ = _; unfold lsV; rw [hnn.out]
  have HN : Hid (lsN s = stK 1024 (nU 1024 s) n) := by show _ = _; unfold lsN; rw [hnn.out]
  have HBY := Lib.hid (nU_byte (m := 1024) hby); clear hby
  have es : (⟨ruR s.r s.e 1024, ruE s.r s.e 1024⟩ : RS) = nU 1024 s := rfl
  obtain ⟨s1, hs1⟩ : ∃ s1, nU 1024 s = s1 := ⟨_, rfl⟩
  rw [hs1] at HV HN HBY es
  have er : ruR s.r s.e 1024 = s1.r := congrArg RS.r es
  have ee : ruE s.r s.e 1024 = s1.e := congrArg RS.e es
  rw [er, ee] at HD
  clear er ee es hs1
  rw [HV.out, HN.out]
  clear hnn HV HN
  have hw1 : Hid (w.heap.size + 1 = (w.alloc (.cells #[.pointer (some ⟨g, 0, none⟩), .int .i64 size] 86)).heap.size) := by show _ = _; simp
  go_enter Try.func57, Try.ntmps57
  go_wp2_with (first
    | (go_at_call 66; refine HD.out.mono ?_; rintro en w1 ⟨rfl, hr1, hg1⟩; have HR1 := Lib.hid hr1; clear hr1; have HB1 := Lib.hid (B0.out.grown hg1 (by simp; omega)); have HS1 := Lib.hid (Nat.le_trans (Nat.le_of_eq hw1.out) hg1.size); have HG1 := Lib.hid ((grownBy_of_below HBA.out).trans hg1); clear hg1)
    | ((with_reducible refine at_makeS (.tmp 8) ?_); refine wpList_make_ints rfl (.tmp 8) 22 3 .i64 rfl Try.underlying22 (by kernel_rfl) .u64 n rfl (by omega) ?_; intro w2 hb2 hz2 hk2; have HR2 := Lib.hid (HR1.out.below hb2); have HB2 := Lib.hid (HB1.out.call hb2); have HG2 := Lib.hid (HG1.out.trans (grownBy_of_below (row := some g) hb2)); have HK2 := Lib.hid hk2; clear hk2 hb2; have HZ2 := Lib.hid hz2; clear hz2))
  go_loopw [4, 12] (fun m i wr => RI lo w g w1.heap.size w.heap.size n (.pointer (some ⟨g, 0, none⟩)) size s1 m i wr) (fun _ i _ => n - (intOf i).toNat)
  case atStart => exact ⟨0, Nat.zero_le _, rfl, rfl, HK2.out.to (rowK_zero _ _ _), HR2.out, HB2.out, HG2.out⟩
  case round =>
    obtain ⟨k, hk, rfl, rfl, hrow, hrd, hbx, hgr⟩ := hrel
    have hs1 := HS1.out
    have hel := elK_rng (v := fun i => vU 1024 (stK 1024 s1 i)) (m := 1024) (fun i => vU_rng (stK_byte HBY.out i) (by omega)) (by omega)
    by_cases hlt : k < n
    · have hx := vU_rng (m := 1024) (stK_byte (m := 1024) HBY.out k) (by omega)
      have E1 : elK (fun i => vU 1024 (stK 1024 s1 i)) k = lstE (fun i => vU 1024 (stK 1024 s1 i)) k + vU 1024 (stK 1024 s1 k) := elK_lst _ k
      have E2 := Lib.hid (lstE_next (fun i => vU 1024 (stK 1024 s1 i)) k)
      have hek := hel k
      have D := uint_any g (stK 1024 s1 k).r (stK 1024 s1 k).e 1024 wr hrd (by omega) (by omega)
      have hset := rowK_set (kd := .i64) (f := elK fun i => vU 1024 (stK 1024 s1 i)) hlt
      have es : nU 1024 (stK 1024 s1 k) = stK 1024 s1 (k + 1) := rfl
      change Calls _ _ _ _ (Reads lo wr g (.int .u64 (vU 1024 (stK 1024 s1 k))) (nU 1024 (stK 1024 s1 k)).r (nU 1024 (stK 1024 s1 k)).e) at D
      rw [es] at D
      clear es
      rw [E1] at hset hek
      have E3 : lstE (fun i => vU 1024 (stK 1024 s1 i)) (k + 1) = lstE (fun i => vU 1024 (stK 1024 s1 i)) k + vU 1024 (stK 1024 s1 k) + 1 := by rw [E2.out, E1]
      have hexp : (1024 + 1) * ((k : Int) + 1) ≤ 1100000 := by omega
      have hy0 : 0 ≤ lstE (fun i => vU 1024 (stK 1024 s1 i)) k := by
        unfold lstE; split
        · omega
        · have := (hel (k - 1)).1; omega
      clear E1 E2
      obtain ⟨x, HX⟩ : ∃ x, Hid (vU 1024 (stK 1024 s1 k) = x) := ⟨_, rfl⟩
      obtain ⟨y, HY⟩ : ∃ y, Hid (lstE (fun i => vU 1024 (stK 1024 s1 i)) k = y) := ⟨_, rfl⟩
      rw [HX.out] at hset hek E3 hx D
      rw [HY.out] at hset hek E3 hy0
      rw [HY.out]
      have hyx1 : y + x ≤ 1100000 := by omega
      have HSET := Lib.hid hset; clear hset
      have HE3 := Lib.hid E3; clear E3
      clear hel hexp hek
      have HD1 := Lib.hid D; clear D
      have k0 := hbx.cell 0
      have k1 := hbx.free
      have HROW := Lib.hid hrow; clear hrow
      have HBX := Lib.hid hbx; clear hbx
      have HGR := Lib.hid hgr; clear hgr
      have hnb : w1.heap.size ≠ g := by omega
      have hnx : w.heap.size ≠ g := by omega
      have HCELL : Hid ((rowK IntKind.i64 (elK fun i => vU 1024 (stK 1024 s1 i)) n k)[k]? = some (.int .i64 0)) := by show _ = _; rw [rowK_at hlt, if_neg (by omega)]
      have HCELL2 : Hid ((rowK IntKind.i64 (elK fun i => vU 1024 (stK 1024 s1 i)) n (k + 1))[k]? = some (.int .i64 (y + x))) := by show _ = _; rw [← HSET.out]; rw [Array.getElem?_setIfInBounds, if_pos rfl, if_pos (by simp [rowK]; exact hlt)]
      go_wp2_with (go_at_call 66; refine HD1.out.mono ?_; rintro en w4 ⟨rfl, hr4, hg4⟩; have HR4 := Lib.hid hr4; clear hr4; have HROW4 := Lib.hid (HROW.out.grown hg4 (by simpa using hnb)); have HBX4 := Lib.hid (HBX.out.grown hg4 (by simpa using hnx)); have HG4 := Lib.hid (HGR.out.trans hg4); clear hg4; have j0 := HBX4.out.cell 0; have c0 := (HROW4.out.cell k).trans HCELL.out; have c1 := HROW4.out.free)
      have hrow5 := HROW4.out.setCell (j := k) (v := .int .i64 (y + x))
      rw [HSET.out] at hrow5
      refine ⟨⟨k + 1, by omega, by go_num, by rw [HE3.out], hrow5, HR4.out.updHi upd_set (by omega), HBX4.out.setCell_other (by omega), grownBy_keep HG4.out upd_set (by omega)⟩, by simp [intOf]; omega⟩
    · obtain rfl : k = n := by omega
      go_wp2_with fail
      go_ret
      exact ⟨_, rfl, rowK_ints hrow (by unfold maxLen; omega), fun x a b e => by cases e; simp only; omega, hrd, hgr⟩

end Go.Proofs.Ytgcgjnjbhdhhgaa
