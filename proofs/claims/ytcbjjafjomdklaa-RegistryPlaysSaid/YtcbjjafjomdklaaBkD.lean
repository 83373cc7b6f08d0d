/- slices.Clone of balances; Register. -/
import Derived.Test.YtcbjjafjomdklaaBkC
import Derived.Test.YtcbjjafjomdklaaShelf
set_option linter.unusedVariables false

set_option linter.unusedSimpArgs false
namespace Go.Proofs.Ytcbjjafjomdklaa
open Go.RowKit Go.Maps

set_option maxRecDepth 100000

theorem Ints.at0 {k : IntKind} {w : World} {v : Value} {xs : List Int} (h : Ints k w v xs) {z : Addr} {l c : Nat} (e : v = .slice (some z) l c) (h0 : 0 < l) : (w.cell? z).isSome = true := by
  obtain ⟨a, n, cap, rfl, hl, hm, hr⟩ := h
  cases e
  rcases hr with rfl | ⟨b, off, e, hb, hc⟩
  · omega
  · cases e
    have := hc 0 h0
    rw [Nat.add_zero] at this
    rw [this]; rfl

theorem MapIs.noCell {w : World} {mb : Nat} {L : Ents} (h : MapIs w mb L) {z : Addr} (e : z.block = mb) : w.cell? z = none := by
  obtain ⟨es, clock, hb⟩ := h.obj
  simp [World.cell?, e, hb]

theorem MapIs.offMap {w : World} {mb : Nat} {L : Ents} (h : MapIs w mb L) {k : IntKind} {v : Value} {xs : List Int} (hv : Ints k w v xs) : Off mb v := fun z l c e h0 eb => by
  have := hv.at0 e h0
  rw [h.noCell eb] at this; cases this

theorem NumsV.keptMap {w w' : World} {mb : Nat} {L : Ents} {v : Value} {l : List Int} (h : NumsV w v l) (hm : MapIs w mb L) (hg : w.grownBy w' (some mb)) : NumsV w' v l :=
  ⟨h.1.grownOff hg fun g e => by cases e; exact hm.offMap h.1, h.2⟩

theorem Blk.keptMap {w w' : World} {mb b : Nat} {L : Ents} {cs : Array Value} (h : Blk w b cs) (hm : MapIs w mb L) (hg : w.grownBy w' (some mb)) : Blk w' b cs := by
  have hne : some b ≠ some mb := fun e => by
    cases e
    obtain ⟨es, clock, hb⟩ := hm.obj
    obtain ⟨t, h⟩ := h
    rw [h] at hb; cases hb
  have := h.lt
  obtain ⟨t, h⟩ := h
  exact ⟨t, by rw [hg.block b this hne]; exact h⟩

theorem MapIs.neBlk {w : World} {mb b : Nat} {L : Ents} {cs : Array Value} (hm : MapIs w mb L) (h : Blk w b cs) : b ≠ mb := fun e => by
  subst e
  obtain ⟨es, clock, hb⟩ := hm.obj
  obtain ⟨t, h⟩ := h
  rw [h] at hb; cases hb

theorem info_u64 : (Try.prog.info? 22).map (fun i => (i.zero, i.size, i.bytes)) = some (some (.int .u64 0), 1, 8) := by kernel_rfl

theorem oneN (l : List Int) : ∀ u ∈ l.map (Value.int .u64), u.oneCell' = true := by
  intro u hu
  obtain ⟨x, _, rfl⟩ := List.mem_map.1 hu
  rfl

/-- The row of this slice may be written. -/
def Free (w : World) (v : Value) : Prop := ∀ z l c, v = .slice (some z) l c → 0 < l → ∃ cur e, w.heap[z.block]? = some (.cells cur e (0, 0))

theorem Free.grown {w w' : World} {v : Value} {row : Option Nat} (h : Free w v) (hg : w.grownBy w' row) (ho : ∀ g, row = some g → Off g v) : Free w' v := fun z l c e h0 => by
  obtain ⟨cur, t, hb⟩ := h z l c e h0
  exact ⟨cur, t, by rw [hg.block _ (Array.getElem?_eq_some_iff.1 hb).1 (fun e' => ho _ e'.symm z l c e h0 rfl)]; exact hb⟩

theorem own_free {w : World} {base e sz n : Nat} {v : Value} {xs : List Value} (h : w.ownsRow base e sz v n xs) : Free w v := fun z l c e h0 => by
  rcases h.2 with ⟨rfl, _⟩ | ⟨g, cap, cur, rfl, hb, hg, _⟩
  · cases e
  · cases e; exact ⟨_, _, hg⟩

theorem own_new {w : World} {base e sz n : Nat} {v : Value} {xs : List Value} (h : w.ownsRow base e sz v n xs) : New base v := fun z l c e h0 => by
  rcases h.2 with ⟨rfl, _⟩ | ⟨g, cap, cur, rfl, hb, _⟩
  · cases e
  · cases e; exact hb

set_option maxHeartbeats 1000000 in
theorem cloneN_zero (a : Addr) (c : Nat) (w : World) :
    Calls Try.prog 32 #[.slice (some a) 0 c] w fun e w' => ∃ v', e = .returned v' ∧ NumsV w' v' [] ∧ New w.heap.size v' ∧ Free w' v' ∧ Below w.heap.size w w' := by
  obtain ⟨i0, hi, hz0, hz1, hz2⟩ := info_parts info_u64
  have q22 : ∀ (w : World) (a : Option Addr) (n c n' c' : Nat), (binOp .eql 29 (.slice a n c) (.slice none n' c')).run Try.prog w = .ok (.bool a.isNone) w := fun w a n c n' c' => Lib.run_eql_slice_nil w _ _ a n c n' c' Try.underlying29
  go_enter Try.func32, Try.ntmps32
  go_wp2_with (at_builtin; refine wpList_append_own _ rfl _ _ 29 rfl w.heap.size 22 i0 (.int .u64 0) 1 8 Try.underlying29 hi hz0 hz1 hz2 rfl (by decide) _ _ _ rfl (World.ownsRow_made w #[] 0 (Nat.le_refl _) (Nat.zero_le _) rfl) a 0 c [] rfl rfl (by intro j u hj; simp at hj) (by intro u hu; cases hu) (by unfold maxLen; omega) (by omega) (by simp) ?_)
  intro v' w1 hown hgrow hnil
  go_wp2
  go_ret
  exact ⟨_, rfl, ⟨Ints.own (by simpa using hown) (Nat.zero_le _), by simp⟩, own_new hown, own_free hown, ((Below.refl _ w).alloc (Nat.le_refl _) _).grown hgrow (by simp) (by intro k hk; simp [Value.ownBlock] at hk; omega)⟩

/-- slices.Clone of balances: a row of its own. -/
theorem cloneN (v : Value) (l : List Int) (w : World) (h : NumsV w v l) (hl : l.length ≤ 1000000000) :
    Calls Try.prog 32 #[v] w fun e w' => ∃ v', e = .returned v' ∧ NumsV w' v' l ∧ New w.heap.size v' ∧ Free w' v' ∧ Below w.heap.size w w' := by
  obtain ⟨⟨a, n, k, rfl, hn, hm, hr⟩, hg⟩ := h
  cases a with
  | none =>
    rcases hr with rfl | ⟨b, off, e, _⟩
    · obtain rfl := List.eq_nil_of_length_eq_zero hn
      refine (Try.slices_Clone_nil 0 k w).mono ?_
      rintro e w' ⟨rfl, rfl⟩
      exact ⟨_, rfl, nums_nil _, New.nil _, (fun z l c e => by cases e), Below.refl _ _⟩
    · cases e
  | some a =>
    by_cases h0 : n = 0
    · subst h0
      obtain rfl := List.eq_nil_of_length_eq_zero hn
      exact cloneN_zero a k w
    · rcases hr with h1 | ⟨b, off, e, hb, hc⟩
      · exact absurd h1 h0
      · cases e
        obtain ⟨i0, hi, hz0, hz1, hz2⟩ := info_parts info_u64
        refine (Try.slices_Clone i0 (.int .u64 0) 1 8 hi hz0 hz1 hz2 rfl (by decide) Try.sizeOf22 b off n k (l.map (Value.int .u64)) w (by simp [hn]) hm (by omega) (fun j u hj => ?_) (oneN l)).mono ?_
        · have hjl : j < l.length := by simpa using (List.getElem?_eq_some_iff.1 hj).1
          rw [hc j (by omega)]
          rw [List.getElem?_map, List.getElem?_eq_getElem hjl] at hj
          simp only [Option.map_some, Option.some.injEq] at hj
          rw [← hj]; simp [List.getD, List.getElem?_eq_getElem hjl]
        · rintro e w' ⟨v', rfl, hown, _, hbl⟩
          exact ⟨v', rfl, ⟨Ints.own hown hm, hg⟩, own_new hown, own_free hown, hbl⟩

/-- The error of Register. -/
def regE (n lim : Int) (E : List TeD) (c : CpD) (l : List Int) : Int :=
  if vtE n l ≠ 0 then vtE n l else if (tget E c).isSome then 9 else if lim ≤ (E.length : Int) then 11 else 0

theorem vtE_zero {n : Int} {l : List Int} (h : vtE n l = 0) : (l.length : Int) = n ∧ l.sum ≤ 4611686018427387904 := by
  unfold vtE at h
  split at h
  · cases h
  · split at h
    · cases h
    · rename_i h1 h2; exact ⟨by simpa using h1, by omega⟩

/-- What a call of Register leaves. -/
def RegR (b mb : Nat) (n lim : Int) (E : List TeD) (c : CpD) (l : List Int) (w : World) (e : Ending) (w' : World) : Prop :=
  e = .returned (.int .i64 (regE n lim E c l)) ∧ w.grownBy w' (some mb) ∧ (regE n lim E c l ≠ 0 → BookIs w' b mb n lim E) ∧ (regE n lim E c l = 0 → ∃ v', New w.heap.size v' ∧ BookIs w' b mb n lim (⟨c, v', l⟩ :: E))

theorem reg_no {b mb : Nat} {n lim : Int} {E : List TeD} {c : CpD} {l : List Int} {w w' : World} {x : Int} (hB : BookIs w b mb n lim E) (hx : regE n lim E c l = x) (h0 : x ≠ 0) (hb : Below w.heap.size w w') :
    RegR b mb n lim E c l w (.returned (.int .i64 x)) w' := ⟨by rw [hx], (below_grown hb).but _, fun _ => hB.call hb, fun h => absurd (hx ▸ h) h0⟩

/-- A store into a map, carried out. -/
theorem wp_mapPut {P : Program} {o : Oper} {a : Act} {w w' : World} {K : Act → World → Prop} {Q : Exit → Act → World → Prop} (t : TypeId) (m x v : Operand) (ho : o.op = .mapUpdate t m x v) (mv xv vv : Value) (hm : a.eval m = mv) (hx : a.eval x = xv) (hv : a.eval v = vv)
    (hr : (Instr.mapUpdate t mv xv vv).run P w = .ok () w') (h : K (a.put o.dst undef) w') : o.wp P a w K Q := by
  unfold Oper.wp execOp
  simp only [ho, hm, hx, hv, Sem.run_bind, Sem.run_pure, Result.andThen_ok, hr]
  exact h

set_option maxHeartbeats 8000000 in
theorem reg_any (b mb : Nat) (n lim : Int) (E : List TeD) (c : CpD) (v : Value) (l : List Int) (w : World) (hB : BookIs w b mb n lim E) (hc : c.ok) (hI : NumsV w v l) (hn : n ≤ 1024) (hlim : lim ≤ 64) :
    Calls Try.prog 17 #[.pointer (some ⟨b, 0, none⟩), .agg (flatP [c.cells, [v]])] w (RegR b mb n lim E c l w) := by
  have HO := Lib.hid (tabOff hc v)
  have HB := Lib.hid hB
  have HI := Lib.hid hI
  have HVT := Lib.hid (fun u (hu : NumsV u v l) => vtab_any c v l n u hc hu)
  have HK := Lib.hid (fun u (hu : BookIs u b mb n lim E) => known_any b mb n lim E c u hu hc)
  obtain ⟨X, HX⟩ : ∃ X, Hid (flatP [c.cells, [v]] = X) := ⟨_, rfl⟩
  rw [HX.out] at HVT ⊢
  have hX : X.size = 34 := by rw [← HX.out]; exact HO.out.2.2
  have hi : (Try.prog.info? 36).map (·.size) = some X.size := by rw [hX]; kernel_rfl
  have HBA := Lib.hid ((Below.refl w.heap.size w).alloc (Nat.le_refl _) (.cells X 36))
  have HBX : Hid (Blk (w.alloc (.cells X 36)) w.heap.size X) := Blk.new rfl
  have HI3 : Hid ((Try.prog.info? 34).map (·.size) = some c.cells.length) := by show _ = _; rw [CpD.len hc]; kernel_rfl
  have HNE := Lib.hid (And.intro hB.blk.lt hB.map.lt)
  obtain ⟨ve, hve⟩ : ∃ ve, vtE n l = ve := ⟨_, rfl⟩
  rw [hve] at HVT
  have HVE := Lib.hid hve
  have HC := Lib.hid hc
  clear hB hc hI hve
  go_enter Try.func17, Try.ntmps17
  go_wp2_with fail
  refine wp_region_fam2 (by kernel_rfl) (by kernel_rfl) ?_
  intro T F hT hF hG
  have c0 : ∀ t, (F t).cell? ⟨b, 0, none⟩ = some (.int .i64 n) := fun t => (HB.out.call (bel0 HBA.out (hF t))).blk.cell 0
  have CX := Lib.hid (show ∀ u, (∃ t, u = F t) → Blk u w.heap.size X by rintro _ ⟨t, rfl⟩; exact HBX.out.call (hF t))
  have CV := Lib.hid (fun t => HVT.out (F t) (HI.out.below (bel0 HBA.out (hF t))))
  repeat (first
    | ((with_reducible refine at_qload (.tmp 3) ?_); refine wpQuiet_load 36 _ rfl w.heap.size rfl X CX.out Try.underlying36 rfl hi (by kernel_rfl) ?_; simp only [Act.put, List.setIfInBounds_toArray, List.set_cons_succ, List.set_cons_zero])
    | (go_big_quiet_step ((go_at_call 30; exact fam_call hF hG (Nat.le_refl _) (CV.out _)))))
  refine wpQuiet_nil ?_
  rintro _ ⟨t, rfl⟩
  have HBX1 := Lib.hid (HBX.out.call (hF t))
  have HF := Lib.hid (bel0 HBA.out (hF t))
  clear c0 CX CV hG HBX
  obtain ⟨u, hu⟩ : ∃ u, F t = u := ⟨_, rfl⟩
  rw [hu] at HF HBX1
  rw [hu]
  clear hu hF hT
  clear t F T
  by_cases h0 : ve = 0
  case neg =>
    have hq : (ve != 0) = true := by simpa using h0
    have HR : Hid (regE n lim E c l = ve) := by show _ = _; unfold regE; rw [HVE.out, if_pos h0]
    clear HVE HK HVT HO HX
    go_wp2_with fail
    go_ret
    exact reg_no HB.out HR.out h0 HF.out
  subst h0
  have HBX2 : Hid (Blk u w.heap.size (flatP [c.cells, [v]])) := by show Blk _ _ _; rw [HX.out]; exact HBX1.out
  have HKu := Lib.hid (HK.out u (HB.out.call HF.out))
  unfold cpX at HKu
  obtain ⟨kn, hkn⟩ : ∃ kn, (tget E c).isSome = kn := ⟨_, rfl⟩
  rw [hkn] at HKu
  have HKN := Lib.hid hkn
  clear hkn HK HVT
  obtain ⟨C, HCe⟩ : ∃ C, Hid (c.cells = C) := ⟨_, rfl⟩
  rw [HCe.out] at HKu HI3 HBX2 HO
  cases kn
  case true =>
    have HR : Hid (regE n lim E c l = 9) := by show _ = _; unfold regE; rw [HVE.out, HKN.out]; rfl
    go_wp2_with (first
      | ((with_reducible refine at_load (.tmp 16) ?_); refine wpList_load_part 34 (.tmp 16) rfl w.heap.size _ 0 0 C HBX2.out rfl HO.out.1 rfl _ Try.underlying34 rfl HI3.out rfl ?_)
      | (go_at_call 31; refine HKu.out.mono ?_; rintro e w1 ⟨rfl, hb1⟩; have HB1 := Lib.hid (HF.out.trans (hb1.mono HF.out.size)); clear hb1))
    go_ret
    exact reg_no HB.out HR.out (by decide) HB1.out
  case false =>
    go_wp2_with (first
      | ((with_reducible refine at_load (.tmp 16) ?_); refine wpList_load_part 34 (.tmp 16) rfl w.heap.size _ 0 0 C HBX2.out rfl HO.out.1 rfl _ Try.underlying34 rfl HI3.out rfl ?_)
      | (go_at_call 31; refine HKu.out.mono ?_; rintro e w1 ⟨rfl, hb1⟩; have HBX3 := Lib.hid (HBX2.out.call hb1); have HB1 := Lib.hid (HF.out.trans (hb1.mono HF.out.size)); clear hb1))
    have HBu := Lib.hid (HB.out.call HB1.out)
    refine wp_region_fam2 (by kernel_rfl) (by kernel_rfl) ?_
    intro T F hT hF hG
    have CB : ∀ u, (∃ t, u = F t) → BookIs u b mb n lim E := by rintro _ ⟨t, rfl⟩; exact HBu.out.call (hF t)
    have c1 : ∀ t, (F t).cell? ⟨b, 1, none⟩ = some (.int .i64 lim) := fun t => (CB _ ⟨t, rfl⟩).blk.cell 1
    have c2 : ∀ t, (F t).cell? ⟨b, 2, none⟩ = some (.map (some mb)) := fun t => (CB _ ⟨t, rfl⟩).blk.cell 2
    have CL := Lib.hid (fun u hu => (CB u hu).map.len Try.underlying88 3)
    simp only [List.length_map] at CL
    clear CB
    obtain ⟨m, hm⟩ : ∃ m, E.length = m := ⟨_, rfl⟩
    rw [hm] at CL
    repeat (first
      | ((with_reducible refine at_qlen _ ?_); refine wpQuiet_len _ _ rfl _ _ rfl CL.out (by kernel_rfl) ?_; simp only [Act.put, List.setIfInBounds_toArray, List.set_cons_succ, List.set_cons_zero])
      | (go_big_quiet_step (fail)))
    refine wpQuiet_nil ?_
    rintro _ ⟨t, rfl⟩
    have HF2 := Lib.hid (HB1.out.trans ((hF t).mono HB1.out.size))
    have HBX4 := Lib.hid (HBX3.out.call (hF t))
    clear c1 c2 CL hG
    obtain ⟨u2, hu⟩ : ∃ u, F t = u := ⟨_, rfl⟩
    rw [hu] at HF2 HBX4
    rw [hu]
    clear hu hF hT
    clear t F T
    by_cases hfull : lim ≤ (m : Int)
    · have HR : Hid (regE n lim E c l = 11) := by show _ = _; unfold regE; rw [HVE.out, HKN.out, hm]; simp [hfull]
      go_wp2_with fail
      go_ret
      exact reg_no HB.out HR.out (by decide) HF2.out
    have HR : Hid (regE n lim E c l = 0) := by show _ = _; unfold regE; rw [HVE.out, HKN.out, hm]; simp; omega
    have HM : Hid (E.length < maxLen) := by show _ < _; unfold maxLen; omega
    have hfull' : (m : Int) < lim := by omega
    clear hfull hm
    go_wp2_with fail
    have HF2d : Hid (Below w.heap.size w u2.drew) := ⟨HF2.out.os, HF2.out.tape, HF2.out.output, HF2.out.size, HF2.out.block⟩
    have HBu2 := Lib.hid (HB.out.call HF2.out)
    have HS := Lib.hid (And.intro HBX4.out HBu2.out.blk)
    refine wp_region_held_drew (S := fun u => Blk u w.heap.size (flatP [C, [v]]) ∧ Blk u b #[.int .i64 n, .int .i64 lim, .map (some mb)]) (by kernel_rfl) (HS.out) (fun _ => ?_)
    (try simp only [Act.put, List.setIfInBounds_toArray, List.set_cons_zero, List.set_cons_succ])
    refine wpAnyH_take (i := 0) (oi := ⟨some 29, _, _, _, _, _⟩) (v := .pointer (some ⟨b, 0, none⟩)) rfl (by kernel_rfl) (by kernel_rfl) (by kernel_rfl) (fun _ _ _ h => h) (Or.inl ⟨by rfl, fun wz hz => ?_⟩) HS.out ?_
    · clear hz; go_simp; first | done | with_reducible rfl | rfl
    (try simp only [Act.put, List.setIfInBounds_toArray, List.set_cons_zero, List.set_cons_succ])
    refine wpAnyH_take (i := 1) (oi := ⟨some 30, _, _, _, _, _⟩) (v := .pointer (some ⟨b, 0, none⟩)) rfl (by kernel_rfl) (by kernel_rfl) (by kernel_rfl) (fun _ _ _ h => h) (Or.inl ⟨by rfl, fun wz hz => ?_⟩) HS.out ?_
    · clear hz; go_simp; first | done | with_reducible rfl | rfl
    (try simp only [Act.put, List.setIfInBounds_toArray, List.set_cons_zero, List.set_cons_succ])
    refine wpAnyH_take (i := 2) (oi := ⟨some 31, _, _, _, _, _⟩) (v := .pointer (some ⟨b, 2, none⟩)) rfl (by kernel_rfl) (by kernel_rfl) (by kernel_rfl) (fun _ _ _ h => h) (Or.inl ⟨by rfl, fun wz hz => ?_⟩) HS.out ?_
    · clear hz; go_simp; first | done | with_reducible rfl | rfl
    (try simp only [Act.put, List.setIfInBounds_toArray, List.set_cons_zero, List.set_cons_succ])
    refine held_load1 (oi := ⟨some 32, _, _, _, _, _⟩) 3 rfl (by kernel_rfl) (by kernel_rfl) (by kernel_rfl) (fun _ _ _ _ h => h) rfl 88 (.tmp 31) rfl b 2 rfl (.map (some mb)) _ (fun u' hu => hu.2.cell 2) Try.underlying88 rfl HS.out ?_
    (try simp only [Act.put, List.setIfInBounds_toArray, List.set_cons_zero, List.set_cons_succ])
    refine wpAnyH_take (i := 4) (oi := ⟨some 33, _, _, _, _, _⟩) (v := .pointer (some ⟨w.heap.size, 0, none⟩)) rfl (by kernel_rfl) (by kernel_rfl) (by kernel_rfl) (fun _ _ _ h => h) (Or.inl ⟨by rfl, fun wz hz => ?_⟩) HS.out ?_
    · clear hz; go_simp; first | done | with_reducible rfl | rfl
    (try simp only [Act.put, List.setIfInBounds_toArray, List.set_cons_zero, List.set_cons_succ])
    refine held_load (oi := ⟨some 34, _, _, _, _, _⟩) 5 rfl (by kernel_rfl) (by kernel_rfl) (by kernel_rfl) (fun _ _ _ _ h => h) rfl 34 (.tmp 33) rfl w.heap.size 0 rfl C _ (fun u' hu => HO.out.1 ▸ hu.1.part (k := 0) rfl) Try.underlying34 rfl (HI3.out) HS.out ?_
    (try simp only [Act.put, List.setIfInBounds_toArray, List.set_cons_zero, List.set_cons_succ])
    refine wpAnyH_take (i := 6) (oi := ⟨some 35, _, _, _, _, _⟩) (v := .pointer (some ⟨w.heap.size, 33, none⟩)) rfl (by kernel_rfl) (by kernel_rfl) (by kernel_rfl) (fun _ _ _ h => h) (Or.inl ⟨by rfl, fun wz hz => ?_⟩) HS.out ?_
    · clear hz; go_simp; first | done | with_reducible rfl | rfl
    (try simp only [Act.put, List.setIfInBounds_toArray, List.set_cons_zero, List.set_cons_succ])
    refine held_load1 (oi := ⟨some 36, _, _, _, _, _⟩) 7 rfl (by kernel_rfl) (by kernel_rfl) (by kernel_rfl) (fun _ _ _ _ h => h) rfl 29 (.tmp 35) rfl w.heap.size 33 rfl (v) _ (fun u' hu => hu.1.cellAt (k := 1) rfl HO.out.2.1) Try.underlying29 rfl HS.out ?_
    (try simp only [Act.put, List.setIfInBounds_toArray, List.set_cons_zero, List.set_cons_succ])
    refine wpAnyH_ready (rs := [8]) (by kernel_rfl) (by simp) ?_
    refine AllReadyH.cons rfl (fun K hK => ?_) AllReadyH.nil
    go_simp
    refine (cloneN v l _ (HI.out.below HF2d.out) (by have := (vtE_zero HVE.out).1; omega)).mono ?_
    rintro e w3 ⟨v', rfl, hv', hnew, _, hb3⟩
    have HS3 := Lib.hid (And.intro (HS.out.1.call hb3) (HS.out.2.call hb3))
    have HV := Lib.hid (And.intro hv' hnew)
    have HB3 := Lib.hid (HF2d.out.trans (hb3.mono HF2d.out.size))
    clear hv' hnew hb3
    refine hK.out _ _ HS3.out (fun _ => ?_)
    clear hK K
    (try simp only [Act.put, List.setIfInBounds_toArray, List.set_cons_zero, List.set_cons_succ])
    have HM3 := Lib.hid (HB.out.call HB3.out)
    obtain ⟨w4, h4, hm4, hg4⟩ := HM3.out.map.put HC.out v' Try.underlying88 (by have := tget_none.1 (Option.isSome_eq_false_iff.1 HKN.out |> Option.isNone_iff_eq_none.1); simpa [List.map_map, Function.comp_def, TeD.ent] using this) (by rw [List.length_map]; exact HM.out)
    unfold cpX at h4
    rw [HCe.out] at h4
    have HS4 := Lib.hid (And.intro (HS3.out.1.keptMap HM3.out.map hg4) (HS3.out.2.keptMap HM3.out.map hg4))
    refine wpAnyH_ready (rs := [9]) (by kernel_rfl) (by simp) ?_
    refine AllReadyH.cons rfl (fun K hK => ?_) AllReadyH.nil
    refine wp_mapPut _ _ _ _ rfl _ _ _ rfl rfl rfl h4 ?_
    refine hK.out _ _ HS4.out (fun _ => ?_)
    clear hK K
    (try simp only [Act.put, List.setIfInBounds_toArray, List.set_cons_zero, List.set_cons_succ])
    refine wpAnyH_done (by kernel_rfl) ?_ _
    have HG4 := Lib.hid (And.intro hm4 hg4)
    clear h4 hm4 hg4
    go_wp2_with fail
    go_ret
    refine ⟨by rw [HR.out]; rfl, ((below_grown HB3.out).but _).andThen HG4.out.2 (fun j hj => .inr hj), fun h => absurd HR.out h, fun _ => ⟨v', fun z l c e h => Nat.le_trans HF2.out.size (HV.out.2 z l c e h), HM3.out.blk.keptMap HM3.out.map HG4.out.2, HG4.out.1, fun e he => ?_⟩⟩
    rcases List.mem_cons.1 he with rfl | he
    · exact ⟨HV.out.1.keptMap HM3.out.map HG4.out.2, vtE_zero HVE.out⟩
    · have := HM3.out.rows e he
      exact ⟨this.1.keptMap HM3.out.map HG4.out.2, this.2⟩
end Go.Proofs.Ytcbjjafjomdklaa
