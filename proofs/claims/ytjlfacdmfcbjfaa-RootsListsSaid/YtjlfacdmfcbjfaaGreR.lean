/- roots.Greatest over any slice of roots. -/
import Derived.Test.YtjlfacdmfcbjfaaRefC
import Derived.Test.YtjlfacdmfcbjfaaHexQ
set_option linter.unusedVariables false
namespace Go.Proofs.Ytjlfacdmfcbjfaa
open Go.RowKit

/-- The greatest of some roots, the zero root without roots. -/
def bestR (rs : List Rt) : Rt := rs.foldl (fun s y => if 0 < cfR y s then y else s) default

theorem bestR_take {rs : List Rt} {k : Nat} (h : k < rs.length) : bestR (rs.take (k + 1)) = if 0 < cfR rs[k]! (bestR (rs.take k)) then rs[k]! else bestR (rs.take k) := by
  rw [List.take_add_one, List.getElem?_eq_getElem h]
  unfold bestR
  rw [List.foldl_append, getElem!_pos _ k h]
  rfl

theorem encR_size (x : Rt) : (encR x).toArray.size = 32 := by simp [encR_len]
theorem encR_all (x : Rt) : ∀ v ∈ (encR x).toArray, v.oneCell' = true := fun v hv => encR_one x v (by simpa using hv)

set_option maxRecDepth 1000000 in
set_option maxHeartbeats 4000000 in
theorem greatR_row (b off len cap : Nat) (d : List Rt) (w : World) (h : Rts w (.slice (some ⟨b, off, none⟩) len cap) d) (hp : 0 < len) :
    Calls Try.prog 39 #[.slice (some ⟨b, off, none⟩) len cap] w fun e w' => e = .returned (.tuple #[.agg (encR (bestR d)).toArray, .bool true]) ∧ Below w.heap.size w w' := by
  have hl := h.len
  have hm : len ≤ 9223372036854775807 := by
    obtain ⟨a', l', c', e, _, hm, _⟩ := h; cases e; exact hm
  obtain ⟨b', o', e, hlt, hr⟩ := h.row hp
  cases e
  have HR := Lib.hid hr
  have HL := Lib.hid hl
  clear h hr hl
  obtain ⟨Z, hZ⟩ : ∃ Z, (encR default).toArray = Z := ⟨_, rfl⟩
  have hsz : Z.size = 32 := by rw [← hZ]; exact encR_size _
  obtain ⟨hz32, hst⟩ := zero_array (P := Try.prog) (t := 25) (n := 32) Z (by rw [← hZ]; kernel_rfl) hsz (by rw [← hZ]; kernel_rfl)
  have HZ := Lib.hid hZ
  have I0 : (Try.prog.info? 25).map (·.size) = some 32 := by kernel_rfl
  clear hZ
  go_enter Try.func39, Try.ntmps39
  go_wp2_with fail
  go_loopg [10] len (fun n i wr => ∃ (k : Nat) (s : Rt), k ≤ len ∧ len - k ≤ n ∧ i = .int .i64 k ∧ Hid (s = bestR (d.take k)) ∧ Below w.heap.size w wr ∧ Blk wr w.heap.size Z ∧ Blk wr (w.heap.size + 1) (encR s).toArray)
  case atStart => exact ⟨0, default, by omega, by omega, rfl, rfl, ((Below.refl _ _).alloc (Nat.le_refl _) _).alloc (by simp) _, (Blk.new rfl).alloc _, by rw [HZ.out]; exact Blk.new (by simp)⟩
  case round =>
    obtain ⟨k, s, hk, hn, rfl, HS, hbr, bR, bG⟩ := hrel
    have HBr := Lib.hid hbr
    have hl2 := bG.lt
    clear hbr
    by_cases hltk : k < len
    · obtain ⟨y, hy⟩ : ∃ y, d[k]! = y := ⟨_, rfl⟩
      have HY := Lib.hid ((HR.out.below hlt HBr.out).get (by rw [HL.out]; exact hltk) hy)
      have HT := Lib.hid (bestR_take (rs := d) (k := k) (by rw [HL.out]; exact hltk))
      rw [hy, ← HS.out] at HT
      have IY := infoRs y
      have hsy := encR_size y
      have hss := encR_size s
      have HO := Lib.hid (encR_all y)
      have HC := Lib.hid (fun u => rcmp_below y s u (c := cfR y s) rfl)
      obtain ⟨c, hc⟩ : ∃ c, cfR y s = c := ⟨_, rfl⟩
      rw [hc] at HC HT
      clear hc hy
      obtain ⟨Y, HYY⟩ : ∃ Y, (encR y).toArray = Y := ⟨_, rfl⟩
      obtain ⟨G, HG⟩ : ∃ G, (encR s).toArray = G := ⟨_, rfl⟩
      rw [HYY] at hsy HC HO
      rw [HG] at hss HC bG
      have HYY := Lib.hid HYY
      have HG := Lib.hid HG
      by_cases hc : 0 < c
      case' pos => have hcd : decide (0 < c) = true := decide_eq_true hc
      case' neg => have hcd : decide (0 < c) = false := decide_eq_false hc
      all_goals
        go_wp2_with (first
          | ((with_reducible refine at_load (.tmp 12) ?_); refine wpList_load_mid rfl 25 _ rfl b (off + k * 32) rfl (encR y) _ HY.out Try.underlying25 rfl IY ?_; rw [HYY.out])
          | ((with_reducible refine at_store (.tmp 6) ?_); refine wpList_store_blk rfl 25 _ _ rfl wr.heap.size Y rfl rfl Z (Blk.new rfl) (by rw [hsz, hsy]) (by rw [hsy]; exact I0) HO.out ?_; intro w2 U2 B2; have bG2 := U2.blk (bG.alloc _) (by omega); have bR2 := U2.blk (bR.alloc _) (by omega))
          | ((with_reducible refine at_load (.tmp 6) ?_); first
              | refine wpList_load_blk rfl 25 _ rfl wr.heap.size rfl Y _ B2 Try.underlying25 rfl (by rw [hsy]; exact I0) ?_
              | refine wpList_load_blk rfl 25 _ rfl wr.heap.size rfl Y _ (B2.call hb3) Try.underlying25 rfl (by rw [hsy]; exact I0) ?_)
          | ((with_reducible refine at_load (.tmp 4) ?_); refine wpList_load_blk rfl 25 _ rfl (w.heap.size + 1) rfl G _ bG2 Try.underlying25 rfl (by rw [hss]; exact I0) ?_)
          | (go_at_call 50; refine (HC.out _).mono ?_; rintro e w3 ⟨rfl, hb3⟩)
          | ((with_reducible refine at_store (.tmp 4) ?_); refine wpList_store_blk rfl 25 _ _ rfl (w.heap.size + 1) Y rfl rfl G (bG2.call hb3) (by rw [hss, hsy]) (by rw [hsy]; exact I0) HO.out ?_; intro w4 U4 B4))
      · go_roundg (len - (k + 1))
        case measure => omega
        case rel =>
          have hbw : Below w.heap.size w w3 := bel0 (U2.below (HBr.out.alloc (by omega) _) (by omega)) hb3
          exact ⟨k + 1, s, by omega, Nat.le_refl _, by go_num, (by rw [HT.out, if_neg (by omega)]; rfl), hbw, bR2.call hb3, by rw [HG.out]; exact bG2.call hb3⟩
      · go_roundg (len - (k + 1))
        case measure => omega
        case rel =>
          have hbw : Below w.heap.size w w3 := bel0 (U2.below (HBr.out.alloc (by omega) _) (by omega)) hb3
          exact ⟨k + 1, y, by omega, Nat.le_refl _, by go_num, (by rw [HT.out, if_pos hc]; rfl), U4.below hbw (by omega), U4.blk (bR2.call hb3) (by omega), by rw [HYY.out]; exact B4⟩
    · have HE := Lib.hid (show s = bestR d by rw [HS.out, List.take_of_length_le (by rw [HL.out]; omega)])
      have hss := encR_size s
      have HO := Lib.hid (encR_all s)
      obtain ⟨G, HG⟩ : ∃ G, (encR s).toArray = G := ⟨_, rfl⟩
      rw [HG] at hss bG HO
      have HG := Lib.hid HG
      have hp1 : decide (0 < len) = true := decide_eq_true hp
      go_wp2_with (first
        | ((with_reducible refine at_load (.tmp 4) ?_); refine wpList_load_blk rfl 25 _ rfl (w.heap.size + 1) rfl G _ bG Try.underlying25 rfl (by rw [hss]; exact I0) ?_)
        | ((with_reducible refine at_store (.tmp 2) ?_); refine wpList_store_blk rfl 25 _ _ rfl w.heap.size G rfl rfl Z bR (by rw [hss, hsz]) (by rw [hss]; exact I0) HO.out ?_; intro w4 U4 B4))
      refine bodyPost_ret (res_cell_tmp rfl rfl rfl B4 Try.underlying25 rfl (by rw [hss]; exact I0)) rfl ⟨by rw [← HE.out, HG.out]; rfl, ?_⟩
      exact U4.below HBr.out (Nat.le_refl _)

set_option maxHeartbeats 1000000 in
theorem greatR_zero (a : Option Addr) (cap : Nat) (w : World) :
    Calls Try.prog 39 #[.slice a 0 cap] w fun e w' => e = .returned (.tuple #[.agg (encR default).toArray, .bool false]) ∧ Below w.heap.size w w' := by
  obtain ⟨Z, hZ⟩ : ∃ Z, (encR default).toArray = Z := ⟨_, rfl⟩
  have hsz : Z.size = 32 := by rw [← hZ]; exact encR_size _
  obtain ⟨hz32, hst⟩ := zero_array (P := Try.prog) (t := 25) (n := 32) Z (by rw [← hZ]; kernel_rfl) hsz (by rw [← hZ]; kernel_rfl)
  have HO := Lib.hid (show ∀ v ∈ Z, v.oneCell' = true by rw [← hZ]; exact encR_all _)
  have HZ := Lib.hid hZ
  have I0 : (Try.prog.info? 25).map (·.size) = some 32 := by kernel_rfl
  rw [hZ]
  clear hZ
  go_enter Try.func39, Try.ntmps39
  go_wp2_with fail
  refine wp_loop_rounds 1 ?_
  rw [rounds_succ]
  go_wp2_with (first
    | ((with_reducible refine at_load (.tmp 4) ?_); refine wpList_load_blk rfl 25 _ rfl (w.heap.size + 1) rfl Z _ (Blk.new (by simp)) Try.underlying25 rfl (by rw [hsz]; exact I0) ?_)
    | ((with_reducible refine at_store (.tmp 2) ?_); refine wpList_store_blk rfl 25 _ _ rfl w.heap.size Z rfl rfl Z ((Blk.new rfl).alloc _) rfl (by rw [hsz]; exact I0) HO.out ?_; intro w4 U4 B4))
  refine bodyPost_ret (res_cell_tmp rfl rfl rfl B4 Try.underlying25 rfl (by rw [hsz]; exact I0)) rfl ⟨rfl, ?_⟩
  exact U4.below (((Below.refl _ _).alloc (Nat.le_refl _) _).alloc (by simp) _) (Nat.le_refl _)

theorem greatR_any (v : Value) (d : List Rt) (w : World) (h : Rts w v d) :
    Calls Try.prog 39 #[v] w fun e w' => e = .returned (.tuple #[.agg (encR (bestR d)).toArray, .bool (decide (0 < d.length))]) ∧ Below w.heap.size w w' := by
  have h' := h
  obtain ⟨a, len, cap, rfl, hl, hm, h0⟩ := h
  by_cases hz : len = 0
  · subst hz
    obtain rfl := List.eq_nil_of_length_eq_zero hl
    exact greatR_zero a cap w
  · obtain ⟨b, off, rfl, _⟩ := h'.row (by omega)
    rw [decide_eq_true (show 0 < d.length by omega)]
    exact greatR_row b off len cap d w h' (by omega)

theorem zero_least (x : Rt) : cfR default x ≤ 0 := by
  have : ∀ (xs : List Int), (∀ x ∈ xs, 0 ≤ x) → cmpB (List.replicate xs.length 0) xs ≤ 0
  := by
    intro xs
    induction xs with
    | nil => intro _; simp [cmpB]
    | cons x xs ih =>
      intro h
      have h0 := h x (by simp)
      have h1 := ih (fun y hy => h y (by simp [hy]))
      simp only [List.length_cons, List.replicate_succ, cmpB]
      split
      · omega
      · split
        · omega
        · exact h1
  have h := this x.1 (fun y hy => (wf_u8 (x.2.2 y hy)).1)
  rw [x.2.1] at h
  exact h

theorem bestR_spec : ∀ (rs : List Rt) (s : Rt), cfR s (rs.foldl (fun s y => if 0 < cfR y s then y else s) s) ≤ 0 ∧ (∀ x ∈ rs, cfR x (rs.foldl (fun s y => if 0 < cfR y s then y else s) s) ≤ 0) ∧ (rs.foldl (fun s y => if 0 < cfR y s then y else s) s = s ∨ rs.foldl (fun s y => if 0 < cfR y s then y else s) s ∈ rs)
  | [], s => ⟨by simp [cfR_refl], by simp, .inl rfl⟩
  | y :: rs, s => by
    obtain ⟨h1, h2, h3⟩ := bestR_spec rs (if 0 < cfR y s then y else s)
    have hs : cfR s (if 0 < cfR y s then y else s) ≤ 0 ∧ cfR y (if 0 < cfR y s then y else s) ≤ 0 := by
      have a := cfR_anti y s
      have b := cfR_refl y
      have c := cfR_refl s
      split <;> omega
    simp only [List.foldl_cons]
    refine ⟨cfR_trans hs.1 h1, fun x hx => ?_, ?_⟩
    · rcases List.mem_cons.1 hx with rfl | hx
      · exact cfR_trans hs.2 h1
      · exact h2 x hx
    · rcases h3 with h3 | h3
      · by_cases hc : 0 < cfR y s
        · right; rw [h3, if_pos hc]; simp
        · left; rw [h3, if_neg hc]
      · right; exact List.mem_cons_of_mem _ h3

/-- The greatest root is the last of the roots in order. -/
theorem bestR_last (d : List Rt) (h : 0 < (uniq d).length) : bestR d = (uniq d)[(uniq d).length - 1]! := by
  obtain ⟨_, h2, h3⟩ := bestR_spec d default
  have hm := get_mem (l := uniq d) (k := (uniq d).length - 1) (by omega)
  have hle := h2 _ (mem_uniq.1 hm)
  have hge : cfR (bestR d) (uniq d)[(uniq d).length - 1]! ≤ 0 := by
    rcases h3 with h3 | h3
    · unfold bestR; rw [h3]; exact zero_least _
    · have h4 := mem_uniq.2 h3
      obtain ⟨j, hj, e⟩ := List.mem_iff_getElem.1 h4
      unfold bestR
      rw [← e, getElem!_pos (uniq d) _ (show (uniq d).length - 1 < (uniq d).length by omega)]
      rcases Nat.lt_or_ge j ((uniq d).length - 1) with hlt | hge
      · exact Int.le_of_lt (List.pairwise_iff_getElem.1 (uniq_asc d) j _ hj (by omega) hlt)
      · have : j = (uniq d).length - 1 := by omega
        subst this
        rw [cfR_refl]; omega
  have a := cfR_anti (bestR d) (uniq d)[(uniq d).length - 1]!
  exact cfR_eq (by unfold bestR at *; omega)

end Go.Proofs.Ytjlfacdmfcbjfaa
