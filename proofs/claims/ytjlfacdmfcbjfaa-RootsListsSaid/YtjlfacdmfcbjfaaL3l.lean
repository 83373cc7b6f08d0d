/- Stage 3: the walk of RootsLists. -/
import Derived.Test.YtjlfacdmfcbjfaaSortN
import Derived.Test.YtjlfacdmfcbjfaaGreR
import Derived.Test.YtjlfacdmfcbjfaaL3s
set_option linter.unusedVariables false
namespace Go.Proofs.Ytjlfacdmfcbjfaa
open Go.RowKit Go.Shelf Go.Sort Go.Lib

set_option maxHeartbeats 1000000 in
theorem rsort_zero (a : Option Addr) (cap : Nat) (w : World) : Calls Try.prog 36 #[.slice a 0 cap] w fun e w' => e = .returned (.slice none 0 0) ∧ Below w.heap.size w w' := by
  go_enter Try.func36, Try.ntmps36
  go_wp2_with fail
  refine wp_loop_rounds 1 ?_
  rw [rounds_succ]
  go_wp2_with fail
  go_ret
  exact ⟨rfl, Below.refl _ _⟩

theorem rsort_any (v : Value) (d : List Rt) (w : World) (h : Rts w v d) (h60 : d.length ≤ 60) :
    Calls Try.prog 36 #[v] w fun e w' => ∃ v', e = .returned v' ∧ Rts w' v' (uniq d) ∧ Below w.heap.size w w' := by
  have h' := h
  obtain ⟨a, len, cap, rfl, hl, hm, h0⟩ := h
  by_cases hz : len = 0
  · subst hz
    obtain rfl := List.eq_nil_of_length_eq_zero hl
    refine (rsort_zero a cap w).mono fun e w' ⟨he, hb⟩ => ⟨_, he, ?_, hb⟩
    have hu : uniq [] = [] := List.eq_nil_of_length_eq_zero (by have := uniq_len []; simpa using this)
    rw [hu]
    exact ⟨_, _, _, rfl, rfl, Nat.zero_le _, .inl rfl⟩
  · obtain ⟨b, off, rfl, _⟩ := h'.row (by omega)
    exact rsort_row b off len cap d w h' (by omega) (by omega)

set_option maxRecDepth 1000000 in
set_option maxHeartbeats 8000000 in
theorem lists_row (b0 o0 len cap : Nat) (d : List Rt) (x : Rt) (w : World) (h : Rts w (.slice (some ⟨b0, o0, none⟩) len cap) d) (hp : 0 < len) (h60 : len ≤ 60) :
    Calls Try.prog 8 #[.slice (some ⟨b0, o0, none⟩) len cap, .agg (encR x).toArray] w fun e w' => e = .returned (.bool true) ∧ Below w.heap.size w w' := by
  have hl := h.len
  obtain ⟨U, HU⟩ : ∃ U, Hid (U = uniq d) := ⟨_, rfl⟩
  have hUl : U.length ≤ len := by rw [HU.out, ← hl]; exact uniq_len d
  have HUM := Lib.hid (show ∀ x, x ∈ U ↔ x ∈ d by rw [HU.out]; exact fun x => mem_uniq)
  have hX32 : (encR x).toArray.size = 32 := by rw [List.size_toArray, encR_len]
  have IX : (Try.prog.info? 25).map (·.size) = some (encR x).toArray.size := by rw [hX32]; kernel_rfl
  have hba : Below w.heap.size w (w.alloc (.cells (encR x).toArray 25)) := (Below.refl _ w).alloc (Nat.le_refl _) _
  have KX : Hid (Blk (w.alloc (.cells (encR x).toArray 25)) w.heap.size (encR x).toArray) := Blk.new rfl
  have HD := Lib.hid (h.below hba)
  have HBA := Lib.hid hba; clear hba
  have HL := Lib.hid hl
  have HS := Lib.hid (fun (u : World) (hu : Rts u (.slice (some ⟨b0, o0, none⟩) len cap) d) => sort_any _ d u hu (by omega))
  have HT := Lib.hid (fun (u : World) (hu : Rts u (.slice (some ⟨b0, o0, none⟩) len cap) d) => rsort_any _ d u hu (by omega))
  obtain ⟨cb, hcb⟩ : ∃ b, decide (x ∈ d) = b := ⟨_, rfl⟩
  have C1 := fun (u : World) (hu : Rts u (.slice (some ⟨b0, o0, none⟩) len cap) d) => contains_any _ d x u hu
  have C2 := fun (u : World) (hu : Rts u (.slice (some ⟨b0, o0, none⟩) len cap) d) => rcontains_any _ d x u hu
  have G := fun (u : World) (hu : Rts u (.slice (some ⟨b0, o0, none⟩) len cap) d) => greatR_any _ d u hu
  rw [hcb] at C1 C2
  rw [decide_eq_true (show 0 < d.length by omega)] at G
  have HC1 := Lib.hid C1; clear C1
  have HC2 := Lib.hid C2; clear C2
  have HGr := Lib.hid G; clear G hcb
  obtain ⟨X, hX⟩ : ∃ X, (encR x).toArray = X := ⟨_, rfl⟩
  rw [hX] at KX HD HBA HC1 HC2 IX hX32 ⊢
  clear hX h hl
  go_enter Try.func8, Try.ntmps8
  go_wp2_with (first
    | (go_at_call 35; refine (HS.out _ HD.out).mono ?_; rintro e w1 ⟨v1, rfl, hR1, hb1⟩; rw [← HU.out] at hR1; have HR1 := Lib.hid hR1; have HB1 := Lib.hid hb1; clear hb1; have hvs : ∃ a len cap, v1 = .slice a len cap := (by obtain ⟨a, len, cap, e, _⟩ := hR1; exact ⟨a, len, cap, e⟩); clear hR1; obtain ⟨a1, n1, c1, rfl⟩ := hvs)
    | (go_at_call 36; refine (HT.out _ (HD.out.below HB1.out)).mono ?_; rintro e w2 ⟨v2, rfl, hR2, hb2⟩; rw [← HU.out] at hR2; have HR2 := Lib.hid hR2; have HB2 := Lib.hid hb2; clear hb2; have hvs : ∃ a len cap, v2 = .slice a len cap := (by obtain ⟨a, len, cap, e, _⟩ := hR2; exact ⟨a, len, cap, e⟩); clear hR2; obtain ⟨a2, n2, c2, rfl⟩ := hvs; have hn1 := HR1.out.len; have hn2 := HR2.out.len; have hn12 : n2 = n1 := (by omega); subst hn12; have hnl : n2 ≤ len := (by omega)))
  have hn0 : 0 < n2 := by
    have h1 := get_mem (l := d) (k := 0) (by have := HL.out; omega)
    have h2 := List.length_pos_of_mem ((HUM.out _).2 h1)
    omega
  have HN := Lib.hid hn2
  have HBW := Lib.hid (bel0 (bel0 HBA.out HB1.out) HB2.out)
  have HD2 := Lib.hid ((HD.out.below HB1.out).below HB2.out)
  have HR1' := Lib.hid (HR1.out.below HB2.out)
  have HKX := Lib.hid ((KX.out.call HB1.out).call HB2.out)
  obtain ⟨b1, o1, rfl, hlt1, hr1⟩ := HR1'.out.row hn0
  obtain ⟨b2, o2, rfl, hlt2, hr2⟩ := HR2.out.row hn0
  have HA1 := Lib.hid hr1
  have HA2 := Lib.hid hr2
  clear hr1 hr2 HS HT HD HR1 HB1 HB2 hn1 hn2 hUl
  refine wp_region_fam2 (by kernel_rfl) (by kernel_rfl) ?_
  intro T F hT hF hG
  have CX : ∀ u, (∃ t, u = F t) → Blk u w.heap.size X := by rintro _ ⟨t, rfl⟩; exact HKX.out.call (hF t)
  repeat (first
    | ((with_reducible refine at_qload (.tmp 3) ?_); refine wpQuiet_load 25 _ rfl w.heap.size rfl X CX Try.underlying25 rfl IX (by kernel_rfl) ?_; simp only [Act.put, List.setIfInBounds_toArray, List.set_cons_succ, List.set_cons_zero])
    | (go_big_quiet_step ((first
        | (go_at_call 37; exact fam_call hF hG (Nat.le_refl _) (HC1.out _ (HD2.out.below (hF _))))
        | (go_at_call 38; exact fam_call hF hG (Nat.le_refl _) (HC2.out _ (HD2.out.below (hF _))))))))
  refine wpQuiet_nil ?_
  rintro _ ⟨t, rfl⟩
  have HB' := Lib.hid (hF t)
  obtain ⟨wv, hwv⟩ : ∃ v, F t = v := ⟨_, rfl⟩
  rw [hwv] at HB'
  rw [hwv]
  clear CX hF hG hT hwv
  clear t F T
  go_wp2_with fail
  go_loopg [7] n2 (fun n i wr => ∃ k : Nat, k ≤ n2 ∧ n2 - k ≤ n ∧ i = .int .i64 k ∧ Below w2.heap.size w2 wr)
  case atStart => exact ⟨0, by omega, by omega, rfl, HB'.out⟩
  case round =>
    clear HB'
    obtain ⟨k, hk, hn, rfl, hbr⟩ := hrel
    have HBr := Lib.hid hbr
    clear hbr
    by_cases hlt : k < n2
    · obtain ⟨x, hx⟩ : ∃ x, U[k]! = x := ⟨_, rfl⟩
      have HX0 := Lib.hid (show ∀ u, Below w2.heap.size w2 u → u.rangeAt b1 (o1 + k * 32) (encR x) from fun u hu => (HA1.out.below hlt1 hu).get (by rw [HN.out]; exact hlt) hx)
      have HX2 := Lib.hid (show ∀ u, Below w2.heap.size w2 u → u.rangeAt b2 (o2 + k * 32) (encR x) from fun u hu => (HA2.out.below hlt2 hu).get (by rw [HN.out]; exact hlt) hx)
      have heq : ∀ z, Sem.run Try.prog (Op.equalIn 10000 25 (.agg (encR x).toArray) (.agg (encR x).toArray)) z = .ok true z := fun z => by
        have := eq_rt x x z
        rwa [decide_eq_true rfl] at this
      have I1 := infoRs x
      clear hx
      by_cases hk0 : k = 0
      · subst hk0
        go_wp2_with fail
        refine wp_region_fam2 (by kernel_rfl) (by kernel_rfl) ?_
        intro T F hT hF hG
        have C1 : ∀ z, (∃ t, z = F t) → z.rangeAt b1 o1 (encR x) := by rintro _ ⟨t, rfl⟩; have := HX0.out _ (bel0 HBr.out (hF t)); simpa using this
        have C2 : ∀ z, (∃ t, z = F t) → z.rangeAt b2 o2 (encR x) := by rintro _ ⟨t, rfl⟩; have := HX2.out _ (bel0 HBr.out (hF t)); simpa using this
        repeat (first
          | ((with_reducible refine at_qload (.tmp 40) ?_); refine wpQuiet_load_mid 25 _ rfl b1 o1 rfl (encR x) C1 Try.underlying25 rfl I1 (by kernel_rfl) ?_; simp only [Act.put, List.setIfInBounds_toArray, List.set_cons_succ, List.set_cons_zero])
          | ((with_reducible refine at_qload (.tmp 44) ?_); refine wpQuiet_load_mid 25 _ rfl b2 o2 rfl (encR x) C2 Try.underlying25 rfl I1 (by kernel_rfl) ?_; simp only [Act.put, List.setIfInBounds_toArray, List.set_cons_succ, List.set_cons_zero])
          | (go_big_quiet_step (fail)))
        refine wpQuiet_nil ?_
        rintro _ ⟨t, rfl⟩
        have HB' := Lib.hid (bel0 HBr.out (hF t))
        obtain ⟨wu, hwu⟩ : ∃ v, F t = v := ⟨_, rfl⟩
        rw [hwu] at HB'
        rw [hwu]
        clear C1 C2 hF hG hT hwu heq HX0 HX2 I1
        clear t F T
        go_wp2_with fail
        go_roundg (n2 - 1)
        case measure => omega
        case rel => exact ⟨1, by omega, Nat.le_refl _, by go_num, HB'.out⟩
      · have hpos : 0 < k := by omega
        go_wp2_with fail
        refine wp_region_fam2 (by kernel_rfl) (by kernel_rfl) ?_
        intro T F hT hF hG
        have C1 : ∀ z, (∃ t, z = F t) → z.rangeAt b1 (o1 + k * 32) (encR x) := by rintro _ ⟨t, rfl⟩; exact HX0.out _ (bel0 HBr.out (hF t))
        have C2 : ∀ z, (∃ t, z = F t) → z.rangeAt b2 (o2 + k * 32) (encR x) := by rintro _ ⟨t, rfl⟩; exact HX2.out _ (bel0 HBr.out (hF t))
        repeat (first
          | ((with_reducible refine at_qload (.tmp 40) ?_); refine wpQuiet_load_mid 25 _ rfl b1 (o1 + k * 32) rfl (encR x) C1 Try.underlying25 rfl I1 (by kernel_rfl) ?_; simp only [Act.put, List.setIfInBounds_toArray, List.set_cons_succ, List.set_cons_zero])
          | ((with_reducible refine at_qload (.tmp 44) ?_); refine wpQuiet_load_mid 25 _ rfl b2 (o2 + k * 32) rfl (encR x) C2 Try.underlying25 rfl I1 (by kernel_rfl) ?_; simp only [Act.put, List.setIfInBounds_toArray, List.set_cons_succ, List.set_cons_zero])
          | (go_big_quiet_step (fail)))
        refine wpQuiet_nil ?_
        rintro _ ⟨t, rfl⟩
        have HB' := Lib.hid (bel0 HBr.out (hF t))
        obtain ⟨wu, hwu⟩ : ∃ v, F t = v := ⟨_, rfl⟩
        rw [hwu] at HB'
        rw [hwu]
        clear C1 C2 hF hG hT hwu heq HX0 HX2 I1
        clear t F T
        go_wp2_with fail
        go_roundg (n2 - (k + 1))
        case measure => omega
        case rel => exact ⟨k + 1, by omega, Nat.le_refl _, by go_num, HB'.out⟩
    · obtain ⟨p, rfl⟩ : ∃ p, n2 = p + 1 := ⟨n2 - 1, by omega⟩
      obtain ⟨y, hy⟩ : ∃ y, bestR d = y := ⟨_, rfl⟩
      have hyl : U[p]! = y := by
        have h1 := bestR_last d (by rw [← HU.out, HN.out]; omega)
        rw [← HU.out, HN.out, hy] at h1
        simpa using h1.symm
      have HY2 := Lib.hid (show ∀ u, Below w2.heap.size w2 u → u.rangeAt b2 (o2 + p * 32) (encR y) from fun u hu => (HA2.out.below hlt2 hu).get (by rw [HN.out]; omega) hyl)
      have heq : ∀ z, Sem.run Try.prog (Op.equalIn 10000 25 (.agg (encR y).toArray) (.agg (encR y).toArray)) z = .ok true z := fun z => by
        have := eq_rt y y z
        rwa [decide_eq_true rfl] at this
      rw [hy] at HGr
      have IY := infoRs y
      have hsy := encR_size y
      have HO := Lib.hid (encR_all y)
      clear hy hyl
      obtain ⟨Z, hZ⟩ : ∃ Z, bytesV zero32' = Z := ⟨_, rfl⟩
      have hsz : Z.size = 32 := by rw [← hZ]; rfl
      obtain ⟨hz32, hst⟩ := zero_array (P := Try.prog) (t := 25) (n := 32) Z (by rw [← hZ]; kernel_rfl) hsz (by rw [← hZ]; kernel_rfl)
      clear hst hZ
      obtain ⟨Y, HYY⟩ : ∃ Y, (encR y).toArray = Y := ⟨_, rfl⟩
      rw [HYY] at hsy HGr HO heq
      have HYY := Lib.hid HYY
      go_wp2_with (first
        | (go_at_call 39; refine (HGr.out _ (HD2.out.below HBr.out)).mono ?_; rintro e w5 ⟨rfl, hb5⟩)
        | ((with_reducible refine at_store (.tmp 8) ?_); refine wpList_store_blk rfl 25 _ _ rfl w5.heap.size Y rfl rfl Z (Blk.new rfl) (by rw [hsz, hsy]) (by rw [hsy]; kernel_rfl) HO.out ?_; intro w6 U6 B6))
      have hb6 := bel0 HBr.out (U6.below (hb5.alloc hb5.size _) hb5.size)
      have HB6 := Lib.hid hb6
      clear U6 hb5 hb6 hz32
      refine wp_region_fam2 (by kernel_rfl) (by kernel_rfl) ?_
      intro T F hT hF hG
      have C1 : ∀ u, (∃ t, u = F t) → Blk u w5.heap.size Y := by rintro _ ⟨t, rfl⟩; exact B6.call (hF t)
      have C2 : ∀ z, (∃ t, z = F t) → z.rangeAt b2 (o2 + p * 32) (encR y) := by rintro _ ⟨t, rfl⟩; exact HY2.out _ (bel0 HB6.out (hF t))
      repeat (first
        | ((with_reducible refine at_qload (.tmp 8) ?_); refine wpQuiet_load 25 _ rfl w5.heap.size rfl Y C1 Try.underlying25 rfl (by rw [hsy]; kernel_rfl) (by kernel_rfl) ?_; simp only [Act.put, List.setIfInBounds_toArray, List.set_cons_succ, List.set_cons_zero])
        | ((with_reducible refine at_qload (.tmp 72) ?_); refine wpQuiet_load_mid 25 _ rfl b2 (o2 + p * 32) rfl (encR y) C2 Try.underlying25 rfl IY (by kernel_rfl) ?_; rw [HYY.out]; simp only [Act.put, List.setIfInBounds_toArray, List.set_cons_succ, List.set_cons_zero])
        | (go_big_quiet_step ((go_at_call 34; exact fam_call hF hG (Nat.le_refl _) (awake3 _)))))
      refine wpQuiet_nil ?_
      rintro _ ⟨t, rfl⟩
      have HB' := Lib.hid (bel0 HB6.out (hF t))
      go_wp2_with fail
      go_ret
      exact ⟨rfl, bel0 HBW.out HB'.out⟩

set_option maxHeartbeats 400000 in
theorem lists_long (a : Option Addr) (len cap : Nat) (x : Rt) (w : World) (hl : 60 < len) (hm : len ≤ 9223372036854775807) :
    Calls Try.prog 8 #[.slice a len cap, .agg (encR x).toArray] w fun e w' => e = .returned (.bool true) ∧ Below w.heap.size w w' := by
  obtain ⟨X, hX⟩ : ∃ X, (encR x).toArray = X := ⟨_, rfl⟩
  have hba : Below w.heap.size w (w.alloc (.cells X 25)) := (Below.refl _ w).alloc (Nat.le_refl _) _
  rw [hX]
  have HBA := Lib.hid hba; clear hba
  clear hX
  go_enter Try.func8, Try.ntmps8
  go_wp2_with (go_at_call 34; refine (awake3 _).mono ?_; rintro e w1 ⟨rfl, hb1⟩)
  go_ret
  exact ⟨rfl, bel0 HBA.out hb1⟩

set_option maxRecDepth 1000000 in
set_option maxHeartbeats 2000000 in
theorem lists_nil (a : Option Addr) (cap : Nat) (x : Rt) (w : World) :
    Calls Try.prog 8 #[.slice a 0 cap, .agg (encR x).toArray] w fun e w' => e = .returned (.bool true) ∧ Below w.heap.size w w' := by
  have h0 : ∀ (u : World) (a : Option Addr) (c : Nat), Rts u (.slice a 0 c) [] := fun u a c => ⟨_, _, _, rfl, rfl, Nat.zero_le _, .inl rfl⟩
  have hs : ∀ (u : World), Calls Try.prog 35 #[.slice a 0 cap] u fun e w' => (∃ p k, e = .returned (.slice p 0 k)) ∧ Below u.heap.size u w' := fun u => by
    refine (sort_any _ [] u (h0 u a cap) (by simp)).mono ?_
    rintro e w' ⟨v', rfl, ⟨p, n, k, rfl, hn, _⟩, hb⟩
    have : n = 0 := by rw [← hn]; have := uniq_len []; simpa using this
    subst this
    exact ⟨⟨_, _, rfl⟩, hb⟩
  have HS := Lib.hid hs
  clear hs
  have HT := Lib.hid (fun (u : World) => rsort_zero a cap u)
  have hcb : decide (x ∈ ([] : List Rt)) = false := by simp
  have C1 := fun (u : World) => contains_any _ [] x u (h0 u a cap)
  have C2 := fun (u : World) => rcontains_any _ [] x u (h0 u a cap)
  rw [hcb] at C1 C2
  have G := fun (u : World) => greatR_zero a cap u
  have heq : ∀ z, Sem.run Try.prog (Op.equalIn 10000 25 (.agg (encR default).toArray) (.agg (encR default).toArray)) z = .ok true z := fun z => by
    have := eq_rt default default z
    rwa [decide_eq_true rfl] at this
  have hsz := encR_size default
  have HO := Lib.hid (encR_all default)
  have hbld : ∀ u, (Instr.build 25 #[]).run Try.prog u = .ok (.agg (encR default).toArray) u := fun u => by kernel_rfl
  obtain ⟨Z, hZ⟩ : ∃ Z, (encR default).toArray = Z := ⟨_, rfl⟩
  obtain ⟨hz32, hst⟩ := zero_array (P := Try.prog) (t := 25) (n := 32) Z (by rw [← hZ]; kernel_rfl) (by rw [← hZ]; exact hsz) (by rw [← hZ]; kernel_rfl)
  rw [hZ] at G heq hsz HO hbld
  clear hst hZ h0 hcb
  have HGr := Lib.hid G; clear G
  have hX32 : (encR x).toArray.size = 32 := by rw [List.size_toArray, encR_len]
  have IX : (Try.prog.info? 25).map (·.size) = some (encR x).toArray.size := by rw [hX32]; kernel_rfl
  have hba : Below w.heap.size w (w.alloc (.cells (encR x).toArray 25)) := (Below.refl _ w).alloc (Nat.le_refl _) _
  have KX : Hid (Blk (w.alloc (.cells (encR x).toArray 25)) w.heap.size (encR x).toArray) := Blk.new rfl
  have HBA := Lib.hid hba; clear hba
  obtain ⟨X, hX⟩ : ∃ X, (encR x).toArray = X := ⟨_, rfl⟩
  rw [hX] at KX HBA C1 C2 IX hX32 ⊢
  clear hX
  have HC1 := Lib.hid C1; clear C1
  have HC2 := Lib.hid C2; clear C2
  go_enter Try.func8, Try.ntmps8
  go_wp2_with (first
    | (go_at_call 35; refine (HS.out _).mono ?_; rintro e w1 ⟨⟨p, q, rfl⟩, hb1⟩)
    | (go_at_call 36; refine (HT.out _).mono ?_; rintro e w2 ⟨rfl, hb2⟩))
  have HBW := Lib.hid (bel0 (bel0 HBA.out hb1) hb2)
  have HKX := Lib.hid ((KX.out.call hb1).call hb2)
  clear hb1 hb2 HS HT KX HBA
  refine wp_region_fam2 (by kernel_rfl) (by kernel_rfl) ?_
  intro T F hT hF hG
  have CX : ∀ u, (∃ t, u = F t) → Blk u w.heap.size X := by rintro _ ⟨t, rfl⟩; exact HKX.out.call (hF t)
  repeat (first
    | ((with_reducible refine at_qload (.tmp 3) ?_); refine wpQuiet_load 25 _ rfl w.heap.size rfl X CX Try.underlying25 rfl IX (by kernel_rfl) ?_; simp only [Act.put, List.setIfInBounds_toArray, List.set_cons_succ, List.set_cons_zero])
    | (go_big_quiet_step ((first
        | (go_at_call 37; exact fam_call hF hG (Nat.le_refl _) (HC1.out _))
        | (go_at_call 38; exact fam_call hF hG (Nat.le_refl _) (HC2.out _))))))
  refine wpQuiet_nil ?_
  rintro _ ⟨t, rfl⟩
  have HB' := Lib.hid (bel0 HBW.out (hF t))
  obtain ⟨wv, hwv⟩ : ∃ v, F t = v := ⟨_, rfl⟩
  rw [hwv] at HB'
  rw [hwv]
  clear CX hF hG hT hwv
  clear t F T
  go_wp2_with fail
  refine wp_loop_rounds 1 ?_
  rw [rounds_succ]
  go_wp2_with (first
    | (go_at_call 39; refine (HGr.out _).mono ?_; rintro e w5 ⟨rfl, hb5⟩)
    | ((with_reducible refine at_store (.tmp 8) ?_); refine wpList_store_blk rfl 25 _ _ rfl w5.heap.size Z rfl rfl Z (Blk.new rfl) rfl (by rw [hsz]; kernel_rfl) HO.out ?_; intro w6 U6 B6)
    | ((with_reducible refine at_load (.tmp 8) ?_); refine wpList_load_g 25 _ rfl w5.heap.size rfl Z _ B6 Try.underlying25 rfl (by rw [hsz]; kernel_rfl) (by kernel_rfl) ?_)
    | (go_at_call 34; refine (awake3 _).mono ?_; rintro e w7 ⟨rfl, hb7⟩))
  go_ret
  exact ⟨rfl, bel0 (bel0 HB'.out (U6.below (hb5.alloc hb5.size _) hb5.size)) hb7⟩

theorem walk_RootsLists (v0 : Value) (a0 : List Rt) (a1 : List Int) (w : World) (w0 : Rts w v0 a0) (w1 : a1.length = 32 ∧ ∀ x ∈ a1, (Lit.int .u8 x).wf = true) :
    Calls Try.prog 8 #[v0, .agg (a1.map (Value.int .u8)).toArray] w fun e w' => e = .returned (.bool true) ∧ Below w.heap.size w w' := by
  have h := w0
  obtain ⟨a, len, cap, rfl, hl, hm, h0⟩ := w0
  obtain ⟨x, rfl⟩ : ∃ x : Rt, x.1 = a1 := ⟨⟨a1, w1⟩, rfl⟩
  show Calls Try.prog 8 #[_, .agg (encR x).toArray] w _
  by_cases hc : len ≤ 60
  · by_cases hz : len = 0
    · subst hz
      exact lists_nil a cap _ w
    · obtain ⟨b, off, rfl, _⟩ := h.row (by omega)
      exact lists_row b off len cap a0 _ w h (by omega) hc
  · exact lists_long a len cap _ w (by omega) (by unfold maxLen at hm; omega)

end Go.Proofs.Ytjlfacdmfcbjfaa
