/- The reference's Path, IsAncestor, Descendants, Children, Leaves. -/
import Derived.Test.YtdbkphkgjaecoaaTrD
import Derived.Test.YtdbkphkgjaecoaaEvB
import Derived.Test.YtdbkphkgjaecoaaSo
import Derived.Test.YtdbkphkgjaecoaaPas
set_option linter.unusedVariables false

set_option linter.unusedSimpArgs false
namespace Go.Proofs.Ytdbkphkgjaecoaa
open Go.RowKit

set_option maxRecDepth 100000

/-- The path from the root to a node. -/
def upAt (ns : List NdD) (i : Nat) : Nat := (((ns[i]?).map NdD.up).getD 0).toNat

def pathF (ns : List NdD) : Nat → Nat → List Int
  | 0, _ => []
  | f + 1, i => if i = 0 then [0] else pathF ns f (upAt ns i) ++ [(i : Int)]

def pathN (ns : List NdD) (i : Int) : List Int := if 0 ≤ i ∧ i < ns.length then pathF ns (i.toNat + 1) i.toNat else []

theorem TrOK.upAt {ns : List NdD} (h : TrOK ns) {i : Nat} (hi : i < ns.length) (h0 : 0 < i) : upAt ns i < i ∧ upAt ns i < ns.length ∧ ns[i].up = upAt ns i := by
  obtain ⟨u, hu, h1, h2, _⟩ := h.up i hi h0
  have e : Go.Proofs.Ytdbkphkgjaecoaa.upAt ns i = u := by simp [Go.Proofs.Ytdbkphkgjaecoaa.upAt, List.getElem?_eq_getElem hi, h2]
  rw [e]
  exact ⟨h1, hu, h2⟩

/-- Fuel beyond the index changes nothing. -/
theorem pathF_two {ns : List NdD} (h : TrOK ns) : ∀ i, i < ns.length → ∀ f g, i + 1 ≤ f → i + 1 ≤ g → pathF ns f i = pathF ns g i := by
  intro i
  induction i using Nat.strongRecOn with
  | ind i ih =>
    intro hi f g hf hg
    obtain ⟨f', rfl⟩ : ∃ f', f = f' + 1 := ⟨f - 1, by omega⟩
    obtain ⟨g', rfl⟩ : ∃ g', g = g' + 1 := ⟨g - 1, by omega⟩
    show (if i = 0 then [0] else pathF ns f' (upAt ns i) ++ [(i : Int)]) = (if i = 0 then [0] else pathF ns g' (upAt ns i) ++ [(i : Int)])
    by_cases h0 : i = 0
    · rw [if_pos h0, if_pos h0]
    · rw [if_neg h0, if_neg h0]
      obtain ⟨h1, h2, _⟩ := h.upAt hi (by omega)
      rw [ih _ h1 h2 f' g' (by omega) (by omega)]

theorem pathN_zero {ns : List NdD} (h : 0 < ns.length) : pathN ns (0 : Int) = [0] := by unfold pathN; rw [if_pos (by omega)]; rfl

theorem pathN_step {ns : List NdD} (h : TrOK ns) {i : Nat} (hi : i < ns.length) (h0 : 0 < i) : pathN ns (i : Int) = pathN ns (upAt ns i : Int) ++ [(i : Int)] := by
  obtain ⟨h1, h2, _⟩ := h.upAt hi h0
  unfold pathN
  rw [if_pos (by omega), if_pos (by omega)]
  show (if i = 0 then [0] else pathF ns i (upAt ns i) ++ [(i : Int)]) = _
  rw [if_neg (by omega), pathF_two h _ h2 i ((upAt ns i : Int).toNat + 1) (by omega) (by omega)]
  rfl

theorem pathN_out {ns : List NdD} {i : Int} (h : ¬ (0 ≤ i ∧ i < ns.length)) : pathN ns i = [] := by unfold pathN; rw [if_neg h]

theorem pathF_len (ns : List NdD) : ∀ f i, (pathF ns f i).length ≤ f
  | 0, _ => by simp [pathF]
  | f + 1, i => by
    have := pathF_len ns f (upAt ns i)
    show (if i = 0 then [0] else pathF ns f (upAt ns i) ++ [(i : Int)]).length ≤ _
    split
    · simp
    · simp; omega

theorem pathN_len (ns : List NdD) (i : Int) : (pathN ns i).length ≤ ns.length := by
  unfold pathN
  split
  · have := pathF_len ns (i.toNat + 1) i.toNat; omega
  · simp

/-- The nodes of a path: each is in the tree, and none is behind the last one. -/
theorem pathN_mem {ns : List NdD} (h : TrOK ns) : ∀ i : Nat, i < ns.length → ∀ x ∈ pathN ns (i : Int), 0 ≤ x ∧ x ≤ i := by
  intro i
  induction i using Nat.strongRecOn with
  | ind i ih =>
    intro hi x hx
    by_cases h0 : i = 0
    · subst h0
      rw [show ((0 : Nat) : Int) = 0 from rfl, pathN_zero h.pos] at hx
      rw [List.mem_singleton.1 hx]; omega
    · rw [pathN_step h hi (by omega)] at hx
      obtain ⟨h1, h2, _⟩ := h.upAt hi (by omega)
      rcases List.mem_append.1 hx with hm | hm
      · have := ih _ h1 h2 x hm; omega
      · rw [List.mem_singleton.1 hm]; omega

theorem pathN_rng {ns : List NdD} (h : TrOK ns) (i : Int) : ∀ x ∈ pathN ns i, 0 ≤ x ∧ x < ns.length := by
  intro x hx
  by_cases hi : 0 ≤ i ∧ i < ns.length
  · obtain ⟨k, rfl⟩ : ∃ k : Nat, i = k := ⟨i.toNat, by omega⟩
    have := pathN_mem h k (by omega) x hx; omega
  · rw [pathN_out hi] at hx; cases hx

theorem OwnK.lower {k : IntKind} {e : TypeId} {w : World} {B B' : Nat} {v : Value} {xs : List Int} (h : OwnK k e w B v xs) (hB : B' ≤ B) : OwnK k e w B' v xs := by
  refine ⟨h.1, ?_⟩
  rcases h.2 with h' | ⟨g, cap, cur, e', h2, h3⟩
  · exact .inl h'
  · exact .inr ⟨g, cap, cur, e', Nat.le_trans hB h2, h3⟩

/-- What Path promises. -/
def PathE (ns : List NdD) (i : Int) (w : World) (e : Ending) (w' : World) : Prop :=
  ∃ v', e = .returned v' ∧ OwnK .i64 3 w' w.heap.size v' (pathN ns i) ∧ Below w.heap.size w w'

set_option maxHeartbeats 8000000 in
theorem path_out (v : Value) (ns : List NdD) (i : Int) (w : World) (hN : NodesV w v ns) (hi : ¬ (0 ≤ i ∧ i < ns.length)) :
    Calls Try.prog 12 #[.agg #[v], .int .i64 i] w (PathE ns i w) := by
  have HIS := Lib.hid (fun u (hu : Below w.heap.size w u) => isn_any v ns i u (hN.call hu))
  have HD : Hid (decide (0 ≤ i ∧ i < (ns.length : Int)) = false) := decide_eq_false hi
  have S0 := Lib.hid (pas_new w #[v] 25)
  have hi1 : (Try.prog.info? 25).map (·.size) = some 1 := by kernel_rfl
  have HP := Lib.hid (pathN_out hi)
  clear hN hi
  go_enter Try.func12, Try.ntmps12
  go_wp2_with (first
    | ((with_reducible refine at_load (.tmp 2) ?_); refine wpList_load_g 25 (.tmp 2) rfl w.heap.size rfl #[v] _ S0.out.t Try.underlying25 rfl hi1 rfl ?_)
    | (go_at_call 29; refine (HIS.out _ S0.out.b).mono ?_; rintro e w1 ⟨rfl, hb1⟩; rw [HD.out]; have S1 := Lib.hid (S0.out.call hb1); clear hb1))
  go_ret
  exact ⟨_, rfl, by rw [HP.out]; exact OwnK.nil _ _ _ _, S1.out.b⟩

set_option maxHeartbeats 16000000 in
theorem path_in (ns : List NdD) (hok : TrOK ns) (hlen : ns.length ≤ 100000) : ∀ (i : Nat) (hi : i < ns.length) (v : Value) (w : World) (hN : NodesV w v ns),
    Calls Try.prog 12 #[.agg #[v], .int .i64 i] w (PathE ns i w) := by
  intro i
  induction i using Nat.strongRecOn with
  | ind i ih =>
    intro hi v w hN
    obtain ⟨a, cap, rfl, hmx⟩ := hN.shape
    unfold maxLen at hmx
    have HIS := Lib.hid (fun u (hu : Below w.heap.size w u) => isn_any _ ns i u (hN.call hu))
    have HD : Hid (decide (0 ≤ (i : Int) ∧ (i : Int) < (ns.length : Int)) = true) := decide_eq_true (by omega)
    have HN := Lib.hid hN
    have HOK := Lib.hid hok
    have HLM := Lib.hid hlen
    have HII := Lib.hid info_int
    have hi1 : (Try.prog.info? 25).map (·.size) = some 1 := by kernel_rfl
    obtain ⟨m, hm⟩ : ∃ m, Hid (ns.length = m) := ⟨_, Lib.hid rfl⟩
    rw [hm.out] at hmx HIS HN ⊢
    have S0 := Lib.hid (pas_new w #[.slice a m cap] 25)
    by_cases h0 : i = 0
    · subst h0
      have HP : Hid (pathN ns ((0 : Nat) : Int) = [0]) := pathN_zero hok.pos
      clear hN ih hi hok
      go_enter Try.func12, Try.ntmps12
      go_wp2_with (first
        | ((with_reducible refine at_load (.tmp 2) ?_); refine wpList_load_g 25 (.tmp 2) rfl w.heap.size rfl #[.slice a m cap] _ S0.out.t Try.underlying25 rfl hi1 rfl ?_)
        | (go_at_call 29; refine (HIS.out _ S0.out.b).mono ?_; rintro e w1 ⟨rfl, hb1⟩; rw [hm.out] at HD; rw [HD.out]; have S1 := Lib.hid (S0.out.call hb1); clear hb1))
      go_ret
      exact ⟨_, rfl, by rw [HP.out]; exact own_one _ _ _ S1.out.b.size, S1.out.b.alloc S1.out.b.size _⟩
    · have hz : ((i : Int) == 0) = false := by simp; omega
      obtain ⟨hu1, hu2, hu3⟩ := hok.upAt hi (by omega)
      have HP := Lib.hid (pathN_step hok hi (by omega))
      have HIH := Lib.hid (fun z (hz : NodesV z (.slice a ns.length cap) ns) => ih (upAt ns i) hu1 hu2 _ z hz)
      have HLE := Lib.hid (pathN_len ns (upAt ns i : Int))
      obtain ⟨b, off, rfl, hlm, hbb, hna, _⟩ := HN.out.elem hi
      have HUP := Lib.hid hna.up
      rw [hu3] at HUP
      obtain ⟨u, hu⟩ : ∃ u, upAt ns i = u := ⟨_, rfl⟩
      rw [hu] at HUP HIH HP HLE
      have hik : (i : Int) < m := by rw [← hm.out]; omega
      rw [hm.out] at HD hi HIH
      clear hN ih hok hlm hna hu1 hu2 hu3 hu h0
      go_enter Try.func12, Try.ntmps12
      go_wp2_with (first
        | ((with_reducible refine at_load (.tmp 2) ?_); refine wpList_load_g 25 (.tmp 2) rfl w.heap.size rfl #[.slice (some ⟨b, off, none⟩) m cap] _ S0.out.t Try.underlying25 rfl hi1 rfl ?_)
        | (go_at_call 29; refine (HIS.out _ S0.out.b).mono ?_; rintro e w1 ⟨rfl, hb1⟩; rw [HD.out]; have S1 := Lib.hid (S0.out.call hb1); clear hb1))
      have SD : Hid (PaS w #[.slice (some ⟨b, off, none⟩) m cap] w1.drew) := S1.out.call ⟨rfl, rfl, rfl, Nat.le_refl _, fun _ _ => rfl⟩
      refine wp_region_held_drew (S := fun z => PaS w #[.slice (some ⟨b, off, none⟩) m cap] z) (by kernel_rfl) (SD.out) (fun _ => ?_)
      (try simp only [Act.put, List.setIfInBounds_toArray, List.set_cons_zero, List.set_cons_succ])
      refine held_load (oi := ⟨some 12, _, _, _, _, _⟩) 0 rfl (by kernel_rfl) (by kernel_rfl) (by kernel_rfl) (fun _ _ _ _ h => h) rfl 25 (.tmp 2) rfl w.heap.size 0 rfl [.slice (some ⟨b, off, none⟩) m cap] _ (fun u' hu => hu.t.rng) Try.underlying25 rfl hi1 SD.out ?_
      (try simp only [Act.put, List.setIfInBounds_toArray, List.set_cons_zero, List.set_cons_succ])
      refine wpAnyH_take (i := 1) (oi := ⟨some 13, _, _, _, _, _⟩) (v := .pointer (some ⟨w.heap.size, 0, none⟩)) rfl (by kernel_rfl) (by kernel_rfl) (by kernel_rfl) (fun _ _ _ h => h) (Or.inl ⟨by rfl, fun wz hz => ?_⟩) SD.out ?_
      · clear hz; go_simp; first | done | with_reducible rfl | rfl
      (try simp only [Act.put, List.setIfInBounds_toArray, List.set_cons_zero, List.set_cons_succ])
      refine held_load1 (oi := ⟨some 14, _, _, _, _, _⟩) 2 rfl (by kernel_rfl) (by kernel_rfl) (by kernel_rfl) (fun _ _ _ _ h => h) rfl 23 (.tmp 13) rfl w.heap.size (0) rfl (.slice (some ⟨b, off, none⟩) m cap) _ (fun u' hu => hu.t.cell 0) Try.underlying23 rfl SD.out ?_
      (try simp only [Act.put, List.setIfInBounds_toArray, List.set_cons_zero, List.set_cons_succ])
      refine wpAnyH_take (i := 3) (oi := ⟨some 15, _, _, _, _, _⟩) (v := .int .i64 i) rfl (by kernel_rfl) (by kernel_rfl) (by kernel_rfl) (fun _ _ _ h => h) (Or.inl ⟨by rfl, fun wz hz => ?_⟩) SD.out ?_
      · clear hz; go_simp; first | done | with_reducible rfl | rfl
      (try simp only [Act.put, List.setIfInBounds_toArray, List.set_cons_zero, List.set_cons_succ])
      refine wpAnyH_take (i := 4) (oi := ⟨some 16, _, _, _, _, _⟩) (v := .pointer (some ⟨b, off + i * 240, none⟩)) rfl (by kernel_rfl) (by kernel_rfl) (by kernel_rfl) (fun _ _ _ h => h) (Or.inl ⟨by rfl, fun wz hz => ?_⟩) SD.out ?_
      · clear hz; go_simp; first | done | with_reducible rfl | rfl
      (try simp only [Act.put, List.setIfInBounds_toArray, List.set_cons_zero, List.set_cons_succ])
      refine wpAnyH_take (i := 5) (oi := ⟨some 17, _, _, _, _, _⟩) (v := .pointer (some ⟨b, off + i * 240 + 238, none⟩)) rfl (by kernel_rfl) (by kernel_rfl) (by kernel_rfl) (fun _ _ _ h => h) (Or.inl ⟨by rfl, fun wz hz => ?_⟩) SD.out ?_
      · clear hz; go_simp; first | done | with_reducible rfl | rfl
      (try simp only [Act.put, List.setIfInBounds_toArray, List.set_cons_zero, List.set_cons_succ])
      refine held_load1 (oi := ⟨some 18, _, _, _, _, _⟩) 6 rfl (by kernel_rfl) (by kernel_rfl) (by kernel_rfl) (fun _ _ _ _ h => h) rfl 3 (.tmp 17) rfl b (off + i * 240 + 238) rfl (.int .i64 (u : Int)) _ (fun u' hu => (hu.b.cell (p := ⟨b, off + i * 240 + 238, none⟩) hbb).trans HUP.out) Try.underlying3 rfl SD.out ?_
      (try simp only [Act.put, List.setIfInBounds_toArray, List.set_cons_zero, List.set_cons_succ])
      refine wpAnyH_take (i := 8) (oi := ⟨some 20, _, _, _, _, _⟩) (v := .int .i64 i) rfl (by kernel_rfl) (by kernel_rfl) (by kernel_rfl) (fun _ _ _ h => h) (Or.inl ⟨by rfl, fun wz hz => ?_⟩) SD.out ?_
      · clear hz; go_simp; first | done | with_reducible rfl | rfl
      (try simp only [Act.put, List.setIfInBounds_toArray, List.set_cons_zero, List.set_cons_succ])
      refine wpAnyH_ready (rs := [7, 9]) (by kernel_rfl) (by simp) ?_
      refine AllReadyH.cons (o := ⟨some 19, _, _, _, _, _⟩) rfl (fun K hK => ?_) (AllReadyH.cons (o := ⟨some 21, _, _, _, _, _⟩) rfl (fun K hK => ?_) AllReadyH.nil)
      · skip
        have HSZ : Hid (w1.drew.heap.size ≤ w1.drew.heap.size) := Nat.le_refl _
        go_simp
        refine (HIH.out w1.drew (HN.out.call SD.out.b)).mono ?_
        rintro e w3 ⟨v3, rfl, ho3, hb3⟩
        have HO3 := Lib.hid ho3
        have HB3 := Lib.hid hb3
        have S3 := Lib.hid (SD.out.call hb3)
        clear ho3 hb3
        refine hK.out _ _ (S3.out) (fun _ => ?_)
        clear hK K
        (try simp only [Act.put, List.setIfInBounds_toArray, List.set_cons_zero, List.set_cons_succ])
        refine wpAnyH_ready (rs := [9]) (by kernel_rfl) (by simp) ?_
        refine AllReadyH.cons (o := ⟨some 21, _, _, _, _, _⟩) rfl (fun K hK => ?_) AllReadyH.nil
        refine wp_buildSlice 22 1 _ rfl #[(0, .int .i64 i)] (by simp [Act.eval, Act.put]) _ (bs_int i w3) ?_
        have hal : Below w3.heap.size w3 (w3.alloc (.cells #[.int .i64 (i : Int)] 3)) := (Below.refl _ _).alloc (Nat.le_refl _) _
        have HO4 := Lib.hid (HO3.out.call hal)
        have S4 := Lib.hid (S3.out.call hal)
        have HN4 : Hid (Ints .i64 (w3.alloc (.cells #[.int .i64 (i : Int)] 3)) (.slice (some ⟨w3.heap.size, 0, none⟩) 1 1) [(i : Int)]) := one_ints _ _
        have HBM : Hid (w1.drew.heap.size ≤ (w3.alloc (.cells #[.int .i64 (i : Int)] 3)).heap.size) := by have := HB3.out.size; have := hal.size; show _ ≤ _; omega
        clear hal
        refine hK.out _ _ (S4.out) (fun _ => ?_)
        clear hK K
        (try simp only [Act.put, List.setIfInBounds_toArray, List.set_cons_zero, List.set_cons_succ])
        refine wpAnyH_ready (rs := [10]) (by kernel_rfl) (by simp) ?_
        refine AllReadyH.cons (o := ⟨some 22, _, _, _, _, _⟩) rfl (fun K hK => ?_) AllReadyH.nil
        refine (fun hgo => wp_appK HII.out (by omega) Try.underlying22 (.tmp 19) (.tmp 21) rfl w1.drew.heap.size v3 (pathN ns (u : Int)) rfl HO4.out (.slice (some ⟨w3.heap.size, 0, none⟩) 1 1) [(i : Int)] rfl HN4.out (by have := HLE.out; have := HLM.out; simp; omega) (by first | exact Nat.le_refl _ | exact HB3.out.size | exact HBM.out) hgo) ?_
        intro v8 w8 ho8 hg8 _
        rw [← HP.out] at ho8
        have HO8 := Lib.hid ho8
        have S8 := Lib.hid (S4.out.grown hg8 (fun j hj => by have := (HO4.out.lt j hj).1; have := SD.out.t.lt; have := HSZ.out; omega))
        clear ho8 hg8
        refine hK.out _ _ (S8.out) (fun _ => ?_)
        clear hK K
        (try simp only [Act.put, List.setIfInBounds_toArray, List.set_cons_zero, List.set_cons_succ])
        refine wpAnyH_ready (rs := [11]) (by kernel_rfl) (by simp) ?_
        refine AllReadyH.cons (o := ⟨some 4, _, _, _, _, _⟩) rfl (fun K hK => ?_) AllReadyH.nil
        go_simp
        refine hK.out _ _ (S8.out) (fun _ => ?_)
        clear hK K
        (try simp only [Act.put, List.setIfInBounds_toArray, List.set_cons_zero, List.set_cons_succ])
        refine wpAnyH_done (by kernel_rfl) ?_ _
        go_wp2_with fail
        go_ret
        exact ⟨_, rfl, OwnK.lower HO8.out (by have := SD.out.b.size; have := HSZ.out; omega), S8.out.b⟩
      · skip
        refine wp_buildSlice 22 1 _ rfl #[(0, .int .i64 i)] (by simp [Act.eval, Act.put]) _ (bs_int i w1.drew) ?_
        have hal : Below w1.drew.heap.size w1.drew (w1.drew.alloc (.cells #[.int .i64 (i : Int)] 3)) := (Below.refl _ _).alloc (Nat.le_refl _) _
        have S4 := Lib.hid (SD.out.call hal)
        have HN4 : Hid (Ints .i64 (w1.drew.alloc (.cells #[.int .i64 (i : Int)] 3)) (.slice (some ⟨w1.drew.heap.size, 0, none⟩) 1 1) [(i : Int)]) := one_ints _ _
        have HSZ := Lib.hid hal.size
        clear hal
        refine hK.out _ _ (S4.out) (fun _ => ?_)
        clear hK K
        (try simp only [Act.put, List.setIfInBounds_toArray, List.set_cons_zero, List.set_cons_succ])
        refine wpAnyH_ready (rs := [7]) (by kernel_rfl) (by simp) ?_
        refine AllReadyH.cons (o := ⟨some 19, _, _, _, _, _⟩) rfl (fun K hK => ?_) AllReadyH.nil
        go_simp
        refine (HIH.out (w1.drew.alloc (.cells #[.int .i64 (i : Int)] 3)) (HN.out.call S4.out.b)).mono ?_
        rintro e w3 ⟨v3, rfl, ho3, hb3⟩
        have HO3 := Lib.hid ho3
        have HB3 := Lib.hid hb3
        have S3 := Lib.hid (S4.out.call hb3)
        clear ho3 hb3
        have HN5 := Lib.hid (HN4.out.below HB3.out)
        have HBM : Hid ((w1.drew.alloc (.cells #[.int .i64 (i : Int)] 3)).heap.size ≤ w3.heap.size) := HB3.out.size
        refine hK.out _ _ (S3.out) (fun _ => ?_)
        clear hK K
        (try simp only [Act.put, List.setIfInBounds_toArray, List.set_cons_zero, List.set_cons_succ])
        refine wpAnyH_ready (rs := [10]) (by kernel_rfl) (by simp) ?_
        refine AllReadyH.cons (o := ⟨some 22, _, _, _, _, _⟩) rfl (fun K hK => ?_) AllReadyH.nil
        refine (fun hgo => wp_appK HII.out (by omega) Try.underlying22 (.tmp 19) (.tmp 21) rfl (w1.drew.alloc (.cells #[.int .i64 (i : Int)] 3)).heap.size v3 (pathN ns (u : Int)) rfl HO3.out (.slice (some ⟨w1.drew.heap.size, 0, none⟩) 1 1) [(i : Int)] rfl HN5.out (by have := HLE.out; have := HLM.out; simp; omega) (by first | exact Nat.le_refl _ | exact HB3.out.size | exact HBM.out) hgo) ?_
        intro v8 w8 ho8 hg8 _
        rw [← HP.out] at ho8
        have HO8 := Lib.hid ho8
        have S8 := Lib.hid (S3.out.grown hg8 (fun j hj => by have := (HO3.out.lt j hj).1; have := SD.out.t.lt; have := HSZ.out; omega))
        clear ho8 hg8
        refine hK.out _ _ (S8.out) (fun _ => ?_)
        clear hK K
        (try simp only [Act.put, List.setIfInBounds_toArray, List.set_cons_zero, List.set_cons_succ])
        refine wpAnyH_ready (rs := [11]) (by kernel_rfl) (by simp) ?_
        refine AllReadyH.cons (o := ⟨some 4, _, _, _, _, _⟩) rfl (fun K hK => ?_) AllReadyH.nil
        go_simp
        refine hK.out _ _ (S8.out) (fun _ => ?_)
        clear hK K
        (try simp only [Act.put, List.setIfInBounds_toArray, List.set_cons_zero, List.set_cons_succ])
        refine wpAnyH_done (by kernel_rfl) ?_ _
        go_wp2_with fail
        go_ret
        exact ⟨_, rfl, OwnK.lower HO8.out (by have := SD.out.b.size; have := HSZ.out; omega), S8.out.b⟩
end Go.Proofs.Ytdbkphkgjaecoaa
