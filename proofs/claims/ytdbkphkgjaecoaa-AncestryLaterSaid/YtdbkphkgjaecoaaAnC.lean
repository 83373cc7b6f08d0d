/- ancestry's meet, Common. (Written by gen/ana-gen.py.) -/
import Derived.Test.YtdbkphkgjaecoaaAnA
set_option linter.unusedVariables false

set_option linter.unusedSimpArgs false
namespace Go.Proofs.Ytdbkphkgjaecoaa
open Go.RowKit

set_option maxRecDepth 100000
/-! ### meet -/

/-- Both nodes have the same common ancestors as at the start. -/
def MeI (w : World) (T : Array Value) (ns : List NdD) (A : Int → Prop) (av bv : Value) (wr : World) : Prop :=
  ∃ i j : Nat, i < ns.length ∧ j < ns.length ∧ av = .int .i64 i ∧ bv = .int .i64 j ∧ (∀ x, (x ∈ pathN ns (i : Int) ∧ x ∈ pathN ns (j : Int)) ↔ A x) ∧ PaS w T wr

/-- What meet promises. -/
def MeE (ns : List NdD) (A : Int → Prop) (w : World) (e : Ending) (w' : World) : Prop :=
  ∃ c : Nat, e = .returned (.int .i64 c) ∧ c < ns.length ∧ (∀ x, x ∈ pathN ns (c : Int) ↔ A x) ∧ Below w.heap.size w w'

set_option maxHeartbeats 8000000 in
theorem anme_any (ns : List NdD) (hok : TrOK ns) (p q : Nat) (hp : p < ns.length) (hq : q < ns.length) (v : Value) (w : World) (hN : NodesV w v ns) :
    Calls Try.prog 32 #[.agg #[v], .int .i64 (p : Int), .int .i64 (q : Int)] w (MeE ns (fun x => x ∈ pathN ns (p : Int) ∧ x ∈ pathN ns (q : Int)) w) := by
  obtain ⟨a, cap, rfl, hmx⟩ := hN.shape
  unfold maxLen at hmx
  have HIS := Lib.hid (fun (k : Int) u (hu : Below w.heap.size w u) => ani_any _ ns k u (hN.call hu))
  have HN := Lib.hid hN
  have HOK := Lib.hid hok
  have hi1 : (Try.prog.info? 25).map (·.size) = some 1 := by kernel_rfl
  obtain ⟨m, hm⟩ : ∃ m, Hid (ns.length = m) := ⟨_, Lib.hid rfl⟩
  rw [hm.out] at hmx HIS HN ⊢
  have S0 := Lib.hid (pas_new w #[.slice a m cap] 25)
  obtain ⟨A, hA⟩ : ∃ A : Int → Prop, (fun x => x ∈ pathN ns (p : Int) ∧ x ∈ pathN ns (q : Int)) = A := ⟨_, rfl⟩
  rw [hA]
  have HA : Hid (∀ x, (x ∈ pathN ns (p : Int) ∧ x ∈ pathN ns (q : Int)) ↔ A x) := fun x => by rw [← hA]
  clear hN hok hA HIS
  go_enter Try.func32, Try.ntmps32
  go_wp2_with fail
  go_loopw [1, 2] (fun av bv wr => MeI w #[.slice a m cap] ns A av bv wr) (fun av bv _ => (intOf av).toNat + (intOf bv).toNat)
  case atStart => exact ⟨p, q, hp, hq, rfl, rfl, HA.out, S0.out⟩
  case round =>
    obtain ⟨i, j, hi, hj, rfl, rfl, hxx, hs⟩ := hrel
    have S3 := Lib.hid hs
    have HXX := Lib.hid hxx
    clear hs hxx
    by_cases hij : i = j
    · subst hij
      have HC : Hid (∀ x, x ∈ pathN ns (i : Int) ↔ A x) := fun x => by rw [← HXX.out x]; exact ⟨fun h => ⟨h, h⟩, fun h => h.1⟩
      go_wp2_with fail
      go_ret
      exact ⟨i, rfl, hi, HC.out, S3.out.b⟩
    have hne : ((i : Int) != (j : Int)) = true := by simp; omega
    have hij0 : Hid (i ≠ j) := hij
    clear hij
    by_cases hgt : (j : Int) < (i : Int)
    · obtain ⟨k, rfl⟩ : ∃ k : Nat, i = k := ⟨i, rfl⟩
      have hkm0 : (i : Int) < m := by rw [← hm.out]; omega
      have hi0 : 0 < i := by omega
      have hin : i < ns.length := by omega
      obtain ⟨b, off, rfl, hlm, hbb, hna, _⟩ := HN.out.elem hin
      have HUP := Lib.hid hna.up
      have HSL := Lib.hid hna.bk.slot
      obtain ⟨hu0, hu1, hupp⟩ := up_path HOK.out hin
      have hun := HOK.out.upAt hin hi0
      have HNX : Hid (∀ x, (x ∈ pathN ns ns[i].up ∧ x ∈ pathN ns (j : Int)) ↔ A x) := fun x => by
        rw [← HXX.out x, path_up HOK.out hin]
        exact ⟨fun h => ⟨.inl h.1, h.2⟩, fun h => ⟨h.1.resolve_right (fun e => by have := path_le HOK.out h.2; omega), h.2⟩⟩
      obtain ⟨u, hu⟩ : ∃ u, ns[i].up = u := ⟨_, rfl⟩
      obtain ⟨sl, hsl⟩ : ∃ sl, ns[i].b.slot = sl := ⟨_, rfl⟩
      rw [hu] at HUP HNX hu0 hu1 hun
      obtain ⟨z, rfl⟩ : ∃ z : Nat, u = z := ⟨upAt ns i, hun.2.2⟩
      have hzl : z < ns.length := by omega
      have HU2 := Lib.hid ((S3.out.b.cell (p := ⟨b, off + i * 240 + 238, none⟩) hbb).trans HUP.out)
      clear hlm hna hu hsl hupp hun HSL
      go_wp2_with (first
          | ((with_reducible refine at_load (.tmp 13) ?_); refine wpList_load_1 23 (.tmp 13) rfl w.heap.size 0 (.slice (some ⟨b, off, none⟩) m cap) (S3.out.t.cell 0) rfl _ Try.underlying23 rfl rfl ?_)
          | ((with_reducible refine at_load (.tmp 17) ?_); refine wpList_load_1 3 (.tmp 17) rfl b (off + i * 240 + 238) (.int .i64 (z : Int)) HU2.out rfl _ Try.underlying3 rfl rfl ?_))
      go_roundw
      case rel => exact ⟨z, j, hzl, hj, by go_num, rfl, HNX.out, S3.out⟩
      case measure => simp [intOf]; omega
    · have hgt' : ((j : Int) < (i : Int)) = False := eq_false hgt
      have hji : i < j := by have := hij0.out; omega
      have hkm0 : (j : Int) < m := by rw [← hm.out]; omega
      have hj0 : 0 < j := by omega
      clear hgt
      have hjn : j < ns.length := by omega
      obtain ⟨b, off, rfl, hlm, hbb, hna, _⟩ := HN.out.elem hjn
      have HUP := Lib.hid hna.up
      have HSL := Lib.hid hna.bk.slot
      obtain ⟨hu0, hu1, hupp⟩ := up_path HOK.out hjn
      have hun := HOK.out.upAt hjn hj0
      have HNX : Hid (∀ x, (x ∈ pathN ns (i : Int) ∧ x ∈ pathN ns ns[j].up) ↔ A x) := fun x => by
        rw [← HXX.out x, path_up HOK.out hjn]
        exact ⟨fun h => ⟨h.1, .inl h.2⟩, fun h => ⟨h.1, h.2.resolve_right (fun e => by have := path_le HOK.out h.1; omega)⟩⟩
      obtain ⟨u, hu⟩ : ∃ u, ns[j].up = u := ⟨_, rfl⟩
      obtain ⟨sl, hsl⟩ : ∃ sl, ns[j].b.slot = sl := ⟨_, rfl⟩
      rw [hu] at HUP HNX hu0 hu1 hun
      obtain ⟨z, rfl⟩ : ∃ z : Nat, u = z := ⟨upAt ns j, hun.2.2⟩
      have hzl : z < ns.length := by omega
      have HU2 := Lib.hid ((S3.out.b.cell (p := ⟨b, off + j * 240 + 238, none⟩) hbb).trans HUP.out)
      clear hlm hna hu hsl hupp hun HSL
      go_wp2_with (first
          | ((with_reducible refine at_load (.tmp 19) ?_); refine wpList_load_1 23 (.tmp 19) rfl w.heap.size 0 (.slice (some ⟨b, off, none⟩) m cap) (S3.out.t.cell 0) rfl _ Try.underlying23 rfl rfl ?_)
          | ((with_reducible refine at_load (.tmp 23) ?_); refine wpList_load_1 3 (.tmp 23) rfl b (off + j * 240 + 238) (.int .i64 (z : Int)) HU2.out rfl _ Try.underlying3 rfl rfl ?_))
      go_roundw
      case rel => exact ⟨i, z, hi, hzl, rfl, by go_num, HNX.out, S3.out⟩
      case measure => simp [intOf]; omega
/-! ### Common -/

def CmP (ns : List NdD) (l : List Int) (k : Nat) (cv : Int) : Prop :=
  (k = 0 ∧ cv = -1) ∨ (0 < k ∧ ∃ c : Nat, cv = c ∧ c < ns.length ∧ ∀ x, x ∈ pathN ns (c : Int) ↔ ∀ y ∈ l.take k, x ∈ pathN ns y)

def CmI (w : World) (T : Array Value) (ns : List NdD) (l : List Int) (cv kv : Value) (wr : World) : Prop :=
  ∃ (k : Nat) (c : Int), k ≤ l.length ∧ kv = .int .i64 k ∧ cv = .int .i64 c ∧ CmP ns l k c ∧ PaS w T wr

theorem CmP.first {ns : List NdD} {l : List Int} (hl : 0 < l.length) {z c : Nat} (hz : l.getD 0 0 = z) (hc : c < ns.length) (h : ∀ x, x ∈ pathN ns (c : Int) ↔ (x ∈ pathN ns (z : Int) ∧ x ∈ pathN ns (z : Int))) : CmP ns l 1 c := by
  refine .inr ⟨by omega, c, rfl, hc, fun x => ?_⟩
  rw [h x]
  constructor
  · rintro ⟨h1, _⟩ y hy
    rcases (mem_take_succ (k := 0) hl).1 hy with h2 | h2
    · simp at h2
    · rw [h2, hz]; exact h1
  · intro h1
    have := h1 _ ((mem_take_succ (k := 0) hl).2 (.inr rfl))
    rw [hz] at this
    exact ⟨this, this⟩

theorem CmP.next {ns : List NdD} {l : List Int} {k : Nat} (hl : k < l.length) {z c p : Nat} (hp : ∀ x, x ∈ pathN ns (p : Int) ↔ ∀ y ∈ l.take k, x ∈ pathN ns y) (hz : l.getD k 0 = z) (hc : c < ns.length) (h : ∀ x, x ∈ pathN ns (c : Int) ↔ (x ∈ pathN ns (p : Int) ∧ x ∈ pathN ns (z : Int))) : CmP ns l (k + 1) c := by
  refine .inr ⟨by omega, c, rfl, hc, fun x => ?_⟩
  rw [h x, hp x]
  constructor
  · rintro ⟨h1, h2⟩ y hy
    rcases (mem_take_succ hl).1 hy with h3 | h3
    · exact h1 y h3
    · rw [h3, hz]; exact h2
  · intro h1
    refine ⟨fun y hy => h1 y ((mem_take_succ hl).2 (.inl hy)), ?_⟩
    have := h1 _ ((mem_take_succ hl).2 (.inr rfl))
    rwa [hz] at this

theorem CmP.last {ns : List NdD} (hok : TrOK ns) {l : List Int} {c : Int} (h : CmP ns l l.length c) : comN ns l = c := by
  rcases h with ⟨h1, rfl⟩ | ⟨h1, c, rfl, hc, hx⟩
  · rw [List.eq_nil_of_length_eq_zero h1]; exact comN_nil ns
  · rw [List.take_length] at hx
    exact comN_of hok h1 hc hx

set_option maxHeartbeats 8000000 in
theorem anco_any (ns : List NdD) (hok : TrOK ns) (l : List Int) (v lv : Value) (w : World) (hN : NodesV w v ns) (hI : IntsV w lv l) :
    Calls Try.prog 22 #[.agg #[v], lv] w fun e w' => e = .returned (.int .i64 (comN ns l)) ∧ Below w.heap.size w w' := by
  obtain ⟨la, n, lc, rfl⟩ := ints_shape' hI.1
  have HI := Lib.hid hI
  have hln := hI.len
  have hnx := hln.2
  unfold maxLen at hnx
  have HLN : Hid (l.length = n) := hln.1
  obtain ⟨a, cap, rfl, hmx⟩ := hN.shape
  unfold maxLen at hmx
  have HIS := Lib.hid (fun (k : Int) u (hu : Below w.heap.size w u) => ani_any _ ns k u (hN.call hu))
  have HN := Lib.hid hN
  have HOK := Lib.hid hok
  have hi1 : (Try.prog.info? 25).map (·.size) = some 1 := by kernel_rfl
  obtain ⟨m, hm⟩ : ∃ m, Hid (ns.length = m) := ⟨_, Lib.hid rfl⟩
  rw [hm.out] at hmx HIS HN ⊢
  have S0 := Lib.hid (pas_new w #[.slice a m cap] 25)
  have HME := Lib.hid (fun (p q : Nat) (hp : p < ns.length) (hq : q < ns.length) u (hu : Below w.heap.size w u) => anme_any ns hok p q hp hq _ u (hN.call hu))
  unfold MeE at HME
  rw [hm.out] at HME
  obtain ⟨r, hr⟩ : ∃ r, Hid (comN ns l = r) := ⟨_, Lib.hid rfl⟩
  rw [hr.out]
  clear hN hI hln hok
  go_enter Try.func22, Try.ntmps22
  go_wp2_with fail
  go_loopw [5, 10] (fun cv kv wr => CmI w #[.slice a m cap] ns l cv kv wr) (fun _ kv _ => n - (intOf kv).toNat)
  case atStart => exact ⟨0, -1, by omega, rfl, rfl, .inl ⟨rfl, rfl⟩, S0.out⟩
  case round =>
    obtain ⟨k, c, hk, rfl, rfl, hc, hs⟩ := hrel
    have S1 := Lib.hid hs
    have HC := Lib.hid hc
    rw [HLN.out] at hk
    clear hs hc
    by_cases hlt : k < n
    case neg =>
      obtain rfl : k = n := by omega
      have HQ : Hid (r = c) := by show r = c; rw [← hr.out]; exact CmP.last HOK.out (by rw [HLN.out]; exact HC.out)
      go_wp2_with fail
      go_ret
      exact ⟨by rw [HQ.out]; rfl, S1.out.b⟩
    have hlt' : (k : Int) < n := by omega
    have hkl : k < l.length := by rw [HLN.out]; exact hlt
    obtain ⟨pb, po, rfl, hpb, hce⟩ := HI.out.at hkl
    have HMEM := Lib.hid (getD_mem hkl)
    obtain ⟨y, hy⟩ : ∃ y, l.getD k 0 = y := ⟨_, rfl⟩
    have HY := Lib.hid hy
    rw [hy] at hce HMEM
    have HCE := Lib.hid ((S1.out.b.cell (p := ⟨pb, po + k, none⟩) hpb).trans hce)
    clear hy hce
    by_cases hin : 0 ≤ y ∧ y < m
    case neg =>
      have HD : Hid (decide (0 ≤ y ∧ y < (m : Int)) = false) := decide_eq_false hin
      have HQ : Hid (r = -1) := by show r = -1; rw [← hr.out]; exact comN_bad HMEM.out (by rw [hm.out]; exact hin)
      clear hin
      go_wp2_with (first
        | ((with_reducible refine at_load (.tmp 13) ?_); refine wpList_load_1 3 (.tmp 13) rfl pb (po + k) (.int .i64 y) HCE.out rfl _ Try.underlying3 rfl rfl ?_)
        | ((with_reducible refine at_load (.tmp 2) ?_); refine wpList_load_g 25 (.tmp 2) rfl w.heap.size rfl #[.slice a m cap] _ S1.out.t Try.underlying25 rfl hi1 rfl ?_)
        | (go_at_call 30; refine (HIS.out y _ S1.out.b).mono ?_; rintro e w2 ⟨rfl, hb⟩; rw [HD.out]; have S2 := Lib.hid (S1.out.call hb); clear hb))
      go_ret
      exact ⟨by rw [HQ.out]; rfl, S2.out.b⟩
    have HD : Hid (decide (0 ≤ y ∧ y < (m : Int)) = true) := decide_eq_true hin
    obtain ⟨z, rfl⟩ : ∃ z : Nat, y = z := ⟨y.toNat, by omega⟩
    have hzl : z < ns.length := by rw [hm.out]; omega
    clear hin
    by_cases h0 : k = 0
    · subst h0
      have HM1 := Lib.hid (fun u hu => HME.out z z (by rw [← hm.out]; exact hzl) (by rw [← hm.out]; exact hzl) u hu)
      have HF := Lib.hid (fun (c : Nat) hc hx => CmP.first (ns := ns) (c := c) hkl HY.out hc hx)
      go_wp2_with (first
        | ((with_reducible refine at_load (.tmp 13) ?_); refine wpList_load_1 3 (.tmp 13) rfl pb (po + 0) (.int .i64 (z : Int)) HCE.out rfl _ Try.underlying3 rfl rfl ?_)
        | ((with_reducible refine at_load (.tmp 2) ?_); refine wpList_load_g 25 (.tmp 2) rfl w.heap.size rfl #[.slice a m cap] _ S2.out.t Try.underlying25 rfl hi1 rfl ?_)
        | ((with_reducible refine at_load (.tmp 2) ?_); refine wpList_load_g 25 (.tmp 2) rfl w.heap.size rfl #[.slice a m cap] _ S1.out.t Try.underlying25 rfl hi1 rfl ?_)
        | (go_at_call 30; refine (HIS.out (z : Int) _ S1.out.b).mono ?_; rintro e w2 ⟨rfl, hb⟩; rw [HD.out]; have S2 := Lib.hid (S1.out.call hb); clear hb)
        | (go_at_call 32; refine (HM1.out _ S2.out.b).mono ?_; rintro e w3 ⟨c3, rfl, hc3, hx3, hb⟩; have HC3 := Lib.hid (HF.out c3 (by rw [hm.out]; exact hc3) hx3); have S3 := Lib.hid (S2.out.call hb); clear hb hx3))
      go_roundw
      case rel => exact ⟨1, c3, by omega, by go_num, rfl, HC3.out, S3.out⟩
      case measure => simp [intOf]; omega
    · obtain ⟨p, hpv, hpl, hpx⟩ := HC.out.resolve_left (fun h => h0 h.1) |>.2
      subst hpv
      have hkz : ((k : Int) == 0) = false := by simp; omega
      have HM1 := Lib.hid (fun u hu => HME.out p z (by rw [← hm.out]; exact hpl) (by rw [← hm.out]; exact hzl) u hu)
      have HF := Lib.hid (fun (c : Nat) hc hx => CmP.next (ns := ns) (c := c) hkl hpx HY.out hc hx)
      clear h0 hpx
      go_wp2_with (first
        | ((with_reducible refine at_load (.tmp 13) ?_); refine wpList_load_1 3 (.tmp 13) rfl pb (po + k) (.int .i64 (z : Int)) HCE.out rfl _ Try.underlying3 rfl rfl ?_)
        | ((with_reducible refine at_load (.tmp 2) ?_); refine wpList_load_g 25 (.tmp 2) rfl w.heap.size rfl #[.slice a m cap] _ S2.out.t Try.underlying25 rfl hi1 rfl ?_)
        | ((with_reducible refine at_load (.tmp 2) ?_); refine wpList_load_g 25 (.tmp 2) rfl w.heap.size rfl #[.slice a m cap] _ S1.out.t Try.underlying25 rfl hi1 rfl ?_)
        | (go_at_call 30; refine (HIS.out (z : Int) _ S1.out.b).mono ?_; rintro e w2 ⟨rfl, hb⟩; rw [HD.out]; have S2 := Lib.hid (S1.out.call hb); clear hb)
        | (go_at_call 32; refine (HM1.out _ S2.out.b).mono ?_; rintro e w3 ⟨c3, rfl, hc3, hx3, hb⟩; have HC3 := Lib.hid (HF.out c3 (by rw [hm.out]; exact hc3) hx3); have S3 := Lib.hid (S2.out.call hb); clear hb hx3))
      go_roundw
      case rel => exact ⟨k + 1, c3, by omega, by go_num, rfl, HC3.out, S3.out⟩
      case measure => simp [intOf]; omega
end Go.Proofs.Ytdbkphkgjaecoaa
