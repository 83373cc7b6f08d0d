/- The base's Tree: built trees are valid and closed. -/
import Derived.Test.YtdbkphkgjaecoaaTrC
import Derived.Test.YtdbkphkgjaecoaaTrD
import Derived.Test.YtdbkphkgjaecoaaOwn2
import Derived.Deep.CutRange
set_option linter.unusedVariables false

set_option linter.unusedSimpArgs false
namespace Go.Proofs.Ytdbkphkgjaecoaa
open Go.RowKit

set_option maxRecDepth 100000

/-- A block of which only these fields are set. -/
def bk4 (slot : Int) (root parent payload : List Int) : BkD := ⟨⟨0, zeroR⟩, ⟨0, zeroR⟩, slot, root, parent, payload, 0, 0, ⟨0, zeroR⟩, ⟨0, zeroR⟩, false⟩

theorem bk4_ok {slot : Int} {root parent payload : List Int} (h1 : 0 ≤ slot ∧ slot ≤ 18446744073709551615) (h2 : IsBytes 32 root) (h3 : IsBytes 32 parent) (h4 : IsBytes 32 payload) : (bk4 slot root parent payload).ok :=
  ⟨⟨by show (0 : Int) ≤ 0; omega, by show (0 : Int) ≤ _; omega, zeroR_is⟩, ⟨by show (0 : Int) ≤ 0; omega, by show (0 : Int) ≤ _; omega, zeroR_is⟩, h1, h2, h3, h4, W256.zero, W256.zero, ⟨by show (0 : Int) ≤ 0; omega, by show (0 : Int) ≤ _; omega, zeroR_is⟩, ⟨by show (0 : Int) ≤ 0; omega, by show (0 : Int) ≤ _; omega, zeroR_is⟩⟩

def zeBk10 : List (List Value) := [(.int .u64 0 :: bytesL zeroR) ++ (.int .u64 0 :: bytesL zeroR), [.int .u64 0], bytesL zeroR, bytesL zeroR, bytesL zeroR, List.replicate 4 (.int .u64 0), List.replicate 4 (.int .u64 0), .int .u64 0 :: bytesL zeroR, .int .u64 0 :: bytesL zeroR, [.bool false]]

theorem zeBk_hz (w : World) : (zeroValue 49).run Try.prog w = .ok (.agg (flatP zeBk10)) w := by kernel_rfl

theorem zeBk_pl (w : World) : ∃ fields, Try.prog.underlying 49 = some (.struct fields) ∧ Sem.run Try.prog (fields.mapM fun f => do pure (f.offset, ← sizeOf f.type)) w = .ok #[(0, 66), (66, 1), (67, 32), (99, 32), (131, 32), (163, 4), (167, 4), (171, 33), (204, 33), (237, 1)] w :=
  ⟨_, Try.underlying49, by kernel_rfl⟩

theorem zeBk_off : offP zeBk10 2 = 67 ∧ offP zeBk10 4 = 131 := by constructor <;> rfl

/-- The block of the root: root and payload. -/
theorem build_b0 {r p : List Int} (hr : IsBytes 32 r) (hp : IsBytes 32 p) (u : World) : (Instr.build 49 #[(2, .agg (bytesL r).toArray), (4, .agg (bytesL p).toArray)]).run Try.prog u = .ok (.agg (flatP (bk4 0 r zeroR p).parts)) u := by
  have hl := bytesL_len hr
  have hl2 := bytesL_len hp
  refine build_struct (zero := flatP zeBk10) zeBk_hz Try.underlying49 (places := #[(0, 66), (66, 1), (67, 32), (99, 32), (131, 32), (163, 4), (167, 4), (171, 33), (204, 33), (237, 1)]) (fun w => by kernel_rfl) ?_ u
  show Instr.fill _ (flatP zeBk10) [(2, .agg (bytesL r).toArray), (4, .agg (bytesL p).toArray)] = _
  rw [fill_part (i := 2) (o := 67) 2 (bytesL zeroR) (bytesL r) rfl rfl (by rw [hl]; rfl) rfl (by rw [hl]; rfl), fill_part (i := 4) (o := 131) 4 (bytesL zeroR) (bytesL p) rfl rfl (by rw [hl2]; rfl) (by simp [zeBk10, offP, hl, bytesL_len zeroR_is]) (by rw [hl2]; rfl)]
  unfold Instr.fill
  simp [flatP, zeBk10, bk4, BkD.parts, CpD.cells, wideL, l0, l1, l2, l3, List.replicate]

/-- .. of another node. -/
theorem build_b1 {s : Int} {r q p : List Int} (hr : IsBytes 32 r) (hq : IsBytes 32 q) (hp : IsBytes 32 p) (u : World) : (Instr.build 49 #[(2, .agg (bytesL r).toArray), (3, .agg (bytesL q).toArray), (1, .int .u64 s), (4, .agg (bytesL p).toArray)]).run Try.prog u = .ok (.agg (flatP (bk4 s r q p).parts)) u := by
  have hl := bytesL_len hr
  have hl1 := bytesL_len hq
  have hl2 := bytesL_len hp
  refine build_struct (zero := flatP zeBk10) zeBk_hz Try.underlying49 (places := #[(0, 66), (66, 1), (67, 32), (99, 32), (131, 32), (163, 4), (167, 4), (171, 33), (204, 33), (237, 1)]) (fun w => by kernel_rfl) ?_ u
  show Instr.fill _ (flatP zeBk10) [(2, .agg (bytesL r).toArray), (3, .agg (bytesL q).toArray), (1, .int .u64 s), (4, .agg (bytesL p).toArray)] = _
  rw [fill_part (i := 2) (o := 67) 2 (bytesL zeroR) (bytesL r) rfl rfl (by rw [hl]; rfl) rfl (by rw [hl]; rfl), fill_part (i := 3) (o := 99) 3 (bytesL zeroR) (bytesL q) rfl rfl (by rw [hl1]; rfl) (by simp [zeBk10, offP, hl, bytesL_len zeroR_is]) (by rw [hl1]; rfl), fill_part (i := 1) (o := 66) 1 [.int .u64 0] [.int .u64 s] rfl rfl rfl rfl rfl, fill_part (i := 4) (o := 131) 4 (bytesL zeroR) (bytesL p) rfl rfl (by rw [hl2]; rfl) (by simp [zeBk10, offP, hl, hl1, bytesL_len zeroR_is]) (by rw [hl2]; rfl)]
  unfold Instr.fill
  simp [flatP, zeBk10, bk4, BkD.parts, CpD.cells, wideL, l0, l1, l2, l3, List.replicate]

/-- What Tree gives. -/
def TreeE (w : World) (e : Ending) (w' : World) : Prop :=
  ∃ v ns, e = .returned (.agg #[v]) ∧ NodesV w' v ns ∧ CapOK v ∧ TrOK ns ∧ ns.length ≤ 9 ∧ Below w.heap.size w w'

/-- The loop's relation. -/
def TreeI (w : World) (B c : Nat) (i : Value) (wr : World) : Prop :=
  ∃ (n : Nat) (ns : List NdD) (s : Value), i = .int .i64 n ∧ 1 ≤ n ∧ n ≤ 1 + c ∧ ns.length = n ∧ TrOK ns ∧ TrV w w.heap.size B s ns wr

/-- .. and the node that was picked, in block bp. -/
def TrQ (w : World) (B bp : Nat) (s : Value) (ns : List NdD) (u : World) : Prop :=
  ∃ (q : Nat) (hq : q < ns.length), TrV w w.heap.size B s ns u ∧ Blk u bp ns[q].cells.toArray

/-- .. and the new block, in block bq. -/
def TrB (w : World) (B bp bq : Nat) (s : Value) (ns : List NdD) (d : NdD) (u : World) : Prop :=
  ∃ bd : BkD, bd.ok ∧ bd.parent = d.b.root ∧ TrV w w.heap.size B s ns u ∧ Blk u bp d.cells.toArray ∧ Blk u bq (flatP bd.parts)

theorem BkD.off5 {x : BkD} (h : x.ok) : offP x.parts 5 = 131 := by
  obtain ⟨h1, h2, _, h3, h4, h5, _, _, h6, h7⟩ := h
  simp [BkD.parts, offP, CpD.len h1, CpD.len h2, bytesL_len h3, bytesL_len h4]

theorem TrB.call {w u u' : World} {B bp bq : Nat} {s : Value} {ns : List NdD} {d : NdD} (h : TrB w B bp bq s ns d u) (hb : Below u.heap.size u u') : TrB w B bp bq s ns d u' := by
  obtain ⟨bd, h1, h2, h3, h4, h5⟩ := h
  exact ⟨bd, h1, h2, h3.call hb, h4.call hb, h5.call hb⟩

/-- .. and the status. -/
def TrS (w : World) (B bp bq : Nat) (s : Value) (ns : List NdD) (d : NdD) (s8 : Value) (u : World) : Prop :=
  ∃ st : Int, s8 = .int .i64 st ∧ (0 ≤ st ∧ st ≤ 2) ∧ (st = 1 → d.st = 1) ∧ (d.st = 2 → st = 2) ∧ TrB w B bp bq s ns d u

theorem tmod_nat (a b : Nat) : Int.tmod (a : Int) (b : Int) = ((a % b : Nat) : Int) := by rw [Int.tmod_eq_emod_of_nonneg (by omega)]; rfl

set_option maxHeartbeats 16000000 in
theorem tree_any (v : Value) (l : List Int) (w : World) (hl : IntsV w v l) : Calls Try.prog 9 #[v] w (TreeE w) := by
  have HRS := Lib.hid root_some
  have HA0 : Hid (∀ u, Below w.heap.size w u → Calls Try.prog 26 #[v, .int .i64 0] u fun e w' => (∃ k : Nat, k ≤ 20000000 ∧ e = .returned (.int .i64 k)) ∧ Below u.heap.size u w') := fun u hu => at_any v l 0 u (hl.below hu) (by omega)
  have HA1 : Hid (∀ u, Below w.heap.size w u → Calls Try.prog 26 #[v, .int .i64 1] u fun e w' => (∃ k : Nat, k ≤ 20000000 ∧ e = .returned (.int .i64 k)) ∧ Below u.heap.size u w') := fun u hu => at_any v l 1 u (hl.below hu) (by omega)
  obtain ⟨m2, hm2⟩ : ∃ m, atN l 2 = m := ⟨_, rfl⟩
  have HA2 : Hid (∀ u, Below w.heap.size w u → Calls Try.prog 26 #[v, .int .i64 2] u fun e w' => e = .returned (.int .i64 m2) ∧ Below u.heap.size u w') := fun u hu => by rw [← hm2]; exact at_val v l 2 u (hl.below hu) (by omega)
  have HAK : Hid (∀ (n : Nat) u, n ≤ 1000 → Below w.heap.size w u → Calls Try.prog 26 #[v, .int .i64 (2 + (n : Int))] u fun e w' => (∃ k : Nat, k ≤ 20000000 ∧ e = .returned (.int .i64 k)) ∧ Below u.heap.size u w') := fun n u hn hu => by
    have h := at_any v l (2 + n) u (hl.below hu) (by omega)
    rw [show ((2 + n : Nat) : Int) = 2 + (n : Int) by omega] at h
    exact h
  have ht9 : (m2 : Int) % 9 = ((m2 % 9 : Nat) : Int) := by omega
  have hc8 : m2 % 9 ≤ 8 := by omega
  obtain ⟨c, hc⟩ : ∃ c, m2 % 9 = c := ⟨_, rfl⟩
  rw [hc] at ht9 hc8
  have hi1 : (Try.prog.info? 25).map (·.size) = some 1 := by kernel_rfl
  obtain ⟨hz1, hst1⟩ := zero_array (P := Try.prog) (t := 25) (n := 1) #[.slice none 0 0] (by kernel_rfl) rfl (by kernel_rfl)
  obtain ⟨ZN, hZN⟩ : ∃ Z, flatP (zeBkP ++ [[.int .i64 0], [.int .i64 0]]) = Z := ⟨_, rfl⟩
  have hszN : ZN.size = 240 := by rw [← hZN]; rfl
  obtain ⟨hz240, hst240⟩ := zero_array (P := Try.prog) (t := 51) (n := 240) ZN (by rw [← hZN]; kernel_rfl) hszN (by rw [← hZN]; kernel_rfl)
  obtain ⟨ZB, hZB⟩ : ∃ Z, flatP zeBk10 = Z := ⟨_, rfl⟩
  have hszB : ZB.size = 238 := by rw [← hZB]; rfl
  obtain ⟨hz238, hst238⟩ := zero_array (P := Try.prog) (t := 49) (n := 238) ZB (by rw [← hZB]; kernel_rfl) hszB (by rw [← hZB]; kernel_rfl)
  clear hst240 hst238 hZN hZB
  have HR0 : Hid (Blk (w.alloc (.cells #[.slice none 0 0] 25)) w.heap.size #[.slice none 0 0]) := Blk.new rfl
  have HB0 := Lib.hid ((Below.refl w.heap.size w).alloc (Nat.le_refl _) (.cells #[.slice none 0 0] 25))
  have HB0I := Lib.hid (fun (r p : List Int) (hr : IsBytes 32 r) (hp : IsBytes 32 p) (u : World) => build_b0 hr hp u)
  clear hm2 hc hst1 hl
  go_enter Try.func9, Try.ntmps9
  go_wp2_with (first
    | (go_at_call 24; refine (newt_any b0 _ w4 HOK0.out (by constructor <;> omega)).mono ?_; rintro e w5 ⟨s, rfl, hn5, hw5, hc5, hb5⟩; have HN5 := Lib.hid hn5; have HW5 := Lib.hid hw5; have HB5 := Lib.hid (HB4.out.trans (hb5.mono HB4.out.size)); have HR5 := Lib.hid (HR4.out.call hb5); have HC5 := Lib.hid hc5; have hs1 : s.oneCell' = true := (by obtain ⟨a, c, e, _⟩ := hn5.shape; rw [e]; rfl); have hlt5 := HR5.out.lt; clear hn5 hw5 hc5 hb5)
    | ((with_reducible refine at_store (.tmp 3) ?_); refine wpList_store_blk rfl 25 (.tmp 3) _ rfl w5.heap.size #[s] rfl rfl #[.slice none 0 0] (Blk.new rfl) rfl hi1 (by simpa using hs1) ?_; intro w6 U6 B6; have hb56 := U6.below ((Below.refl w5.heap.size w5).alloc (Nat.le_refl _) (.cells #[.slice none 0 0] 25)) (Nat.le_refl _); have HV6 : Hid (TrV w w.heap.size w5.heap.size s [⟨b0, -1, (k4 : Int) % 3⟩] w6) := ⟨HR5.out.call hb56, B6, HN5.out.call hb56, HW5.out.off (by have := HR4.out.lt; omega), HN5.out.off (Nat.le_refl _), HB5.out.trans (hb56.mono HB5.out.size), hlt5, rfl, HC5.out⟩; clear hb56 U6 B6)
    | ((with_reducible refine at_build (some 17) ?_); refine wpList_build_g 49 _ rfl #[(2, .agg (bytesL r1).toArray), (4, .agg (bytesL r3).toArray)] (by simp [Act.eval, Act.put]) (.agg (flatP (bk4 0 r1 zeroR r3).parts)) (HB0I.out r1 r3 HQ1.out HQ3.out _) rfl ?_; obtain ⟨b0, hb0⟩ : ∃ b : BkD, Hid (bk4 0 r1 zeroR r3 = b) := ⟨_, Lib.hid rfl⟩; rw [hb0.out]; have HOK0 : Hid b0.ok := (by show b0.ok; rw [← hb0.out]; exact bk4_ok (by omega) HQ1.out zeroR_is HQ3.out))
    | (go_at_call_of 26 (1 : Int); refine (HA1.out _ HB3.out).mono ?_; rintro e w4 ⟨⟨k4, hk4, rfl⟩, hb4⟩; have ht3 := tmod_nat k4 3; have HB4 := Lib.hid (HB3.out.trans (hb4.mono HB3.out.size)); have HR4 := Lib.hid (HR3.out.call hb4); clear hb4)
    | (go_at_call_of 26 (0 : Int); refine (HA0.out _ HB1.out).mono ?_; rintro e w2 ⟨⟨k2, hk2, rfl⟩, hb2⟩; have ht2 := tmod_nat k2 2; have HB2 := Lib.hid (HB1.out.trans (hb2.mono HB1.out.size)); have HR2 := Lib.hid (HR1.out.call hb2); clear hb2)
    | (go_at_call 25; refine (HRS.out _ w2).mono ?_; rintro e w3 ⟨⟨r3, hr3, rfl⟩, hb3⟩; have HQ3 := Lib.hid hr3; have HB3 := Lib.hid (HB2.out.trans (hb3.mono HB2.out.size)); have HR3 := Lib.hid (HR2.out.call hb3); clear hr3 hb3)
    | (go_at_call 25; refine (HRS.out _ _).mono ?_; rintro e w1 ⟨⟨r1, hr1, rfl⟩, hb1⟩; have HQ1 := Lib.hid hr1; have HB1 := Lib.hid (HB0.out.trans (hb1.mono HB0.out.size)); have HR1 := Lib.hid (HR0.out.call hb1); clear hr1 hb1))
  have HI0 : Hid (TreeI w w5.heap.size c (.int .i64 1) w6) := ⟨1, _, s, rfl, by omega, by omega, rfl, TrOK.one b0 _ (by omega), HV6.out⟩
  obtain ⟨B, hB⟩ : ∃ B, w5.heap.size = B := ⟨_, rfl⟩
  rw [hB] at HI0 ⊢
  clear hB HV6 HR5 HB5 HN5 HW5 hs1 hlt5
  go_loopw [4] (fun i wr => TreeI w B c i wr) (fun i _ => 10 - (intOf i).toNat)
  case atStart => exact HI0.out
  case round =>
    obtain ⟨n, ns, s', rfl, hn1, hn9, hlen, hok, hV⟩ := hrel
    obtain ⟨sa, sc, rfl, hmx⟩ := hV.n.shape
    have HLEN := Lib.hid hlen
    have HOK := Lib.hid hok
    have HV := Lib.hid hV
    have HCP := Lib.hid hV.cap
    rw [hlen] at HV HCP
    clear hlen hok hV hmx HI0
    by_cases hlt : n < 1 + c
    case neg =>
      have hlt' : ¬ (n : Int) < 1 + (c : Int) := by omega
      go_wp2_with (first
        | (go_at_call_of 26 (2 : Int); refine (HA2.out _ HV.out.b).mono ?_; rintro e w7 ⟨rfl, hb7⟩; have HV7 := Lib.hid (HV.out.call hb7); clear hb7)
        | ((with_reducible refine at_load (.tmp 3) ?_); refine wpList_load_g 25 (.tmp 3) rfl B rfl #[.slice sa n sc] _ HV7.out.t Try.underlying25 rfl hi1 rfl ?_)
        | ((with_reducible refine at_store (.tmp 2) ?_); refine wpList_store_blk rfl 25 (.tmp 2) _ rfl w.heap.size #[.slice sa n sc] rfl rfl #[.slice none 0 0] HV7.out.r rfl hi1 (by simp [Value.oneCell']) ?_; intro w9 U9 B9; have HR9 := Lib.hid B9; have HB9 := Lib.hid (U9.below HV7.out.b (Nat.le_refl _)); have HN9 := Lib.hid (HV7.out.n.grownOff (upd_grown U9) HV7.out.o1); clear U9 B9))
      exact bodyPost_ret (res_cellB rfl rfl HR9.out Try.underlying25 rfl hi1) rfl ⟨_, ns, rfl, HN9.out, HCP.out, HOK.out, by rw [HLEN.out]; omega, HB9.out⟩
    have hlt' : (n : Int) < 1 + (c : Int) := by omega
    have hn0 : ¬ (n : Int) = 0 := by omega
    go_upto_if 27 with (first
      | (go_at_call_of 26 (2 : Int); refine (HA2.out _ HV.out.b).mono ?_; rintro e w7 ⟨rfl, hb7⟩; have HV7 := Lib.hid (HV.out.call hb7); clear hb7))
    go_wp2_with fail
    refine (HAK.out n w7 (by omega) HV7.out.b).mono ?_
    rintro e w8 ⟨⟨k, hk, rfl⟩, hb8⟩
    have HV8 := Lib.hid (HV7.out.call hb8)
    clear hb8
    go_wp2_with fail
    have hqn : k % n < n := Nat.mod_lt _ (by omega)
    obtain ⟨q0, hq0⟩ : ∃ q, k % n = q := ⟨_, rfl⟩
    have hq1 : (k : Int) % (n : Int) = (q0 : Int) := by rw [← hq0]; rfl
    have hq2 : Int.tmod (k : Int) (n : Int) = (q0 : Int) := by rw [tmod_nat, hq0]
    rw [hq0] at hqn
    have hqn' : (q0 : Int) < n := by omega
    have hql : q0 < ns.length := by rw [HLEN.out]; exact hqn
    have HND := Lib.hid (HV8.out.n.elem hql)
    obtain ⟨rb, ro, rfl, hlm, hrb, hna, hdk⟩ := HND.out
    have HNA := Lib.hid hna.all
    have HDK := Lib.hid hdk
    obtain ⟨L, hL⟩ : ∃ L, ns[q0].cells = L := ⟨_, rfl⟩
    have hLl : L.length = 240 := by rw [← hL]; exact NdD.len hdk
    have HL1 : Hid (∀ v ∈ L, v.oneCell' = true) := by show ∀ v ∈ L, _; rw [← hL]; exact NdD.one _
    rw [hL] at HNA
    have HLL := Lib.hid hL
    have hbt := HV8.out.t.lt
    have HVT := Lib.hid HV8.out.t
    have hiL : (Try.prog.info? 51).map (·.size) = some L.length := by rw [hLl]; kernel_rfl
    clear hlm hna hdk hL hq0
    refine own1 7 8 L.toArray ZN (by kernel_rfl) (by kernel_rfl) rfl rfl rfl rfl hz240 (by rw [hszN, List.size_toArray, hLl]) (by simpa using hiL) (fun v hv => HL1.out v (by simpa using hv)) ?_
    apply Exists.intro
    refine ⟨?HA, ?h1, ?hQ⟩
    case HA =>
      intro W1 hW1 T F hT hF hG
      have hWF : ∀ t, Below w8.heap.size w8 (F t) := fun t => hW1.trans ((hF t).mono hW1.size)
      show wpQuiet _ _ _ _ [_, _, _, _, _, _, _] _
      have c0 : ∀ t, (F t).cell? ⟨B, 0, none⟩ = some (.slice (some ⟨rb, ro, none⟩) n sc) := fun t => ((hWF t).cell (p := ⟨B, 0, none⟩) hbt).trans (HVT.out.cell 0)
      have CL := Lib.hid (show ∀ u, (∃ t, u = F t) → u.rangeAt rb (ro + q0 * 240) L by rintro _ ⟨t, rfl⟩; exact Below.rng (hWF t) hrb HNA.out)
      repeat (first
        | ((with_reducible refine at_qload (.tmp 39) ?_); refine wpQuiet_load_midE 51 _ rfl rb (ro + q0 * 240) (by simp [Act.eval]) L CL.out Try.underlying51 rfl hiL (by kernel_rfl) ?_; simp only [Act.put, List.setIfInBounds_toArray, List.set_cons_succ, List.set_cons_zero])
        | (go_big_quiet_step (fail)))
      exact wpQuiet_nil rfl
    case h1 => rfl
    case hQ =>
      intro bp w9 hbp hb9 hk9
      simp only [Act.put, List.setIfInBounds_toArray, List.set_cons_succ, List.set_cons_zero]
      have HP9 : Hid (Blk w9 bp L.toArray) := hk9
      have HV9 := Lib.hid (HV8.out.call hb9)
      have HOF := Lib.hid (HV8.out.n.off hbp)
      have hBp : B < bp := by omega
      have hz3 : ((k : Int) / 16) % 3 = ((k / 16 % 3 : Nat) : Int) := by omega
      obtain ⟨z3, hz3'⟩ : ∃ z, k / 16 % 3 = z := ⟨_, rfl⟩
      rw [hz3'] at hz3
      have hpn : (n : Int) - 1 = ((n - 1 : Nat) : Int) := by omega
      have hpl : n - 1 < n := by omega
      obtain ⟨p, hp⟩ : ∃ p, n - 1 = p := ⟨_, rfl⟩
      rw [hp] at hpn hpl
      have hpl' : (p : Int) < n := by omega
      have hpL : p < ns.length := by rw [HLEN.out]; exact hpl
      have HND2 := Lib.hid (HV9.out.n.elem hpL)
      clear hk9 hb9 hz3' hp HNA HVT HND
      go_upto_if 44 with fail
      go_cut [] from 22 to 115 (fun wx => TrQ w B bp (.slice (some ⟨rb, ro, none⟩) n sc) ns wx)
      case first =>
        by_cases hzz : 0 < (z3 : Int)
        · obtain ⟨rb2, ro2, he2, hlm2, hrb2, hna2, hdk2⟩ := HND2.out
          cases he2
          have HNA2 := Lib.hid hna2.all
          obtain ⟨L2, hL2⟩ : ∃ L, ns[p].cells = L := ⟨_, rfl⟩
          have hL2l : L2.length = 240 := by rw [← hL2]; exact NdD.len hdk2
          have HL2 : Hid (∀ v ∈ L2, v.oneCell' = true) := by show ∀ v ∈ L2, _; rw [← hL2]; exact NdD.one _
          have HE2 := Lib.hid hL2
          rw [hL2] at HNA2
          have hiL2 : (Try.prog.info? 51).map (·.size) = some L2.length := by rw [hL2l]; kernel_rfl
          clear hlm2 hna2 hdk2 hL2
          go_wp2_with (first
            | ((with_reducible refine at_load (.tmp 45) ?_); refine wpList_load_1 23 (.tmp 45) rfl B 0 (.slice (some ⟨rb, ro, none⟩) n sc) (HV9.out.t.cell 0) rfl _ Try.underlying23 rfl rfl ?_)
            | ((with_reducible refine at_load (.tmp 49) ?_); refine wpList_load_rng 51 (.tmp 49) rfl rb (ro + p * 240) L2 HNA2.out rfl _ Try.underlying51 rfl hiL2 rfl ?_)
            | ((with_reducible refine at_store (.tmp 6) ?_); refine wpList_store_blk rfl 51 (.tmp 6) _ rfl bp L2.toArray rfl rfl L.toArray HP9.out (by simp [hLl, hL2l]) (by simpa using hiL2) (fun v hv => HL2.out v (by simpa using hv)) ?_; intro w10 U10 B10; have HV10 := Lib.hid (HV9.out.upd U10 hBp HOF.out); have HP10 := Lib.hid B10; clear U10 B10))
          go_meet
          case rel => exact ⟨p, hpL, HV10.out, by rw [HE2.out]; exact HP10.out⟩
        · have hzz' : (0 < (z3 : Int)) = False := eq_false hzz
          go_wp2_with fail
          go_meet
          case rel => exact ⟨q0, hql, HV9.out, by rw [HLL.out]; exact HP9.out⟩
      case rest =>
        obtain ⟨q, hq, hvc, hpc⟩ := hcut
        have HVC := Lib.hid hvc
        have HPC := Lib.hid hpc
        have hqok := HV8.out.n.oks ns[q] (List.getElem_mem hq)
        have HQOK := Lib.hid hqok
        have hnat := nd_at hpc.rng hqok
        have HNT : Hid (∀ u, Blk u bp ns[q].cells.toArray → NdAt u bp 0 ns[q]) := fun u hu => nd_at hu.rng HQOK.out
        obtain ⟨d, hd⟩ : ∃ d, ns[q] = d := ⟨_, rfl⟩
        have HQE := Lib.hid hd
        rw [hd] at HNT HQOK HPC
        have hbpc := HPC.out.lt
        obtain ⟨s0, hs0⟩ : ∃ z, d.b.slot = z := ⟨_, rfl⟩
        have HS0 := Lib.hid hs0
        obtain ⟨Rp, hRp⟩ : ∃ z, bytesL d.b.root = z := ⟨_, rfl⟩
        have HRP := Lib.hid hRp
        have hiRp : (Try.prog.info? 41).map (·.size) = some Rp.length := by rw [← hRp, bytesL_len HQOK.out.1.2.2.2.1]; kernel_rfl
        clear hvc hpc hqok hnat hd hs0 hRp
        go_wp2_with fail
        obtain ⟨XK, hXK⟩ : ∃ XK : Int → Array Value, Hid (∀ k, (bytesL (rootK k)).toArray = XK k) := ⟨_, Lib.hid fun _ => rfl⟩
        have HRY : Hid (∀ k u, Calls Try.prog 25 #[.int .i64 k] u fun e w' => e = .returned (.agg (XK k)) ∧ Below u.heap.size u w') := fun k u => by rw [← hXK.out k]; exact root_k k u
        obtain ⟨bd, hbd⟩ : ∃ bd, bk4 (IntKind.u64.wrap (IntKind.u64.wrap (s0 + 1) + (k : Int) / 256 % 3)) (rootK (wrap64 (1 + wrap64 ((n : Int) * (1 + (k : Int) / 64 % 3))))) d.b.root (rootK (1000 + (n : Int))) = bd := ⟨_, rfl⟩
        have hbok : bd.ok := by rw [← hbd]; exact bk4_ok (wrap_u64r _) (rootK_is _) HQOK.out.1.2.2.2.1 (rootK_is _)
        have hbpar : bd.parent = d.b.root := by rw [← hbd]; rfl
        obtain ⟨BX, hBX⟩ : ∃ BX, flatP bd.parts = BX := ⟨_, rfl⟩
        have hbs : BX.size = 238 := by rw [← hBX, flatP_size, BkD.flen hbok]
        have hb1 : ∀ v ∈ BX, v.oneCell' = true := by rw [← hBX]; intro v hv; exact BkD.one bd v (by simpa [flatP] using hv)
        have HBI : Hid (∀ u, (Instr.build 49 #[(2, .agg (XK (wrap64 (1 + wrap64 ((n : Int) * (1 + (k : Int) / 64 % 3)))))), (3, .agg Rp.toArray), (1, .int .u64 (IntKind.u64.wrap (IntKind.u64.wrap (s0 + 1) + (k : Int) / 256 % 3))), (4, .agg (XK (1000 + (n : Int))))]).run Try.prog u = .ok (.agg BX) u) := fun u => by
          rw [← hXK.out, ← hXK.out, ← HRP.out, ← hBX, ← hbd]
          exact build_b1 (rootK_is _) HQOK.out.1.2.2.2.1 (rootK_is _) u
        have HBX1 := Lib.hid hb1
        have HBXE := Lib.hid hBX
        have HBOK := Lib.hid hbok
        have HBP := Lib.hid hbpar
        clear hbd hbok hbpar hBX hb1 hXK
        refine own1 24 25 BX ZB (by kernel_rfl) (by kernel_rfl) rfl rfl rfl rfl hz238 (by rw [hszB, hbs]) (by rw [hbs]; kernel_rfl) HBX1.out ?_
        apply Exists.intro
        refine ⟨?HA, ?h1, ?hQ⟩
        case HA =>
          intro W1 hW1 T F hT hF hG
          have hWF : ∀ t, Below wc.heap.size wc (F t) := fun t => hW1.trans ((hF t).mono hW1.size)
          show wpQuiet _ _ _ _ [_, _, _, _, _, _, _, _, _, _, _, _, _, _, _, _, _, _, _, _, _, _, _, _] _
          have c0 : ∀ t, (F t).cell? ⟨bp, 66, none⟩ = some (.int .u64 s0) := fun t => by have := (HNT.out _ (HPC.out.call (hWF t))).bk.slot; rw [HS0.out, Nat.zero_add] at this; exact this
          have CL := Lib.hid (show ∀ u, (∃ t, u = F t) → u.rangeAt bp 67 Rp by rintro _ ⟨t, rfl⟩; have := (HNT.out _ (HPC.out.call (hWF t))).bk.root; rw [HRP.out, Nat.zero_add] at this; exact this)
          repeat (first
            | ((with_reducible refine at_qload (.tmp 60) ?_); refine wpQuiet_load_midE 41 _ rfl bp 67 (by simp [Act.eval]) Rp CL.out Try.underlying41 rfl hiRp (by kernel_rfl) ?_; simp only [Act.put, List.setIfInBounds_toArray, List.set_cons_succ, List.set_cons_zero])
            | ((with_reducible refine at_qbuild (some 74) ?_); refine wpQuiet_build 49 _ rfl #[(2, .agg (XK (wrap64 (1 + wrap64 ((n : Int) * (1 + (k : Int) / 64 % 3)))))), (3, .agg Rp.toArray), (1, .int .u64 (IntKind.u64.wrap (IntKind.u64.wrap (s0 + 1) + (k : Int) / 256 % 3))), (4, .agg (XK (1000 + (n : Int))))] (by simp [Act.eval]) (.agg BX) HBI.out (by kernel_rfl) ?_; simp only [Act.put, List.setIfInBounds_toArray, List.set_cons_succ, List.set_cons_zero])
            | (go_big_quiet_step ((go_at_call 25; exact fam_call hF hG (Nat.le_refl _) (HRY.out _ _)))))
          exact wpQuiet_nil rfl
        case h1 => rfl
        case hQ =>
          intro bq w11 hbq hb11 hk11
          simp only [Act.put, List.setIfInBounds_toArray, List.set_cons_succ, List.set_cons_zero]
          have HOQ := Lib.hid (HVC.out.n.off hbq)
          have HT11 : Hid (TrB w B bp bq (.slice (some ⟨rb, ro, none⟩) n sc) ns d w11) := ⟨bd, HBOK.out, HBP.out, HVC.out.call hb11, HPC.out.call hb11, by rw [HBXE.out]; exact hk11⟩
          have hpq : bp < bq := by omega
          have hz4 : (k : Int) / 1024 % 4 = ((k / 1024 % 4 : Nat) : Int) := by omega
          obtain ⟨z4, hz4'⟩ : ∃ z, k / 1024 % 4 = z := ⟨_, rfl⟩
          rw [hz4'] at hz4
          have hz5 : (k : Int) / 4096 % 3 = ((k / 4096 % 3 : Nat) : Int) := by omega
          have hz5l : k / 4096 % 3 ≤ 2 := by omega
          obtain ⟨z5, hz5'⟩ : ∃ z, k / 4096 % 3 = z := ⟨_, rfl⟩
          rw [hz5'] at hz5 hz5l
          clear hk11 hb11 hz4' hz5' HBX1 HBXE HBOK HBP HBI HVC HPC hbs
          go_upto_if 78 with fail
          go_cut [] from 22 to 115 (fun wx => TrB w B bp bq (.slice (some ⟨rb, ro, none⟩) n sc) ns d wx)
          case first =>
            by_cases h4 : z4 = 0
            · have h4' : ((z4 : Int) == 0) = true := by simp [h4]
              obtain ⟨bd, hbo, hbp2, hv, hp, hb⟩ := HT11.out
              have HV12 := Lib.hid hv; have HP12 := Lib.hid hp; have HK12 := Lib.hid hb; have HBO := Lib.hid hbo; have HBP2 := Lib.hid hbp2
              have HPY := Lib.hid (show w11.rangeAt bp 131 (bytesL d.b.payload) by have := (HNT.out _ hp).bk.payload; rw [Nat.zero_add] at this; exact this)
              have hiP : (Try.prog.info? 41).map (·.size) = some (bytesL d.b.payload).length := by rw [bytesL_len HQOK.out.1.2.2.2.2.2.1]; kernel_rfl
              clear h4 hv hp hb hbo hbp2
              go_wp2_with (first
                | ((with_reducible refine at_load (.tmp 80) ?_); refine wpList_load_rng 41 (.tmp 80) rfl bp 131 (bytesL d.b.payload) HPY.out rfl _ Try.underlying41 rfl hiP rfl ?_)
                | ((with_reducible refine at_store (.tmp 82) ?_); refine wpList_store_part rfl 41 (.tmp 82) _ rfl bq bd.parts 5 (bytesL bd.payload) (bytesL d.b.payload) HK12.out rfl (by rw [BkD.off5 HBO.out]; rfl) rfl (by rw [bytesL_len HQOK.out.1.2.2.2.2.2.1, bytesL_len HBO.out.2.2.2.2.2.1]) hiP (bytesL_one _) ?_; intro w13 U B13; have HT13 : Hid (TrB w B bp bq (.slice (some ⟨rb, ro, none⟩) n sc) ns d w13) := (by refine ⟨{bd with payload := d.b.payload}, ?_, HBP2.out, HV12.out.upd U (by omega) HOQ.out, U.blk HP12.out (by omega), B13⟩; obtain ⟨o1, o2, o3, o4, o5, o6, o7⟩ := HBO.out; exact ⟨o1, o2, o3, o4, o5, HQOK.out.1.2.2.2.2.2.1, o7⟩); clear U B13))
              go_meet
              case rel => exact HT13.out
            · have h4' : ((z4 : Int) == 0) = false := by simp [h4]
              clear h4
              go_wp2_with fail
              go_meet
              case rel => exact HT11.out
          case rest =>
            have HT14 := Lib.hid hcut
            have hsd := HOK.out.st q hq
            rw [HQE.out] at hsd
            obtain ⟨sd, hsd'⟩ : ∃ z, d.st = z := ⟨_, rfl⟩
            rw [hsd'] at hsd
            have HSD := Lib.hid hsd'
            have hz5b : (z5 : Int) ≤ 2 := by omega
            have HC3 : Hid (∀ u : World, (u.alloc (.cells #[.int .i64 0, .int .i64 1, .int .i64 2] 3)).cell? ⟨u.heap.size, z5, none⟩ = some (.int .i64 (z5 : Int))) := fun u => by
              have hb := (Blk.new (w := u) (cs := #[.int .i64 0, .int .i64 1, .int .i64 2]) (t := 3) rfl)
              have h3 : z5 = 0 ∨ z5 = 1 ∨ z5 = 2 := by omega
              rcases h3 with rfl | rfl | rfl
              · exact hb.cell 0
              · exact hb.cell 1
              · exact hb.cell 2
            obtain ⟨_, _, _, hvx, hpx, _⟩ := HT14.out
            have HST0 := Lib.hid (show wc.cell? ⟨bp, 239, none⟩ = some (.int .i64 sd) by have := (HNT.out _ hpx).st; rw [hsd', Nat.zero_add] at this; exact this)
            have hbpw := hpx.lt
            have HAL : Hid (Below wc.heap.size wc (wc.alloc (.cells #[.int .i64 0, .int .i64 1, .int .i64 2] 3))) := (Below.refl _ _).alloc (Nat.le_refl _) _
            have HST1 := Lib.hid ((HAL.out.cell (p := ⟨bp, 239, none⟩) hbpw).trans HST0.out)
            clear hcut hsd' hvx hpx
            go_upto_if 91 with (first
              | ((with_reducible refine at_load (.tmp 87) ?_); refine wpList_load_1 3 (.tmp 87) rfl wc.heap.size z5 (.int .i64 (z5 : Int)) (HC3.out wc) rfl _ Try.underlying3 rfl rfl ?_)
              | ((with_reducible refine at_load (.tmp 89) ?_); refine wpList_load_1 3 (.tmp 89) rfl bp 239 (.int .i64 sd) HST1.out rfl _ Try.underlying3 rfl rfl ?_))
            go_cut [8] from 22 to 115 (fun s8 wx => TrS w B bp bq (.slice (some ⟨rb, ro, none⟩) n sc) ns d s8 wx)
            case first =>
              have HT15 : Hid (TrB w B bp bq (.slice (some ⟨rb, ro, none⟩) n sc) ns d (wc.alloc (.cells #[.int .i64 0, .int .i64 1, .int .i64 2] 3))) := HT14.out.call HAL.out
              by_cases h2 : sd = 2
              · have h2' : (sd == 2) = true := by simp [h2]
                have HS2 := Lib.hid h2
                clear h2
                go_wp2_with fail
                go_meet
                case rel => exact ⟨2, rfl, by omega, fun h => by omega, fun _ => rfl, HT15.out⟩
              · have h2' : (sd == 2) = false := by simp [h2]
                by_cases h0 : sd = 0
                · have h0' : (sd == 0) = true := by simp [h0]
                  by_cases h1 : z5 = 1
                  · have h1' : ((z5 : Int) == 1) = true := by simp [h1]
                    have HS0' := Lib.hid h0
                    clear h0 h1
                    go_wp2_with (first
                      | ((with_reducible refine at_load (.tmp 92) ?_); refine wpList_load_1 3 (.tmp 92) rfl bp 239 (.int .i64 sd) HST1.out rfl _ Try.underlying3 rfl rfl ?_))
                    go_meet
                    case rel => exact ⟨0, rfl, by omega, fun h => by omega, fun h => by have := HS0'.out; rw [HSD.out] at h; omega, HT15.out⟩
                  · have h1' : ((z5 : Int) == 1) = false := by simp; omega
                    have HS0' := Lib.hid h0
                    have HN1 := Lib.hid h1
                    clear h0 h1
                    go_wp2_with (first
                      | ((with_reducible refine at_load (.tmp 92) ?_); refine wpList_load_1 3 (.tmp 92) rfl bp 239 (.int .i64 sd) HST1.out rfl _ Try.underlying3 rfl rfl ?_))
                    go_meet
                    case rel => exact ⟨(z5 : Int), rfl, by omega, fun h => by have := HN1.out; omega, fun h => by have := HS0'.out; rw [HSD.out] at h; omega, HT15.out⟩
                · have h0' : (sd == 0) = false := by simp [h0]
                  have HN0 := Lib.hid h0
                  have HN2 := Lib.hid h2
                  clear h0 h2
                  go_wp2_with (first
                    | ((with_reducible refine at_load (.tmp 92) ?_); refine wpList_load_1 3 (.tmp 92) rfl bp 239 (.int .i64 sd) HST1.out rfl _ Try.underlying3 rfl rfl ?_))
                  go_meet
                  case rel => exact ⟨(z5 : Int), rfl, by omega, fun _ => by have h1 := HN0.out; have h2 := HN2.out; rw [HSD.out]; omega, fun h => by have := HN2.out; rw [HSD.out] at h; exact absurd h this, HT15.out⟩
            case rest =>
              obtain ⟨st, rfl, hst, hc1, hc2, bd, hbo, hbp, hvx, hpx, hkx⟩ := hcut
              have HV20 := Lib.hid hvx
              have HK20 := Lib.hid hkx
              have HBO := Lib.hid hbo
              have HINS := Lib.hid (insn_any (.slice (some ⟨rb, ro, none⟩) n sc) ns bd st wc hvx.n hbo (by omega))
              have hadd := fun he => HOK.out.add hq (x := bd) (st := st) (by rw [HQE.out]; exact hbp) hst (by rw [HQE.out]; exact hc1) (by rw [HQE.out]; exact hc2) he
              have hbsz : (flatP bd.parts).size = 238 := by rw [flatP_size, BkD.flen hbo]
              obtain ⟨BX2, hBX2⟩ : ∃ X, flatP bd.parts = X := ⟨_, rfl⟩
              rw [hBX2] at HINS HK20 hbsz
              have hiB : (Try.prog.info? 49).map (·.size) = some BX2.size := by rw [hbsz]; kernel_rfl
              have hBw := hvx.t.lt
              by_cases he : (insT ns bd st).2 = 0
              · obtain ⟨hres, hok2⟩ := hadd he
                have HR2 := Lib.hid hres
                have HOK2 := Lib.hid hok2
                have HEZ := Lib.hid he
                have hnn : ((n : Int) + 1 != (n : Int) + 1) = false := by simp
                clear hadd hres hok2 he hc1 hc2 hbo hbp hvx hpx hkx hBX2
                go_wp2_with (first
                  | ((with_reducible refine at_load (.tmp 3) ?_); refine wpList_load_g 25 (.tmp 3) rfl B rfl #[.slice (some ⟨rb, ro, none⟩) n sc] _ HV20.out.t Try.underlying25 rfl hi1 rfl ?_)
                  | ((with_reducible refine at_load (.tmp 7) ?_); refine wpList_load_g 49 (.tmp 7) rfl bq rfl BX2 _ HK20.out Try.underlying49 rfl hiB rfl ?_)
                  | (go_at_call 27; refine HINS.out.mono ?_; rintro e w21 ⟨v', rfl, hn21, hw21, hc21, hb21⟩; rw [HEZ.out]; rw [HR2.out] at hn21; have HV21 := Lib.hid (HV20.out.call hb21); obtain ⟨va, vc, hv', _⟩ := hn21.shape; rw [List.length_append, HLEN.out, List.length_singleton] at hv'; have HN21 := Lib.hid hn21; have HW21 := Lib.hid hw21; have HSH := Lib.hid hv'; have HC21 := Lib.hid hc21; rw [hv'] at HN21 HW21 HC21; rw [hv']; clear hn21 hw21 hc21 hb21 hv')
                  | ((with_reducible refine at_store (.tmp 9) ?_); refine wpList_store_blk rfl 25 (.tmp 9) _ rfl w21.heap.size #[.slice va (n + 1) vc] rfl rfl #[.slice none 0 0] (Blk.new rfl) rfl hi1 (by simp [Value.oneCell']) ?_; intro w22 U22 B22; have hb22 := U22.below ((Below.refl w21.heap.size w21).alloc (Nat.le_refl _) (.cells #[.slice none 0 0] 25)) (Nat.le_refl _); have HV22 := Lib.hid (HV21.out.call hb22); have HN22 := Lib.hid (HN21.out.call hb22); have HK22 := Lib.hid B22; clear U22 B22 hb22)
                  | ((with_reducible refine at_load (.tmp 9) ?_); refine wpList_load_g 25 (.tmp 9) rfl w21.heap.size rfl #[.slice va (n + 1) vc] _ HK22.out Try.underlying25 rfl hi1 rfl ?_)
                  | ((with_reducible refine at_store (.tmp 3) ?_); refine wpList_store_blk rfl 25 (.tmp 3) _ rfl B #[.slice va (n + 1) vc] rfl rfl #[.slice (some ⟨rb, ro, none⟩) n sc] HV22.out.t rfl hi1 (by simp [Value.oneCell']) ?_; intro w23 U23 B23; have HV23 : Hid (TrV w w.heap.size B (.slice va (n + 1) vc) (ns ++ [⟨bd, (q : Int), st⟩]) w23) := (by refine ⟨U23.blk HV22.out.r (by have := HV22.out.lt; omega), B23, HN22.out.grownOff (upd_grown U23) (HW21.out.off (by omega)), HW21.out.off (by have := HV22.out.lt; omega), HW21.out.off (by omega), U23.below HV22.out.b (by have h1 := HV22.out.lt; omega), HV22.out.lt, rfl, HC21.out⟩); have HC23 := Lib.hid (HV23.out.t.cell 0); clear U23 B23)
                  | ((with_reducible refine at_load (.tmp 109) ?_); refine wpList_load_1 23 (.tmp 109) rfl B 0 (.slice va (n + 1) vc) HC23.out rfl _ Try.underlying23 rfl rfl ?_))
                go_roundw
                case rel => exact ⟨n + 1, ns ++ [⟨bd, (q : Int), st⟩], _, by go_num, by omega, by omega, by rw [List.length_append, HLEN.out]; rfl, HOK2.out, HV23.out⟩
                case measure => simp [intOf]; omega
              · have hbad := insT_bad he
                have HBD := Lib.hid hbad
                obtain ⟨ev, hev⟩ : ∃ z, (insT ns bd st).2 = z := ⟨_, rfl⟩
                rw [hev] at he
                have hez : (ev == 0) = false := by simp [he]
                have HEV := Lib.hid hev
                have hnn : ((n : Int) != (n : Int) + 1) = true := by simp; omega
                clear hadd hbad hev he hc1 hc2 hbo hbp hvx hpx hkx hBX2
                go_wp2_with (first
                  | ((with_reducible refine at_load (.tmp 3) ?_); refine wpList_load_g 25 (.tmp 3) rfl B rfl #[.slice (some ⟨rb, ro, none⟩) n sc] _ HV22.out.t Try.underlying25 rfl hi1 rfl ?_)
                  | ((with_reducible refine at_load (.tmp 3) ?_); refine wpList_load_g 25 (.tmp 3) rfl B rfl #[.slice (some ⟨rb, ro, none⟩) n sc] _ HV20.out.t Try.underlying25 rfl hi1 rfl ?_)
                  | ((with_reducible refine at_load (.tmp 7) ?_); refine wpList_load_g 49 (.tmp 7) rfl bq rfl BX2 _ HK20.out Try.underlying49 rfl hiB rfl ?_)
                  | (go_at_call 27; refine HINS.out.mono ?_; rintro e w21 ⟨v', rfl, hn21, hw21, hc21, hb21⟩; rw [HEV.out]; rw [HBD.out] at hn21; have HV21 := Lib.hid (HV20.out.call hb21); obtain ⟨va, vc, hv', _⟩ := hn21.shape; rw [List.length_nil] at hv'; rw [hv']; clear hn21 hw21 hc21 hb21 hv')
                  | ((with_reducible refine at_store (.tmp 9) ?_); refine wpList_store_blk rfl 25 (.tmp 9) _ rfl w21.heap.size #[.slice va 0 vc] rfl rfl #[.slice none 0 0] (Blk.new rfl) rfl hi1 (by simp [Value.oneCell']) ?_; intro w22 U22 B22; have hb22 := U22.below ((Below.refl w21.heap.size w21).alloc (Nat.le_refl _) (.cells #[.slice none 0 0] 25)) (Nat.le_refl _); have HV22 := Lib.hid (HV21.out.call hb22); have HC22 := Lib.hid (HV22.out.t.cell 0); clear U22 B22 hb22)
                  | ((with_reducible refine at_load (.tmp 109) ?_); refine wpList_load_1 23 (.tmp 109) rfl B 0 (.slice (some ⟨rb, ro, none⟩) n sc) HC22.out rfl _ Try.underlying23 rfl rfl ?_)
                  | ((with_reducible refine at_store (.tmp 2) ?_); refine wpList_store_blk rfl 25 (.tmp 2) _ rfl w.heap.size #[.slice (some ⟨rb, ro, none⟩) n sc] rfl rfl #[.slice none 0 0] HV22.out.r rfl hi1 (by simp [Value.oneCell']) ?_; intro w24 U9 B9; have HR9 := Lib.hid B9; have HB9 := Lib.hid (U9.below HV22.out.b (Nat.le_refl _)); have HN9 := Lib.hid (HV22.out.n.grownOff (upd_grown U9) HV22.out.o1); clear U9 B9))
                exact bodyPost_ret (res_cellB rfl rfl HR9.out Try.underlying25 rfl hi1) rfl ⟨_, ns, rfl, HN9.out, HCP.out, HOK.out, by rw [HLEN.out]; omega, HB9.out⟩
end Go.Proofs.Ytdbkphkgjaecoaa
