/- Several texts as one: NuA, TrH, TrI, TrL, AnM, AnA, AnB, AnC, BtD, AnD, AnE, AnF, BsW. -/
import Derived.Test.YtidimiioglgliaaZ3
import Derived.Test.YtidimiioglgliaaZ2
import Derived.Test.YtidimiioglgliaaZ1
import Derived.Deep.CutRange
import Derived.Deep.MidRow
import Derived.Deep.RegionHeld3
import Derived.Test.YtidimiioglgliaaZ4
import Derived.Laws.OwnMore
namespace Go.Proofs.Ytidimiioglgliaa

/-! NuA -/
section
set_option linter.unusedVariables false
set_option linter.unusedSimpArgs false
open Go.RowKit

set_option maxRecDepth 100000

theorem i64_and8 (n : Int) : bits .and .i64 n 255 = n % 256 := by
  have h3 : (BitVec.ofInt 64 255).toNat = 2 ^ 8 - 1 := by decide
  have key : (BitVec.ofInt 64 n &&& BitVec.ofInt 64 255).toNat = (n % ((2 ^ 64 : Nat) : Int)).toNat % 2 ^ 8 := by
    rw [BitVec.toNat_and, BitVec.toNat_ofInt, h3, Nat.and_two_pow_sub_one_eq_mod]
  show IntKind.i64.wrap ((BitVec.ofInt 64 n &&& BitVec.ofInt 64 255).toNat : Nat) = n % 256
  rw [key, IntKind.wrap_i64]
  omega

/-- Number i of a list, and the first k. -/
def numV (l : List Int) (i : Nat) : Int := if (atN l i : Int) / 256 % 11 = 0 then 72057594037927936 else IntKind.u64.wrap (bits .and .i64 (atN l i : Int) 255)

theorem numV_rng (l : List Int) (i : Nat) : 0 ≤ numV l i ∧ numV l i ≤ 72057594037927936 := by
  unfold numV
  split
  · omega
  · rw [i64_and8, u64_in (by omega) (by omega)]; omega

def numK (l : List Int) : Nat → List Int
  | 0 => []
  | k + 1 => numK l k ++ [numV l k]

theorem numK_len (l : List Int) (k : Nat) : (numK l k).length = k := by
  induction k with
  | zero => rfl
  | succ k ih => simp [numK, ih]

theorem numK_rng (l : List Int) (k : Nat) : ∀ x ∈ numK l k, 0 ≤ x ∧ x ≤ 72057594037927936 := by
  induction k with
  | zero => intro x hx; cases hx
  | succ k ih =>
    intro x hx
    rcases List.mem_append.1 hx with h | h
    · exact ih x h
    · rw [List.mem_singleton.1 h]; exact numV_rng l k

set_option maxHeartbeats 8000000 in
theorem num_any (v : Value) (l : List Int) (n : Nat) (w : World) (h : IntsV w v l) (hn : n ≤ 100000) :
    Calls Try.prog 13 #[v, .int .i64 n] w fun e w' => ∃ v', e = .returned v' ∧ OwnK .u64 22 w' w.heap.size v' (numK l n) ∧ Below w.heap.size w w' := by
  obtain ⟨a, len, cap, rfl⟩ := ints_shape' h.1
  have HAT := Lib.hid (fun (i : Nat) u (hu : Below w.heap.size w u) (hi : i ≤ 1000000) => at_val (.slice a len cap) l i u (h.below hu) hi)
  have HII : Hid ((Try.prog.info? 22).map (fun i => (i.zero, i.size, i.bytes)) = some (some (.int .u64 0), 1, 8)) := info_u64c
  clear h
  go_enter Try.func13, Try.ntmps13
  go_wp2_with fail
  go_loopw [5, 6, 8] (fun c i x wr => ∃ k : Nat, k ≤ n ∧ i = .int .i64 k ∧ OwnK .u64 22 wr w.heap.size c (numK l k) ∧ Below w.heap.size w wr) (fun _ i _ _ => n - (intOf i).toNat)
  case atStart => exact ⟨0, Nat.zero_le _, rfl, OwnK.nil _ _ _ _, Below.refl _ _⟩
  case round =>
    obtain ⟨k, hk, rfl, hown, hb⟩ := hrel
    have HOW := Lib.hid hown
    have HB := Lib.hid hb
    clear hown hb
    by_cases hlt : k < n
    case neg =>
      obtain rfl : k = n := by omega
      go_wp2_with fail
      go_ret
      exact ⟨_, rfl, HOW.out, HB.out⟩
    have hlt' : (k : Int) < n := by omega
    have HA := Lib.hid (HAT.out k wr HB.out (by omega))
    have HNX0 : Hid (numK l k ++ [numV l k] = numK l (k + 1)) := Lib.hid rfl
    have HNV : Hid (numV l k = if (atN l k : Int) / 256 % 11 = 0 then 72057594037927936 else IntKind.u64.wrap (bits .and .i64 (atN l k : Int) 255)) := Lib.hid rfl
    obtain ⟨z, hz⟩ : ∃ z, atN l k = z := ⟨_, rfl⟩
    rw [hz] at HA HNV
    by_cases hc : (z : Int) / 256 % 11 = 0
    · have HNX : Hid (numK l (k + 1) = numK l k ++ [72057594037927936]) := by show _ = _; rw [← HNX0.out, HNV.out, if_pos hc]
      have hcb : ((z : Int) / 256 % 11 == 0) = true := by simpa using hc
      clear HNX0 HNV hc hz
      go_wp2_with (first
        | (go_at_call 25; refine HA.out.mono ?_; rintro e w2 ⟨rfl, hb2⟩; have HB2 := Lib.hid (HB.out.trans (hb2.mono HB.out.size)); have HO2 := Lib.hid (HOW.out.call hb2); clear hb2)
        | ((with_reducible refine at_app (.tmp 24) (.tmp 26) ?_); refine wpList_app1 HII.out (by omega) Try.underlying29 (.tmp 24) (.tmp 26) rfl rfl w.heap.size _ _ rfl (HO2.out.grown (World.grownBy_alloc _ (.cells #[.int .u64 (72057594037927936)] 22) none) (fun n _ => by simp)) w2.heap.size 1 (72057594037927936) rfl ((Blk.new rfl).cell 0) (by rw [numK_len]; omega) (by have := HB2.out.size; simp; omega) ?_; intro v3 w3 h3 g3 o3; rw [← HNX.out] at h3; have HO3 := Lib.hid h3; have HB3 := Lib.hid ((HB2.out.alloc HB2.out.size (.cells #[.int .u64 (72057594037927936)] 22)).grown g3 (by have := HB2.out.size; simp; omega) (fun j hj => (HO2.out.lt j hj).1)); clear h3 g3 o3)
        | fail)
      go_roundw
      case rel => exact ⟨k + 1, by omega, by go_num, HO3.out, HB3.out⟩
      case measure => simp [intOf]; omega
    · have HNX : Hid (numK l (k + 1) = numK l k ++ [IntKind.u64.wrap (bits .and .i64 (z : Int) 255)]) := by show _ = _; rw [← HNX0.out, HNV.out, if_neg hc]
      have hcb : ((z : Int) / 256 % 11 == 0) = false := by simpa using hc
      clear HNX0 HNV hc hz
      go_wp2_with (first
        | (go_at_call 25; refine HA.out.mono ?_; rintro e w2 ⟨rfl, hb2⟩; have HB2 := Lib.hid (HB.out.trans (hb2.mono HB.out.size)); have HO2 := Lib.hid (HOW.out.call hb2); clear hb2)
        | ((with_reducible refine at_app (.tmp 24) (.tmp 26) ?_); refine wpList_app1 HII.out (by omega) Try.underlying29 (.tmp 24) (.tmp 26) rfl rfl w.heap.size _ _ rfl (HO2.out.grown (World.grownBy_alloc _ (.cells #[.int .u64 (IntKind.u64.wrap (bits .and .i64 (z : Int) 255))] 22) none) (fun n _ => by simp)) w2.heap.size 1 (IntKind.u64.wrap (bits .and .i64 (z : Int) 255)) rfl ((Blk.new rfl).cell 0) (by rw [numK_len]; omega) (by have := HB2.out.size; simp; omega) ?_; intro v3 w3 h3 g3 o3; rw [← HNX.out] at h3; have HO3 := Lib.hid h3; have HB3 := Lib.hid ((HB2.out.alloc HB2.out.size (.cells #[.int .u64 (IntKind.u64.wrap (bits .and .i64 (z : Int) 255))] 22)).grown g3 (by have := HB2.out.size; simp; omega) (fun j hj => (HO2.out.lt j hj).1)); clear h3 g3 o3)
        | fail)
      go_roundw
      case rel => exact ⟨k + 1, by omega, by go_num, HO3.out, HB3.out⟩
      case measure => simp [intOf]; omega
end

/-! TrH -/
section
set_option linter.unusedVariables false
set_option linter.unusedSimpArgs false
open Go.RowKit

set_option maxRecDepth 100000

def upI (ns : List NdD) (k : Nat) : Int := ((ns[k]?).map NdD.up).getD 0

theorem upI_at {ns : List NdD} {k : Nat} (h : k < ns.length) : upI ns k = ns[k].up := by simp [upI, List.getElem?_eq_getElem h]

def childN (ns : List NdD) (i : Int) : List Int := if 0 ≤ i ∧ i < ns.length then selK (fun k => decide (upI ns k = i)) ns.length else []

theorem childN_len (ns : List NdD) (i : Int) : (childN ns i).length ≤ ns.length := by
  unfold childN
  split
  · exact selK_len _ _
  · simp

def leafN (ns : List NdD) : List Int := selK (fun k => decide ((childN ns (k : Int)).length = 0)) ns.length
end

/-! TrI -/
section
set_option linter.unusedVariables false
set_option linter.unusedSimpArgs false
open Go.RowKit

set_option maxRecDepth 100000

/-- The last of the first k nodes of a path whose slot is at most s. -/
def atK (ns : List NdD) (l : List Int) (s : Int) : Nat → Int
  | 0 => -1
  | k + 1 => if slotAt ns (l.getD k 0) ≤ s then l.getD k 0 else atK ns l s k

def atP (ns : List NdD) (i s : Int) : Int := atK ns (pathN ns i) s (pathN ns i).length

theorem atK_yes {ns : List NdD} {l : List Int} {s : Int} {k : Nat} (h : slotAt ns (l.getD k 0) ≤ s) : atK ns l s (k + 1) = l.getD k 0 := by
  show (if slotAt ns (l.getD k 0) ≤ s then l.getD k 0 else atK ns l s k) = _
  rw [if_pos h]

theorem atK_no {ns : List NdD} {l : List Int} {s : Int} {k : Nat} (h : ¬ slotAt ns (l.getD k 0) ≤ s) : atK ns l s (k + 1) = atK ns l s k := by
  show (if slotAt ns (l.getD k 0) ≤ s then l.getD k 0 else atK ns l s k) = _
  rw [if_neg h]

def AtI (w : World) (T : Array Value) (ns : List NdD) (l : List Int) (s : Int) (pv v i : Value) (wr : World) : Prop :=
  ∃ k : Nat, k ≤ l.length ∧ i = .int .i64 k ∧ v = .int .i64 (atK ns l s k) ∧ IntsV wr pv l ∧ PaS w T wr

/-- The number behind the first a from place k on. -/
def heirF (l : List Int) (a : Int) : Nat → Nat → Int
  | 0, _ => -1
  | f + 1, k => if k < l.length then (if l.getD (k - 1) 0 = a then l.getD k 0 else heirF l a f (k + 1)) else -1

def heirN (ns : List NdD) (a b : Int) : Int := heirF (pathN ns b) a (pathN ns b).length 1

theorem heirF_step {l : List Int} {a : Int} {k : Nat} (hk : k < l.length) : heirF l a (l.length + 1 - k) k = if l.getD (k - 1) 0 = a then l.getD k 0 else heirF l a (l.length + 1 - (k + 1)) (k + 1) := by
  rw [show l.length + 1 - k = (l.length + 1 - (k + 1)) + 1 by omega]
  show (if k < l.length then (if l.getD (k - 1) 0 = a then l.getD k 0 else heirF l a (l.length + 1 - (k + 1)) (k + 1)) else -1) = _
  rw [if_pos hk]

theorem heirF_end {l : List Int} {a : Int} {k : Nat} (hk : l.length ≤ k) (f : Nat) : heirF l a f k = -1 := by
  cases f with
  | zero => rfl
  | succ f => show (if k < l.length then _ else -1) = _; rw [if_neg (by omega)]

def HeirI (w : World) (T : Array Value) (l : List Int) (a r : Int) (pv i : Value) (wr : World) : Prop :=
  ∃ k : Nat, 1 ≤ k ∧ k ≤ l.length + 1 ∧ i = .int .i64 k ∧ heirF l a (l.length + 1 - k) k = r ∧ IntsV wr pv l ∧ PaS w T wr
end

/-! TrL -/
section
set_option linter.unusedVariables false
set_option linter.unusedSimpArgs false
open Go.RowKit

set_option maxRecDepth 100000

/-- Whether a is an ancestor of the first j of l. -/
def allK (ns : List NdD) (l : List Int) (a : Int) : Nat → Bool
  | 0 => true
  | j + 1 => allK ns l a j && decide (a ∈ pathN ns (l.getD j 0))

theorem allK_succ (ns : List NdD) (l : List Int) (a : Int) (j : Nat) : allK ns l a (j + 1) = (allK ns l a j && decide (a ∈ pathN ns (l.getD j 0))) := rfl

def comK (ns : List NdD) (l p : List Int) : Nat → Int
  | 0 => -1
  | k + 1 => if allK ns l (p.getD k 0) l.length then p.getD k 0 else comK ns l p k

theorem comK_yes {ns : List NdD} {l p : List Int} {k : Nat} (h : allK ns l (p.getD k 0) l.length = true) : comK ns l p (k + 1) = p.getD k 0 := by
  show (if allK ns l (p.getD k 0) l.length = true then p.getD k 0 else comK ns l p k) = _
  rw [if_pos h]

theorem comK_no {ns : List NdD} {l p : List Int} {k : Nat} (h : allK ns l (p.getD k 0) l.length = false) : comK ns l p (k + 1) = comK ns l p k := by
  show (if allK ns l (p.getD k 0) l.length = true then p.getD k 0 else comK ns l p k) = _
  rw [if_neg (by rw [h]; simp)]

def comN (ns : List NdD) (l : List Int) : Int :=
  if l.length = 0 then -1 else if 0 ≤ l.getD 0 0 ∧ l.getD 0 0 < ns.length then comK ns l (pathN ns (l.getD 0 0)) (pathN ns (l.getD 0 0)).length else -1
end

/-! AnM -/
section
set_option linter.unusedVariables false
set_option linter.unusedSimpArgs false
open Go.RowKit

set_option maxRecDepth 100000

theorem up_path {ns : List NdD} (h : TrOK ns) {k : Nat} (hk : k < ns.length) : -1 ≤ ns[k].up ∧ ns[k].up < k ∧ pathN ns (k : Int) = pathN ns ns[k].up ++ [(k : Int)] := by
  by_cases h0 : k = 0
  · subst h0
    have e := h.root hk
    rw [e]
    refine ⟨by omega, by omega, ?_⟩
    rw [show ((0 : Nat) : Int) = 0 from rfl, pathN_zero hk, pathN_out (by omega)]
    rfl
  · obtain ⟨h1, h2, h3⟩ := h.upAt hk (by omega)
    rw [h3]
    exact ⟨by omega, by omega, pathN_step h hk (by omega)⟩

theorem path_le {ns : List NdD} (h : TrOK ns) {i x : Int} (hx : x ∈ pathN ns i) : 0 ≤ x ∧ x ≤ i := by
  by_cases hi : 0 ≤ i ∧ i < ns.length
  · obtain ⟨k, rfl⟩ : ∃ k : Nat, i = k := ⟨i.toNat, by omega⟩
    exact pathN_mem h k (by omega) x hx
  · rw [pathN_out hi] at hx; cases hx

theorem path_node {ns : List NdD} {i x : Int} (hx : x ∈ pathN ns i) : 0 ≤ i ∧ i < ns.length := by
  by_cases hi : 0 ≤ i ∧ i < ns.length
  · exact hi
  · rw [pathN_out hi] at hx; cases hx

theorem path_self {ns : List NdD} (h : TrOK ns) {k : Nat} (hk : k < ns.length) : (k : Int) ∈ pathN ns (k : Int) := by
  rw [(up_path h hk).2.2]; simp

theorem path_up {ns : List NdD} (h : TrOK ns) {k : Nat} (hk : k < ns.length) {x : Int} : x ∈ pathN ns (k : Int) ↔ x ∈ pathN ns ns[k].up ∨ x = k := by
  rw [(up_path h hk).2.2, List.mem_append, List.mem_singleton]

theorem path_pw {ns : List NdD} (h : TrOK ns) : ∀ i : Nat, i < ns.length → (pathN ns (i : Int)).Pairwise (· < ·) := by
  intro i
  induction i using Nat.strongRecOn with
  | ind i ih =>
    intro hi
    obtain ⟨h1, h2, h3⟩ := up_path h hi
    rw [h3, List.pairwise_append]
    refine ⟨?_, List.pairwise_singleton _ _, fun x hx y hy => ?_⟩
    · by_cases hu : 0 ≤ ns[i].up
      · obtain ⟨u, hu⟩ : ∃ u : Nat, ns[i].up = u := ⟨ns[i].up.toNat, by omega⟩
        rw [hu]
        exact ih u (by omega) (by omega)
      · rw [pathN_out (by omega)]; exact List.Pairwise.nil
    · rw [List.mem_singleton.1 hy]
      have := path_le h hx; omega

/-- An ancestor that is smaller is one of the parent. -/
theorem isan_step {ns : List NdD} (h : TrOK ns) {k : Nat} (hk : k < ns.length) {a : Int} (ha : a < k) : decide (a ∈ pathN ns (k : Int)) = decide (a ∈ pathN ns ns[k].up) := by
  apply Bool.eq_iff_iff.2
  rw [decide_eq_true_iff, decide_eq_true_iff, path_up h hk]
  exact ⟨fun h => h.resolve_right (by omega), .inl⟩

theorem isan_end {ns : List NdD} (h : TrOK ns) {b a : Int} (hb : 0 ≤ b ∧ b < ns.length) (ha : ¬ a < b) : decide (a ∈ pathN ns b) = (b == a) := by
  obtain ⟨k, rfl⟩ : ∃ k : Nat, b = k := ⟨b.toNat, by omega⟩
  apply Bool.eq_iff_iff.2
  rw [decide_eq_true_iff, beq_iff_eq]
  refine ⟨fun hx => ?_, fun e => ?_⟩
  · have := path_le h hx; omega
  · rw [← e]; exact path_self h (by omega)
/-! ### At -/

theorem atK_app (ns : List NdD) (l r : List Int) (s : Int) : ∀ j, j ≤ l.length → atK ns (l ++ r) s j = atK ns l s j
  | 0, _ => rfl
  | j + 1, h => by
    have e : (l ++ r).getD j 0 = l.getD j 0 := by simp [List.getD, List.getElem?_append_left (show j < l.length by omega)]
    show (if slotAt ns ((l ++ r).getD j 0) ≤ s then (l ++ r).getD j 0 else atK ns (l ++ r) s j) = (if slotAt ns (l.getD j 0) ≤ s then l.getD j 0 else atK ns l s j)
    rw [e, atK_app ns l r s j (by omega)]

theorem atP_out {ns : List NdD} {i s : Int} (h : ¬ (0 ≤ i ∧ i < ns.length)) : atP ns i s = -1 := by
  unfold atP; rw [pathN_out h]; rfl

theorem atP_step {ns : List NdD} (h : TrOK ns) {k : Nat} (hk : k < ns.length) (s : Int) : atP ns (k : Int) s = if ns[k].b.slot ≤ s then (k : Int) else atP ns ns[k].up s := by
  unfold atP
  rw [(up_path h hk).2.2, List.length_append]
  have e : (pathN ns ns[k].up ++ [(k : Int)]).getD (pathN ns ns[k].up).length 0 = k := by simp [List.getD]
  have es : slotAt ns (k : Int) = ns[k].b.slot := by simp [slotAt, List.getElem?_eq_getElem hk]
  show (if slotAt ns ((pathN ns ns[k].up ++ [(k : Int)]).getD (pathN ns ns[k].up).length 0) ≤ s then _ else atK ns _ s _) = _
  rw [e, es, atK_app _ _ _ _ _ (Nat.le_refl _)]
/-! ### Heir -/

theorem getD_app_l {l : List Int} {b : Int} {k : Nat} (h : k < l.length) : (l ++ [b]).getD k 0 = l.getD k 0 := by
  simp [List.getD, List.getElem?_append_left h]

theorem heirF_no {l : List Int} {a : Int} : ∀ f k, 1 ≤ k → (∀ j, k ≤ j → j < l.length → l.getD (j - 1) 0 ≠ a) → heirF l a f k = -1
  | 0, _, _, _ => rfl
  | f + 1, k, h1, h2 => by
    show (if k < l.length then (if l.getD (k - 1) 0 = a then l.getD k 0 else heirF l a f (k + 1)) else -1) = -1
    by_cases hk : k < l.length
    · rw [if_pos hk, if_neg (h2 k (Nat.le_refl _) hk)]
      exact heirF_no f (k + 1) (by omega) (fun j h3 h4 => h2 j (by omega) h4)
    · rw [if_neg hk]

theorem heirF_app {l : List Int} {a b : Int} : ∀ f k, 1 ≤ k → (∃ j, k ≤ j ∧ j < l.length ∧ l.getD (j - 1) 0 = a) → l.length ≤ f + k → ∀ g, l.length ≤ g + k → heirF (l ++ [b]) a f k = heirF l a g k
  | 0, k, _, ⟨j, h1, h2, _⟩, h3, _, _ => by omega
  | f + 1, k, h0, ⟨j, h1, h2, h4⟩, h3, g, h5 => by
    obtain ⟨g, rfl⟩ : ∃ x, g = x + 1 := ⟨g - 1, by omega⟩
    have hk : k < l.length := by omega
    show (if k < (l ++ [b]).length then (if (l ++ [b]).getD (k - 1) 0 = a then (l ++ [b]).getD k 0 else heirF (l ++ [b]) a f (k + 1)) else -1) = (if k < l.length then (if l.getD (k - 1) 0 = a then l.getD k 0 else heirF l a g (k + 1)) else -1)
    rw [if_pos (by rw [List.length_append]; omega), if_pos hk, getD_app_l hk, getD_app_l (by omega)]
    by_cases he : l.getD (k - 1) 0 = a
    · rw [if_pos he, if_pos he]
    · rw [if_neg he, if_neg he]
      have hjk : j ≠ k := fun e => he (by rw [← e]; exact h4)
      exact heirF_app f (k + 1) (by omega) ⟨j, by omega, h2, h4⟩ (by omega) g (by omega)

theorem heirF_last {l : List Int} {a b : Int} : ∀ f k, 1 ≤ k → k ≤ l.length → (∀ j, k ≤ j → j < l.length → l.getD (j - 1) 0 ≠ a) → l.getD (l.length - 1) 0 = a → l.length < f + k → heirF (l ++ [b]) a f k = b
  | 0, k, _, _, _, _, h => by omega
  | f + 1, k, h0, h1, h2, h3, h4 => by
    show (if k < (l ++ [b]).length then (if (l ++ [b]).getD (k - 1) 0 = a then (l ++ [b]).getD k 0 else heirF (l ++ [b]) a f (k + 1)) else -1) = b
    rw [if_pos (by rw [List.length_append]; simp; omega), getD_app_l (by omega)]
    by_cases hk : k = l.length
    · subst hk
      rw [if_pos h3]
      simp [List.getD]
    · rw [if_neg (h2 k (Nat.le_refl _) (by omega))]
      exact heirF_last f (k + 1) (by omega) (by omega) (fun j h5 h6 => h2 j (by omega) h6) h3 (by omega)

theorem heirN_no {ns : List NdD} (h : TrOK ns) {k : Nat} (hk : k < ns.length) {a : Int} (ha : a ∉ pathN ns ns[k].up) : heirN ns a (k : Int) = -1 := by
  unfold heirN
  rw [(up_path h hk).2.2]
  refine heirF_no _ _ (Nat.le_refl _) fun j h1 h2 => ?_
  rw [List.length_append, List.length_singleton] at h2
  rw [getD_app_l (by omega)]
  exact fun e => ha (by rw [← e]; exact getD_mem (by omega))

theorem heirN_out {ns : List NdD} {a b : Int} (hb : ¬ (0 ≤ b ∧ b < ns.length)) : heirN ns a b = -1 := by unfold heirN; rw [pathN_out hb]; rfl

theorem heirN_up {ns : List NdD} (h : TrOK ns) {k : Nat} (hk : k < ns.length) {a : Int} (ha : a ∈ pathN ns ns[k].up) : heirN ns a (k : Int) = if ns[k].up = a then (k : Int) else heirN ns a ns[k].up := by
  obtain ⟨h1, h2, h3⟩ := up_path h hk
  have hr := path_node ha
  obtain ⟨u, hu⟩ : ∃ u : Nat, ns[k].up = u := ⟨ns[k].up.toNat, by omega⟩
  rw [hu] at ha h3 hr ⊢
  have hul : u < ns.length := by omega
  obtain ⟨g1, g2, g3⟩ := up_path h hul
  unfold heirN
  rw [h3]
  by_cases e : (u : Int) = a
  · rw [if_pos e]
    have hpl : 0 < (pathN ns (u : Int)).length := List.length_pos_of_mem ha
    refine heirF_last _ _ (Nat.le_refl _) hpl (fun j h4 h5 => ?_) ?_ (by rw [List.length_append, List.length_singleton]; omega)
    · rw [g3, List.length_append, List.length_singleton] at h5
      rw [g3, getD_app_l (by omega), ← e]
      intro e2
      have := path_le h (getD_mem (show j - 1 < (pathN ns ns[u].up).length by omega))
      omega
    · rw [g3, ← e]; simp [List.getD]
  · rw [if_neg e]
    rw [path_up h hul] at ha
    have ha := ha.resolve_right (fun x => e x.symm)
    obtain ⟨i, hi, hx⟩ := List.mem_iff_getElem.1 ha
    refine heirF_app _ _ (Nat.le_refl _) ⟨i + 1, by omega, ?_, ?_⟩ (by rw [List.length_append]; omega) _ (by omega)
    · rw [g3, List.length_append]; simp; omega
    · rw [g3, Nat.add_sub_cancel, getD_app_l hi, ← hx]; simp [List.getD, hi]
/-! ### Common -/

theorem allK_iff {ns : List NdD} {l : List Int} {a : Int} : ∀ {j : Nat}, allK ns l a j = true ↔ ∀ i, i < j → a ∈ pathN ns (l.getD i 0)
  | 0 => by simp [allK]
  | j + 1 => by
    rw [allK_succ, Bool.and_eq_true, allK_iff, decide_eq_true_iff]
    constructor
    · rintro ⟨h1, h2⟩ i hi
      by_cases e : i = j
      · rw [e]; exact h2
      · exact h1 i (by omega)
    · exact fun h => ⟨fun i hi => h i (by omega), h j (by omega)⟩

theorem allK_mem {ns : List NdD} {l : List Int} {a : Int} : allK ns l a l.length = true ↔ ∀ y ∈ l, a ∈ pathN ns y := by
  rw [allK_iff]
  constructor
  · intro h y hy
    obtain ⟨i, hi, rfl⟩ := List.mem_iff_getElem.1 hy
    have := h i hi
    rwa [show l.getD i 0 = l[i] by simp [List.getD, hi]] at this
  · exact fun h i hi => h _ (getD_mem hi)

theorem comK_spec (ns : List NdD) (l p : List Int) : ∀ k, (comK ns l p k = -1 ∧ ∀ j, j < k → allK ns l (p.getD j 0) l.length = false) ∨ ∃ j, j < k ∧ comK ns l p k = p.getD j 0 ∧ allK ns l (p.getD j 0) l.length = true ∧ ∀ i, j < i → i < k → allK ns l (p.getD i 0) l.length = false
  | 0 => .inl ⟨rfl, fun j hj => by omega⟩
  | k + 1 => by
    cases h : allK ns l (p.getD k 0) l.length
    · rw [comK_no h]
      rcases comK_spec ns l p k with ⟨h1, h2⟩ | ⟨j, h1, h2, h3, h4⟩
      · refine .inl ⟨h1, fun j hj => ?_⟩
        by_cases e : j = k
        · rw [e]; exact h
        · exact h2 j (by omega)
      · refine .inr ⟨j, by omega, h2, h3, fun i h5 h6 => ?_⟩
        by_cases e : i = k
        · rw [e]; exact h
        · exact h4 i h5 (by omega)
    · rw [comK_yes h]
      exact .inr ⟨k, by omega, rfl, h, fun i h5 h6 => by omega⟩

theorem comN_of {ns : List NdD} (hok : TrOK ns) {l : List Int} (hl : 0 < l.length) {c : Nat} (hc : c < ns.length) (h : ∀ x, x ∈ pathN ns (c : Int) ↔ ∀ y ∈ l, x ∈ pathN ns y) : comN ns l = c := by
  have hself := (h _).1 (path_self hok hc)
  have h0 := hself _ (getD_mem hl)
  have hr := path_node h0
  unfold comN
  rw [if_neg (by omega), if_pos hr]
  obtain ⟨z, hz⟩ : ∃ z : Nat, l.getD 0 0 = z := ⟨(l.getD 0 0).toNat, by omega⟩
  rw [hz] at h0 hr ⊢
  have hpw := path_pw hok z (by omega)
  obtain ⟨P, hP⟩ : ∃ P, pathN ns (z : Int) = P := ⟨_, rfl⟩
  rw [hP] at h0 hpw ⊢
  obtain ⟨i0, hi0, hx0⟩ := List.mem_iff_getElem.1 h0
  have hg0 : P.getD i0 0 = c := by rw [← hx0]; simp [List.getD, hi0]
  rcases comK_spec ns l P P.length with ⟨_, h2⟩ | ⟨j, h1, h2, h3, h4⟩
  · have := h2 i0 hi0
    rw [hg0, allK_mem.2 hself] at this; cases this
  · rw [h2]
    have hmem := path_le hok ((h _).2 (allK_mem.1 h3))
    rcases Nat.lt_trichotomy i0 j with hlt | he | hgt
    · have := List.pairwise_iff_getElem.1 hpw i0 j hi0 h1 hlt
      have e2 : P.getD j 0 = P[j] := by simp [List.getD, h1]
      rw [e2] at hmem
      omega
    · rw [← he]; exact hg0
    · have := h4 i0 hgt hi0
      rw [hg0, allK_mem.2 hself] at this; cases this

theorem comN_nil (ns : List NdD) : comN ns [] = -1 := by unfold comN; rw [if_pos (by rfl)]

theorem comN_bad {ns : List NdD} {l : List Int} {y : Int} (hy : y ∈ l) (hb : ¬ (0 ≤ y ∧ y < ns.length)) : comN ns l = -1 := by
  unfold comN
  split
  · rfl
  · split
    · rcases comK_spec ns l (pathN ns (l.getD 0 0)) (pathN ns (l.getD 0 0)).length with ⟨h1, _⟩ | ⟨j, h1, h2, h3, h4⟩
      · exact h1
      · have := allK_mem.1 h3 y hy
        rw [pathN_out hb] at this; cases this
    · rfl

theorem mem_take_succ {l : List Int} {k : Nat} (hk : k < l.length) {y : Int} : y ∈ l.take (k + 1) ↔ y ∈ l.take k ∨ y = l.getD k 0 := by
  rw [List.take_add_one, List.mem_append, List.getElem?_eq_getElem hk]
  simp [List.getD, hk]
/-! ### Descendants -/

theorem selK_none {p : Nat → Bool} : ∀ {k : Nat}, (∀ j, j < k → p j = false) → selK p k = []
  | 0, _ => rfl
  | k + 1, h => by rw [selK_no (h k (by omega)), selK_none (fun j hj => h j (by omega))]

theorem desc_out {ns : List NdD} (h : TrOK ns) {i : Int} (hi : ¬ (0 ≤ i ∧ i < ns.length)) : descN ns i = [] := by
  unfold descN
  refine selK_none fun j hj => decide_eq_false fun hx => hi ?_
  have := pathN_rng h _ _ hx
  omega

/-- The marks up to place k. -/
def undL (ns : List NdD) (i : Int) (m k : Nat) : List Bool := (List.range m).map fun j => decide (j < k) && decide (i ∈ pathN ns (j : Int))

theorem undL_len (ns : List NdD) (i : Int) (m k : Nat) : (undL ns i m k).length = m := by simp [undL]

theorem undL_get {ns : List NdD} {i : Int} {m k j : Nat} (h : j < m) (hk : j < k) : (undL ns i m k).getD j false = decide (i ∈ pathN ns (j : Int)) := by
  simp [undL, List.getD, h, hk]

theorem undL_no {ns : List NdD} {i : Int} {m k : Nat} (h : decide (i ∈ pathN ns (k : Int)) = false) : undL ns i m (k + 1) = undL ns i m k := by
  refine List.map_congr_left fun j hj => ?_
  by_cases e : j = k
  · subst e; rw [h]; simp
  · have : decide (j < k + 1) = decide (j < k) := by apply Bool.eq_iff_iff.2; simp; omega
    rw [this]

theorem undL_set {ns : List NdD} {i : Int} {m k : Nat} (h : decide (i ∈ pathN ns (k : Int)) = true) : (undL ns i m k).set k true = undL ns i m (k + 1) := by
  apply List.ext_getElem?
  intro j
  rw [List.getElem?_set, undL_len]
  by_cases hj : j < m
  · have e1 : (undL ns i m (k + 1))[j]? = some (decide (j < k + 1) && decide (i ∈ pathN ns (j : Int))) := by simp [undL, hj]
    have e2 : (undL ns i m k)[j]? = some (decide (j < k) && decide (i ∈ pathN ns (j : Int))) := by simp [undL, hj]
    rw [e1, e2]
    by_cases e : k = j
    · subst e; simp [hj, h]
    · have : decide (j < k + 1) = decide (j < k) := by apply Bool.eq_iff_iff.2; simp; omega
      rw [if_neg e, this]
  · rw [List.getElem?_eq_none (by rw [undL_len]; omega), List.getElem?_eq_none (by rw [undL_len]; omega)]
    by_cases e : k = j
    · subst e; simp [hj]
    · simp [e]

theorem undL_zero (ns : List NdD) (i : Int) (m : Nat) : List.replicate m false = undL ns i m 0 := by
  apply List.ext_getElem?
  intro j
  simp only [undL, List.getElem?_replicate, List.getElem?_map, List.getElem?_range']
  by_cases h : j < m
  · simp [h]
  · simp [h]

theorem undL_skip {ns : List NdD} (hok : TrOK ns) {i : Nat} (m : Nat) : ∀ {k : Nat}, k ≤ i → undL ns (i : Int) m k = undL ns (i : Int) m 0
  | 0, _ => rfl
  | k + 1, h => by
    rw [undL_no, undL_skip hok m (by omega)]
    exact decide_eq_false fun hx => by have := path_le hok hx; omega

theorem undL_first {ns : List NdD} (hok : TrOK ns) {i : Nat} (hi : i < ns.length) (m : Nat) : (List.replicate m false).set i true = undL ns (i : Int) m (i + 1) := by
  rw [undL_zero ns (i : Int) m, ← undL_skip hok m (Nat.le_refl i)]
  exact undL_set (decide_eq_true (path_self hok hi))

theorem selK_first {ns : List NdD} (hok : TrOK ns) {i : Nat} (hi : i < ns.length) : selK (fun k => decide ((i : Int) ∈ pathN ns (k : Int))) (i + 1) = [(i : Int)] := by
  rw [selK_yes (by exact decide_eq_true (path_self hok hi)), selK_none (fun j hj => decide_eq_false fun hx => by have := path_le hok hx; omega)]
  rfl
end

/-! AnA -/
section
set_option linter.unusedVariables false
set_option linter.unusedSimpArgs false
open Go.RowKit

set_option maxRecDepth 100000
/-! ### IsAncestor -/

/-- The answer is that of the node where the walk stands. -/
def IsaI (w : World) (T : Array Value) (ns : List NdD) (a : Int) (r : Bool) (b : Value) (wr : World) : Prop :=
  ∃ k : Nat, k < ns.length ∧ b = .int .i64 k ∧ decide (a ∈ pathN ns (k : Int)) = r ∧ PaS w T wr
end

/-! AnB -/
section
set_option linter.unusedVariables false
set_option linter.unusedSimpArgs false
open Go.RowKit

set_option maxRecDepth 100000
/-! ### At -/

def AtcI (w : World) (T : Array Value) (ns : List NdD) (s r : Int) (iv : Value) (wr : World) : Prop :=
  ∃ i : Int, -1 ≤ i ∧ i < ns.length ∧ iv = .int .i64 i ∧ atP ns i s = r ∧ PaS w T wr
/-! ### Heir -/

def HecI (w : World) (T : Array Value) (ns : List NdD) (x r : Int) (bv : Value) (wr : World) : Prop :=
  ∃ k : Nat, k < ns.length ∧ x ∈ pathN ns (k : Int) ∧ x ≠ k ∧ bv = .int .i64 k ∧ heirN ns x (k : Int) = r ∧ PaS w T wr

theorem heirN_self {ns : List NdD} (h : TrOK ns) (x : Int) : heirN ns x x = -1 := by
  by_cases hx : 0 ≤ x ∧ x < ns.length
  · obtain ⟨k, rfl⟩ : ∃ k : Nat, x = k := ⟨x.toNat, by omega⟩
    have hk : k < ns.length := by omega
    refine heirN_no h hk fun hm => ?_
    have h1 := path_le h hm
    have h2 := (up_path h hk).2.1
    omega
  · exact heirN_out hx

theorem heirN_not {ns : List NdD} (h : TrOK ns) {x y : Int} (hn : x ∉ pathN ns y) : heirN ns x y = -1 := by
  by_cases hx : 0 ≤ y ∧ y < ns.length
  · obtain ⟨k, rfl⟩ : ∃ k : Nat, y = k := ⟨y.toNat, by omega⟩
    have hk : k < ns.length := by omega
    exact heirN_no h hk fun hm => hn ((path_up h hk).2 (.inl hm))
  · exact heirN_out hx
end

/-! AnC -/
section
set_option linter.unusedVariables false
set_option linter.unusedSimpArgs false
open Go.RowKit

set_option maxRecDepth 100000
/-! ### meet -/

/-- Both nodes have the same common ancestors as at the start. -/
def MeI (w : World) (T : Array Value) (ns : List NdD) (A : Int → Prop) (av bv : Value) (wr : World) : Prop :=
  ∃ i j : Nat, i < ns.length ∧ j < ns.length ∧ av = .int .i64 i ∧ bv = .int .i64 j ∧ (∀ x, (x ∈ pathN ns (i : Int) ∧ x ∈ pathN ns (j : Int)) ↔ A x) ∧ PaS w T wr

/-- What meet promises. -/
def MeE (ns : List NdD) (A : Int → Prop) (w : World) (e : Ending) (w' : World) : Prop :=
  ∃ c : Nat, e = .returned (.int .i64 c) ∧ c < ns.length ∧ (∀ x, x ∈ pathN ns (c : Int) ↔ A x) ∧ Below w.heap.size w w'
/-! ### Common -/

def CmP (ns : List NdD) (l : List Int) (k : Nat) (cv : Int) : Prop :=
  (k = 0 ∧ cv = -1) ∨ (0 < k ∧ ∃ c : Nat, cv = c ∧ c < ns.length ∧ ∀ x, x ∈ pathN ns (c : Int) ↔ ∀ y ∈ l.take k, x ∈ pathN ns y)

def CmI (w : World) (T : Array Value) (ns : List NdD) (l : List Int) (cv kv : Value) (wr : World) : Prop :=
  ∃ (k : Nat) (c : Int), k ≤ l.length ∧ kv = .int .i64 k ∧ cv = .int .i64 c ∧ CmP ns l k c ∧ PaS w T wr

theorem CmP.first {ns : List NdD} {l : List Int} (hl : 0 < l.length) {z c : Nat} (hz : l.getD 0 0 = z) (hc : c < ns.length) (h : ∀ x, x ∈ pathN ns (c : Int) ↔ (x ∈ pathN ns (z : Int) ∧ x ∈ pathN ns (z : Int))) : CmP ns l 1 c := by
  refine .inr ⟨by omega, c, rfl, hc, fun x => ?_⟩
  rw [h x]
  constructor
  · rintro ⟨h1, _⟩ y hy
    rcases (mem_take_succ (k := 0) hl).1 hy with h2 | h2
    · simp at h2
    · rw [h2, hz]; exact h1
  · intro h1
    have := h1 _ ((mem_take_succ (k := 0) hl).2 (.inr rfl))
    rw [hz] at this
    exact ⟨this, this⟩

theorem CmP.next {ns : List NdD} {l : List Int} {k : Nat} (hl : k < l.length) {z c p : Nat} (hp : ∀ x, x ∈ pathN ns (p : Int) ↔ ∀ y ∈ l.take k, x ∈ pathN ns y) (hz : l.getD k 0 = z) (hc : c < ns.length) (h : ∀ x, x ∈ pathN ns (c : Int) ↔ (x ∈ pathN ns (p : Int) ∧ x ∈ pathN ns (z : Int))) : CmP ns l (k + 1) c := by
  refine .inr ⟨by omega, c, rfl, hc, fun x => ?_⟩
  rw [h x, hp x]
  constructor
  · rintro ⟨h1, h2⟩ y hy
    rcases (mem_take_succ hl).1 hy with h3 | h3
    · exact h1 y h3
    · rw [h3, hz]; exact h2
  · intro h1
    refine ⟨fun y hy => h1 y ((mem_take_succ hl).2 (.inl hy)), ?_⟩
    have := h1 _ ((mem_take_succ hl).2 (.inr rfl))
    rwa [hz] at this

theorem CmP.last {ns : List NdD} (hok : TrOK ns) {l : List Int} {c : Int} (h : CmP ns l l.length c) : comN ns l = c := by
  rcases h with ⟨h1, rfl⟩ | ⟨h1, c, rfl, hc, hx⟩
  · rw [List.eq_nil_of_length_eq_zero h1]; exact comN_nil ns
  · rw [List.take_length] at hx
    exact comN_of hok h1 hc hx
end

/-! BtD -/
section
set_option linter.unusedVariables false
set_option linter.unusedSimpArgs false
open Go.RowKit

set_option maxRecDepth 100000

/-- '[]int{}'. -/
theorem bs_int0 (u : World) : (Instr.buildSlice 40 0 #[]).run Try.prog u = .ok (.slice (some ⟨u.heap.size, 0, none⟩) 0 0) (u.alloc (.cells #[] 3)) := by kernel_rfl

theorem own_int0 {u : World} {B : Nat} (hB : B ≤ u.heap.size) : OwnK .i64 3 (u.alloc (.cells #[] 3)) B (.slice (some ⟨u.heap.size, 0, none⟩) 0 0) [] :=
  World.ownsRow_made u #[] 0 hB (Nat.zero_le _) (by simp)

/-- Truth values as cells of a row. -/
def bolL (xs : List Bool) : List (List Value) := xs.map fun x => [Value.bool x]

theorem bolL_sz (xs : List Bool) : ∀ L ∈ bolL xs, L.length = 1 := fun L hL => by
  obtain ⟨x, _, rfl⟩ := List.mem_map.1 hL
  rfl

theorem bolL_flat (xs : List Bool) : (bolL xs).flatten = xs.map Value.bool := by
  induction xs with
  | nil => rfl
  | cons x r ih => simp only [bolL, List.map_cons, List.flatten_cons] at *; rw [ih]; rfl

theorem bolL_len (xs : List Bool) : (bolL xs).length = xs.length := by simp [bolL]

theorem RowB.bol {w : World} {g : Nat} {xs : List Bool} (h : RowB w g (bolL xs)) {i : Nat} (hi : i < xs.length) : w.cell? ⟨g, i, none⟩ = some (.bool (xs.getD i false)) := by
  have h1 := h.cell (bolL_sz xs) (k := i) (j := 0) (L := [.bool (xs.getD i false)]) (v := .bool (xs.getD i false)) (by simp [bolL, List.getD, List.getElem?_eq_getElem hi]) rfl
  rw [Nat.mul_one, Nat.add_zero] at h1
  exact h1

theorem wpList_store_bol {P : Program} {ops : Array Oper} {rest : List Oper} {op : Oper} {a : Act} {w : World} {Q : Exit → Act → World → Prop} (hgd : op.guard = none) (ty : TypeId) (x y : Operand) (ho : op.op = .store ty x y)
    (g i : Nat) (xs : List Bool) (n : Bool) (hB : RowB w g (bolL xs)) (hk : i < xs.length) (hx : a.eval x = .pointer (some ⟨g, i, none⟩)) (hy : a.eval y = .bool n) (hi : (P.info? ty).map (·.size) = some 1)
    (h : ∀ w', Upd g w w' → RowB w' g (bolL (xs.set i n)) → wpList P ops Q rest (a.put op.dst undef) w') : wpList P ops Q (op :: rest) a w := by
  obtain ⟨sp, hB⟩ := hB
  have hl : i < (bolL xs).length := by rw [bolL_len]; exact hk
  refine wpList_store_part1 hgd ty x y ho g (bolL xs ++ [sp]) i (.bool (xs.getD i false)) (.bool n) hB (by rw [List.getElem?_append_left hl]; simp [bolL, List.getD, List.getElem?_eq_getElem hk]) (by rw [offP_row (bolL_sz xs) sp hl, Nat.mul_one]; exact hx) hy hi rfl rfl ?_
  intro w' U B
  refine h w' U ⟨sp, ?_⟩
  rw [List.set_append_left _ _ hl] at B
  rw [show bolL (xs.set i n) = (bolL xs).set i [.bool n] from by simp [bolL, List.map_set]]
  exact B
/-! ### Depth -/

def DepI (w : World) (T : Array Value) (ns : List NdD) (L : Nat) (i d : Value) (wr : World) : Prop :=
  ∃ iv dv : Int, i = .int .i64 iv ∧ d = .int .i64 dv ∧ 0 ≤ dv ∧ dv + (pathN ns iv).length = L ∧ (-9223372036854775808 ≤ iv ∧ iv ≤ 9223372036854775807) ∧ PaS w T wr

theorem up_step {ns : List NdD} (h : TrOK ns) {k : Nat} (hk : k < ns.length) : ∃ u : Int, ns[k].up = u ∧ -1 ≤ u ∧ u < k ∧ (pathN ns (k : Int)).length = (pathN ns u).length + 1 := by
  by_cases h0 : k = 0
  · subst h0
    refine ⟨-1, h.root hk, by omega, by omega, ?_⟩
    rw [show ((0 : Nat) : Int) = 0 from rfl, pathN_zero hk, pathN_out (by omega)]
    rfl
  · obtain ⟨h1, h2, h3⟩ := h.upAt hk (by omega)
    refine ⟨_, h3, by omega, by omega, ?_⟩
    rw [pathN_step h hk (by omega), List.length_append]
    rfl
/-! ### Leaves -/

def markB (ns : List NdD) (k j : Nat) : Bool := (List.range k).any fun i => decide (upI ns i = (j : Int))

def markL (ns : List NdD) (m k : Nat) : List Bool := (List.range m).map (markB ns k)

theorem markL_len (ns : List NdD) (m k : Nat) : (markL ns m k).length = m := by simp [markL]

theorem markL_zero (ns : List NdD) (m : Nat) : List.replicate m false = markL ns m 0 := by
  apply List.ext_getElem?
  intro j
  simp only [markL, List.getElem?_replicate, List.getElem?_map, List.getElem?_range']
  by_cases h : j < m
  · simp [h, markB]
  · simp [h]

theorem markB_succ (ns : List NdD) (k j : Nat) : markB ns (k + 1) j = (markB ns k j || decide (upI ns k = (j : Int))) := by
  simp [markB, List.range_succ]

theorem markL_get (ns : List NdD) (m k j : Nat) (h : j < m) : (markL ns m k).getD j false = markB ns k j := by
  simp [markL, List.getD, h]

theorem markL_skip {ns : List NdD} {m k : Nat} (h : ¬ (0 ≤ upI ns k ∧ upI ns k < m)) : markL ns m (k + 1) = markL ns m k := by
  refine List.map_congr_left fun j hj => ?_
  rw [markB_succ]
  have : decide (upI ns k = (j : Int)) = false := decide_eq_false (fun e => h (by have := List.mem_range.1 hj; omega))
  rw [this, Bool.or_false]

theorem markL_set {ns : List NdD} {m k u : Nat} (h : upI ns k = (u : Int)) : (markL ns m k).set u true = markL ns m (k + 1) := by
  apply List.ext_getElem?
  intro j
  rw [List.getElem?_set, markL_len]
  by_cases hj : j < m
  · have e1 : (markL ns m (k + 1))[j]? = some (markB ns (k + 1) j) := by simp [markL, hj]
    have e2 : (markL ns m k)[j]? = some (markB ns k j) := by simp [markL, hj]
    rw [e1, e2, markB_succ, h]
    by_cases e : u = j
    · subst e; simp [hj]
    · have : decide ((u : Int) = (j : Int)) = false := decide_eq_false (by omega)
      rw [this, if_neg e, Bool.or_false]
  · have e1 : (markL ns m (k + 1))[j]? = none := List.getElem?_eq_none (by rw [markL_len]; omega)
    have e2 : (markL ns m k)[j]? = none := List.getElem?_eq_none (by rw [markL_len]; omega)
    rw [e1, e2]
    by_cases e : u = j
    · subst e; simp [hj]
    · simp [e]

theorem selK_congr {p q : Nat → Bool} : ∀ {k : Nat}, (∀ j, j < k → p j = q j) → selK p k = selK q k
  | 0, _ => rfl
  | k + 1, h => by
    have ih := selK_congr (k := k) (fun j hj => h j (by omega))
    have hk := h k (by omega)
    cases e : p k
    · rw [selK_no e, selK_no (hk ▸ e), ih]
    · rw [selK_yes e, selK_yes (hk ▸ e), ih]

theorem leaf_mark (ns : List NdD) : leafN ns = selK (fun j => !markB ns ns.length j) ns.length := by
  refine selK_congr fun j hj => ?_
  have hc : childN ns (j : Int) = selK (fun k => decide (upI ns k = (j : Int))) ns.length := by unfold childN; rw [if_pos (by omega)]
  rw [hc]
  cases hm : markB ns ns.length j
  · refine decide_eq_true (Nat.eq_zero_of_not_pos fun h => ?_)
    obtain ⟨x, hx⟩ := List.exists_mem_of_length_pos h
    obtain ⟨i, h1, _, h3⟩ := selK_mem.1 hx
    have : markB ns ns.length j = true := List.any_eq_true.2 ⟨i, List.mem_range.2 h1, h3⟩
    rw [hm] at this; cases this
  · refine decide_eq_false fun h => ?_
    obtain ⟨i, h1, h2⟩ := List.any_eq_true.1 hm
    have hx : (i : Int) ∈ selK (fun k => decide (upI ns k = (j : Int))) ns.length := selK_mem.2 ⟨i, List.mem_range.1 h1, rfl, h2⟩
    rw [List.eq_nil_of_length_eq_zero h] at hx; cases hx

/-- The tree's variable, and the marks. -/
structure LeS (w : World) (T : Array Value) (xs : List Bool) (u : World) : Prop where
  p : PaS w T u
  r : RowB u (w.heap.size + 1) (bolL xs)

theorem LeS.call {w u u' : World} {T : Array Value} {xs : List Bool} (h : LeS w T xs u) (hb : Below u.heap.size u u') : LeS w T xs u' := ⟨h.p.call hb, h.r.call hb⟩

theorem LeS.grown {w u u' : World} {T : Array Value} {xs : List Bool} {row : Option Nat} (h : LeS w T xs u) (hg : u.grownBy u' row) (hr : ∀ j, row = some j → w.heap.size + 1 < j) : LeS w T xs u' := ⟨h.p.grown hg (fun j hj => by have := hr j hj; omega), h.r.grown hg (fun e => by have := hr _ e.symm; omega)⟩

def LeI (w : World) (T : Array Value) (ns : List NdD) (m : Nat) (i : Value) (wr : World) : Prop :=
  ∃ k : Nat, k ≤ m ∧ i = .int .i64 k ∧ LeS w T (markL ns m k) wr

def LeJ (w : World) (T : Array Value) (xs : List Bool) (p : Nat → Bool) (m : Nat) (v i : Value) (wr : World) : Prop :=
  ∃ k : Nat, k ≤ m ∧ i = .int .i64 k ∧ OwnK .i64 3 wr (w.heap.size + 2) v (selK p k) ∧ LeS w T xs wr

theorem OwnK.off2 {w wr : World} {v : Value} {xs : List Int} (h : OwnK .i64 3 wr (w.heap.size + 2) v xs) : ∀ j, v.ownBlock = some j → w.heap.size + 1 < j := fun j hj => by have := (h.lt j hj).1; omega
end

/-! AnD -/
section
set_option linter.unusedVariables false
set_option linter.unusedSimpArgs false
open Go.RowKit

set_option maxRecDepth 100000

theorem wpList_makeN {ops : Array Oper} {rest : List Oper} {o : Oper} {a : Act} {w : World} {Q : Exit → Act → World → Prop} (hg : o.guard = none) (l : Operand) (hop : o.op = Op.makeSlice 40 l l)
    (kl : IntKind) (n : Nat) (hl : a.eval l = .int kl (n : Int)) (hn : n ≤ 1000000)
    (hK : ∀ w', Below w.heap.size w w' → RowB w' w.heap.size (numL .i64 (List.replicate n 0)) → wpList Try.prog ops Q rest (a.put o.dst (.slice (some ⟨w.heap.size, 0, none⟩) n n)) w') : wpList Try.prog ops Q (o :: rest) a w := by
  obtain ⟨i0, hi0, hz0, hz1, hz2⟩ := info_parts info_int
  refine wpList_plain hg fun _ hK' => ?_
  have hr := run_make (P := Try.prog) w 40 3 i0 (.int .i64 0) Try.underlying40 hi0 hz0 kl kl n n (by omega) (by omega) (by rw [hz2]; omega) (by omega)
  simp only [Int.toNat_natCast, hz1, Nat.mul_one] at hr
  have hm : madeCells (Value.int .i64 0).cells n = flatP (numL .i64 (List.replicate n 0) ++ [[]]) := by
    apply Array.toList_inj.1
    rw [show (Value.int .i64 0).cells = #[Value.int .i64 0] from rfl, toList_madeCells_one]
    unfold flatP
    rw [List.flatten_append, numL_flat]
    simp
  rw [hm] at hr
  unfold Oper.wp
  simp only [execOp, hop, hl, Sem.run_bind, hr, Result.andThen, Sem.run_pure]
  exact hK' _ _ (hK _ ((Below.refl _ w).alloc (Nat.le_refl _) _) ⟨[], Blk.new rfl⟩)
/-! ### Path -/

theorem set_rep (n : Nat) (x : Int) (D : List Int) : (List.replicate (n + 1) 0 ++ D).set n x = List.replicate n 0 ++ x :: D := by
  rw [List.replicate_succ', List.append_assoc, List.set_append_right _ _ (by simp)]
  simp

def PacI (w : World) (T : Array Value) (ns : List NdD) (g : Nat) (x : Int) (iv pv : Value) (wr : World) : Prop :=
  ∃ (i p : Int) (D : List Int), iv = .int .i64 i ∧ pv = .int .i64 p ∧ p + 1 = ((pathN ns i).length : Nat) ∧ pathN ns x = pathN ns i ++ D ∧ RowB wr g (numL .i64 (List.replicate (pathN ns i).length 0 ++ D)) ∧ PaS w T wr

/-- What Path promises here. -/
def PacE (ns : List NdD) (x : Int) (w : World) (e : Ending) (w' : World) : Prop := ∃ v', e = .returned v' ∧ IntsV w' v' (pathN ns x) ∧ Below w.heap.size w w'
/-! ### Descendants -/

def DecI (w : World) (T : Array Value) (g : Nat) (ns : List NdD) (x m : Nat) (p : Nat → Bool) (dv cv : Value) (wr : World) : Prop :=
  ∃ k : Nat, x < k ∧ k ≤ m ∧ cv = .int .i64 k ∧ OwnK .i64 3 wr (g + 1) dv (selK p k) ∧ RowB wr g (bolL (undL ns (x : Int) m k)) ∧ PaS w T wr

theorem OwnK.offG {g : Nat} {wr : World} {v : Value} {xs : List Int} (h : OwnK .i64 3 wr (g + 1) v xs) : ∀ j, v.ownBlock = some j → g < j := fun j hj => by have := (h.lt j hj).1; omega
end

/-! AnE -/
section
set_option linter.unusedVariables false
set_option linter.unusedSimpArgs false
open Go.RowKit

set_option maxRecDepth 100000
/-! ### awake's chain -/

def anA : BkD := bk4 0 (rootK 1) zeroR zeroR

def anB : BkD := bk4 3 (rootK 2) (rootK 1) zeroR

def anC : BkD := bk4 5 (rootK 3) (rootK 2) zeroR

def an3 : List NdD := [⟨anA, -1, 0⟩, ⟨anB, 0, 0⟩, ⟨anC, 1, 0⟩]

theorem anA_ok : anA.ok := bk4_ok (by omega) (rootK_is 1) zeroR_is zeroR_is

theorem anB_ok : anB.ok := bk4_ok (by omega) (rootK_is 2) (rootK_is 1) zeroR_is

theorem anC_ok : anC.ok := bk4_ok (by omega) (rootK_is 3) (rootK_is 2) zeroR_is

theorem an3_ok : TrOK an3 := by
  have h1 : TrOK [(⟨anA, -1, 0⟩ : NdD)] := TrOK.one anA 0 (by omega)
  have e1 : (insT [(⟨anA, -1, 0⟩ : NdD)] anB 0).2 = 0 := by
    have h1 : findN [(⟨anA, -1, 0⟩ : NdD)] anB.root = -1 := by kernel_rfl
    have h2 : findN [(⟨anA, -1, 0⟩ : NdD)] anB.parent = 0 := by kernel_rfl
    have h3 : slotAt [(⟨anA, -1, 0⟩ : NdD)] 0 = 0 := by kernel_rfl
    unfold insT
    rw [h1, h2, h3, if_neg (by omega), if_neg (by omega), if_neg (by omega), if_neg (by decide), if_neg (by decide)]
  have h2 := (h1.add (q := 0) (by simp) (x := anB) (st := 0) rfl (by omega) (fun h => by cases h) (fun h => by cases h) e1).2
  have e2 : (insT ([(⟨anA, -1, 0⟩ : NdD)] ++ [⟨anB, (0 : Nat), 0⟩]) anC 0).2 = 0 := by
    have h1 : findN ([(⟨anA, -1, 0⟩ : NdD)] ++ [⟨anB, (0 : Nat), 0⟩]) anC.root = -1 := by kernel_rfl
    have h2 : findN ([(⟨anA, -1, 0⟩ : NdD)] ++ [⟨anB, (0 : Nat), 0⟩]) anC.parent = 1 := by kernel_rfl
    have h3 : slotAt ([(⟨anA, -1, 0⟩ : NdD)] ++ [⟨anB, (0 : Nat), 0⟩]) 1 = 3 := by kernel_rfl
    unfold insT
    rw [h1, h2, h3, if_neg (by omega), if_neg (by omega), if_neg (by omega), if_neg (by decide), if_neg (by decide)]
  exact (h2.add (q := 1) (by simp) (x := anC) (st := 0) rfl (by omega) (fun h => by cases h) (fun h => by cases h) e2).2

theorem an_at : atP an3 2 4 = 1 := by kernel_rfl

theorem an_heir : heirN an3 0 2 = 1 := by kernel_rfl

theorem an_path : pathN an3 2 = [0, 1, 2] := by kernel_rfl
end

/-! AnF -/
section
set_option linter.unusedVariables false
set_option linter.unusedSimpArgs false
open Go.RowKit

set_option maxRecDepth 100000

theorem path_cmp {ns : List NdD} (h : TrOK ns) {x y : Int} : ∀ k : Nat, k < ns.length → x ∈ pathN ns (k : Int) → y ∈ pathN ns (k : Int) → x ≤ y → x ∈ pathN ns y := by
  intro k
  induction k using Nat.strongRecOn with
  | ind k ih =>
    intro hk hx hy hxy
    by_cases e : y = (k : Int)
    · rw [e]; exact hx
    · have hy2 := ((path_up h hk).1 hy).resolve_right e
      have hyk := path_le h hy
      have hx2 := ((path_up h hk).1 hx).resolve_right (by omega)
      have hr := path_node hy2
      have hu := (up_path h hk).2.1
      obtain ⟨u, hu2⟩ : ∃ u : Nat, ns[k].up = u := ⟨ns[k].up.toNat, by omega⟩
      rw [hu2] at hx2 hy2 hr hu
      exact ih u (by omega) (by omega) hx2 hy2 hxy

theorem path_trans {ns : List NdD} (h : TrOK ns) {x y : Int} : ∀ k : Nat, k < ns.length → x ∈ pathN ns y → y ∈ pathN ns (k : Int) → x ∈ pathN ns (k : Int) := by
  intro k
  induction k using Nat.strongRecOn with
  | ind k ih =>
    intro hk hx hy
    by_cases e : y = (k : Int)
    · rw [← e]; exact hx
    · have hy2 := ((path_up h hk).1 hy).resolve_right e
      have hr := path_node hy2
      have hu := (up_path h hk).2.1
      obtain ⟨u, hu2⟩ : ∃ u : Nat, ns[k].up = u := ⟨ns[k].up.toNat, by omega⟩
      rw [hu2] at hy2 hr hu
      refine (path_up h hk).2 (.inl ?_)
      rw [hu2]
      exact ih u (by omega) (by omega) hx hy2

theorem path_root {ns : List NdD} (h : TrOK ns) : ∀ k : Nat, k < ns.length → (0 : Int) ∈ pathN ns (k : Int) := by
  intro k
  induction k using Nat.strongRecOn with
  | ind k ih =>
    intro hk
    by_cases h0 : k = 0
    · subst h0; exact path_self h hk
    · obtain ⟨g1, g2, g3⟩ := h.upAt hk (by omega)
      refine (path_up h hk).2 (.inl ?_)
      rw [g3]
      exact ih _ g1 g2

theorem at_spec {ns : List NdD} (h : TrOK ns) (s : Int) : ∀ k : Nat, (hk : k < ns.length) →
    (atP ns (k : Int) s = -1 ∧ ∀ j (hj : j < ns.length), (j : Int) ∈ pathN ns (k : Int) → s < ns[j].b.slot) ∨
    ∃ j : Nat, ∃ hj : j < ns.length, atP ns (k : Int) s = j ∧ (j : Int) ∈ pathN ns (k : Int) ∧ ns[j].b.slot ≤ s ∧ ∀ i (hi : i < ns.length), (i : Int) ∈ pathN ns (k : Int) → j < i → s < ns[i].b.slot := by
  intro k
  induction k using Nat.strongRecOn with
  | ind k ih =>
    intro hk
    rw [atP_step h hk s]
    by_cases hs : ns[k].b.slot ≤ s
    · rw [if_pos hs]
      refine .inr ⟨k, hk, rfl, path_self h hk, hs, fun i hi hm hlt => ?_⟩
      have := path_le h hm; omega
    · rw [if_neg hs]
      have hup := up_path h hk
      by_cases h0 : k = 0
      · subst h0
        have e := h.root hk
        rw [e]
        refine .inl ⟨atP_out (by omega), fun j hj hm => ?_⟩
        have := path_le h hm
        obtain rfl : j = 0 := by omega
        omega
      · obtain ⟨g1, g2, g3⟩ := h.upAt hk (by omega)
        rw [g3]
        have hpu : ∀ x : Int, x ∈ pathN ns (k : Int) → x ∈ pathN ns (upAt ns k : Int) ∨ x = k := fun x hx => by have := (path_up h hk).1 hx; rwa [g3] at this
        rcases ih _ g1 g2 with ⟨h1, h2⟩ | ⟨j, hj, h1, h2, h3, h4⟩
        · refine .inl ⟨h1, fun i hi hm => ?_⟩
          rcases hpu _ hm with hm | hm
          · exact h2 i hi hm
          · obtain rfl : i = k := by omega
            omega
        · refine .inr ⟨j, hj, h1, (path_up h hk).2 (.inl (by rw [g3]; exact h2)), h3, fun i hi hm hlt => ?_⟩
          rcases hpu _ hm with hm | hm
          · exact h4 i hi hm hlt
          · obtain rfl : i = k := by omega
            omega

theorem i64_and31 (n : Int) : bits .and .i64 n 31 = n % 32 := by
  have h3 : (BitVec.ofInt 64 31).toNat = 2 ^ 5 - 1 := by decide
  have key : (BitVec.ofInt 64 n &&& BitVec.ofInt 64 31).toNat = (n % ((2 ^ 64 : Nat) : Int)).toNat % 2 ^ 5 := by
    rw [BitVec.toNat_and, BitVec.toNat_ofInt, h3, Nat.and_two_pow_sub_one_eq_mod]
  show IntKind.i64.wrap ((BitVec.ofInt 64 n &&& BitVec.ofInt 64 31).toNat : Nat) = n % 32
  rw [key, IntKind.wrap_i64]
  omega

theorem i64_and31_nat (n : Int) : ∃ m : Nat, m ≤ 31 ∧ bits .and .i64 n 31 = m := ⟨(n % 32).toNat, by omega, by rw [i64_and31]; omega⟩

theorem u64_and31_nat (n : Int) : ∃ m : Nat, m ≤ 31 ∧ bits .and .u64 n 31 = m := by
  have h3 : (BitVec.ofInt 64 31).toNat = 2 ^ 5 - 1 := by decide
  have key : (BitVec.ofInt 64 n &&& BitVec.ofInt 64 31).toNat = (n % ((2 ^ 64 : Nat) : Int)).toNat % 2 ^ 5 := by
    rw [BitVec.toNat_and, BitVec.toNat_ofInt, h3, Nat.and_two_pow_sub_one_eq_mod]
  refine ⟨(n % ((2 ^ 64 : Nat) : Int)).toNat % 2 ^ 5, by omega, ?_⟩
  show IntKind.u64.wrap ((BitVec.ofInt 64 n &&& BitVec.ofInt 64 31).toNat : Nat) = _
  rw [key, IntKind.wrap_u64]
  omega

/-- A number is stored into a row that its function owns. -/
theorem wpList_store_own {P : Program} {ops : Array Oper} {rest : List Oper} {op : Oper} {a : Act} {w : World} {Q : Exit → Act → World → Prop} (hgd : op.guard = none) (ty : TypeId) (x y : Operand) (ho : op.op = .store ty x y)
    (k : IntKind) (e : TypeId) (B g cap i : Nat) (xs : List Int) (n : Int) (h : OwnK k e w B (.slice (some ⟨g, 0, none⟩) xs.length cap) xs) (hk : i < xs.length) (hx : a.eval x = .pointer (some ⟨g, i, none⟩)) (hy : a.eval y = .int k n) (hi : (P.info? ty).map (·.size) = some 1)
    (hK : ∀ w', w.grownBy w' (some g) → OwnK k e w' B (.slice (some ⟨g, 0, none⟩) (xs.set i n).length cap) (xs.set i n) → wpList P ops Q rest (a.put op.dst undef) w') : wpList P ops Q (op :: rest) a w := by
  have hcell := World.ownsRow.cellAt h i (by omega)
  have hfro := World.ownsRow.frozenAt h i
  obtain ⟨h1, h2⟩ := World.ownsRow.stored h i (.int k n)
  have hr := run_storeCells_cells (P := P) g i [.int k n] 0 w (fun j hj => by
    obtain rfl : j = 0 := by simpa using hj
    show (w.cell? ⟨g, i, none⟩).isSome = true
    rw [hcell, List.getElem?_map, List.getElem?_eq_getElem hk]; rfl) (fun j hj => by
    obtain rfl : j = 0 := by simpa using hj
    exact hfro) (fun z hz => by rw [List.mem_singleton.1 hz]; rfl)
  refine wpList_plain hgd fun _ hK' => ?_
  unfold Oper.wp execOp
  cases hq : P.info? ty with
  | none => simp [hq] at hi
  | some t =>
    have hs : t.size = 1 := by simpa [hq] using hi
    simp only [Nat.add_zero] at hr
    have hsv : (storeVar ty ⟨g, i, none⟩ (.int k n)).run P w = .ok () (w.setCells g i [.int k n]) := by
      simp [storeVar, sizeOf, typeInfo, hq, Value.cells, hs, hr]
    simp only [ho, hx, hy, Instr.storeAt, Instr.sureAddr, Sem.run_bind, Sem.run_pure, Result.andThen_ok, hsv]
    refine hK' _ _ (hK _ h2 ?_)
    have e1 : (xs.map (Value.int k)).set i (.int k n) = (xs.set i n).map (Value.int k) := by rw [List.map_set]
    rw [e1] at h1
    show (w.setCell ⟨g, i, none⟩ (.int k n)).ownsRow B e 1 _ _ _
    rw [List.length_set]
    exact h1

/-- A row of the call's own, from block B on, grows. -/
theorem AnS.grown {w u u' : World} {bt B : Nat} {s : Value} {ns : List NdD} {row : Option Nat} (h : AnS w bt s ns u) (hg : u.grownBy u' row) (hr : ∀ j, row = some j → B ≤ j) (h1 : bt < B) (h2 : w.heap.size ≤ B) (hoff : ∀ g, B ≤ g → Off g s) : AnS w bt s ns u' := by
  refine ⟨h.t.grown hg (fun e => by have := hr _ e.symm; omega), ?_, h.b.grown hg h.b.size (fun j hj => by have := hr j hj; omega)⟩
  cases row with
  | none =>
    refine h.n.grownOff (g := u.heap.size + B) ⟨hg.os, hg.tape, hg.output, hg.size, fun k hk _ => hg.block k hk (by simp)⟩ (hoff _ (by omega))
  | some j => exact h.n.grownOff hg (hoff _ (hr j rfl))

/-- Two nodes have a last common ancestor. -/
theorem meet_ex {ns : List NdD} (h : TrOK ns) : ∀ n p q : Nat, p + q ≤ n → p < ns.length → q < ns.length → ∃ c : Nat, c < ns.length ∧ ∀ x, x ∈ pathN ns (c : Int) ↔ (x ∈ pathN ns (p : Int) ∧ x ∈ pathN ns (q : Int)) := by
  intro n
  induction n with
  | zero =>
    intro p q h1 hp hq
    obtain rfl : p = q := by omega
    exact ⟨p, hp, fun x => ⟨fun h => ⟨h, h⟩, fun h => h.1⟩⟩
  | succ n ih =>
    intro p q h1 hp hq
    rcases Nat.lt_trichotomy p q with hlt | rfl | hgt
    · obtain ⟨g1, g2, g3⟩ := h.upAt hq (by omega)
      obtain ⟨c, hc, hx⟩ := ih p (upAt ns q) (by omega) hp g2
      refine ⟨c, hc, fun x => ?_⟩
      rw [hx x, path_up h hq, g3]
      exact ⟨fun h => ⟨h.1, .inl h.2⟩, fun h2 => ⟨h2.1, h2.2.resolve_right (fun e => by have := path_le h h2.1; omega)⟩⟩
    · exact ⟨p, hp, fun x => ⟨fun h => ⟨h, h⟩, fun h => h.1⟩⟩
    · obtain ⟨g1, g2, g3⟩ := h.upAt hp (by omega)
      obtain ⟨c, hc, hx⟩ := ih (upAt ns p) q (by omega) g2 hq
      refine ⟨c, hc, fun x => ?_⟩
      rw [hx x, path_up h hp, g3]
      exact ⟨fun h => ⟨.inl h.1, h.2⟩, fun h2 => ⟨h2.1.resolve_right (fun e => by have := path_le h h2.2; omega), h2.2⟩⟩

theorem heir_spec {ns : List NdD} (h : TrOK ns) {a : Int} : ∀ k : Nat, (hk : k < ns.length) → a ∈ pathN ns (k : Int) → a ≠ k → ∃ j : Nat, ∃ hj : j < ns.length, heirN ns a (k : Int) = j ∧ ns[j].up = a ∧ (j : Int) ∈ pathN ns (k : Int) := by
  intro k
  induction k using Nat.strongRecOn with
  | ind k ih =>
    intro hk ha hne
    have ha2 := ((path_up h hk).1 ha).resolve_right hne
    rw [heirN_up h hk ha2]
    have hr := path_node ha2
    have hu := (up_path h hk).2.1
    by_cases e : ns[k].up = a
    · rw [if_pos e]; exact ⟨k, hk, rfl, e, path_self h hk⟩
    · rw [if_neg e]
      obtain ⟨u, hu2⟩ : ∃ u : Nat, ns[k].up = u := ⟨ns[k].up.toNat, by omega⟩
      rw [hu2] at ha2 e hr hu ⊢
      obtain ⟨j, hj, h1, h2, h3⟩ := ih u (by omega) (by omega) ha2 (fun x => e x.symm)
      exact ⟨j, hj, h1, h2, (path_up h hk).2 (.inl (by rw [hu2]; exact h3))⟩

theorem com_two {ns : List NdD} (h : TrOK ns) {p q : Nat} (hp : p < ns.length) (hq : q < ns.length) : ∃ c : Nat, c < ns.length ∧ comN ns [(p : Int), (q : Int)] = c ∧ comN ns [(q : Int), (p : Int)] = c ∧ (c : Int) ∈ pathN ns (p : Int) ∧ (c : Int) ∈ pathN ns (q : Int) ∧ ∀ x, x ∈ pathN ns (p : Int) → x ∈ pathN ns (q : Int) → x ≤ c := by
  obtain ⟨c, hc, hx⟩ := meet_ex h _ p q (Nat.le_refl _) hp hq
  have hs := (hx c).1 (path_self h hc)
  refine ⟨c, hc, comN_of h (by simp) hc fun x => ?_, comN_of h (by simp) hc fun x => ?_, hs.1, hs.2, fun x h1 h2 => (path_le h ((hx x).2 ⟨h1, h2⟩)).2⟩
  · rw [hx x]; simp
  · rw [hx x]; simp [and_comm]

theorem com_one {ns : List NdD} (h : TrOK ns) {p : Nat} (hp : p < ns.length) : comN ns [(p : Int)] = p := comN_of h (by simp) hp fun x => by simp
end

/-! BsW -/
section
set_option linter.unusedVariables false
set_option linter.unusedSimpArgs false
open Go.RowKit

set_option maxRecDepth 100000

theorem num_nums {l : List Int} {n : Nat} {w : World} {B : Nat} {v : Value} (h : OwnK .u64 22 w B v (numK l n)) (hn : n ≤ 100000) : NumsV w v (numK l n) :=
  ⟨h.ints (by rw [numK_len]; unfold maxLen; omega), fun x hx => by have := numK_rng l n x hx; omega⟩

theorem d_same (v1 v2 : Value) (l : List Int) (u : World) (h1 : NumsV u v1 l) (h2 : NumsV u v2 l) : Calls Try.prog 15 #[v1, v2] u fun e w' => e = .returned (.bool true) ∧ Below u.heap.size u w' :=
  (snums2 v1 v2 l l u h1 h2).mono fun e w' ⟨b, he, hb, hbl⟩ => ⟨by rw [he, hb.2 rfl], hbl⟩

/-- The tree's variable, a list of numbers. -/
structure BdN (w : World) (bt : Nat) (s dv : Value) (ns : List NdD) (X : List Int) (u : World) : Prop where
  a : AnS w bt s ns u
  d : NumsV u dv X

theorem BdN.call {w u u' : World} {bt : Nat} {s dv : Value} {ns : List NdD} {X : List Int} (h : BdN w bt s dv ns X u) (hb : Below u.heap.size u u') : BdN w bt s dv ns X u' := ⟨h.a.call hb, ⟨h.d.1.below hb, h.d.2⟩⟩

/-- .. and a root's variable. -/
structure BdS (w : World) (bt br : Nat) (s dv : Value) (ns : List NdD) (X : List Int) (R : Array Value) (u : World) : Prop where
  a : BdN w bt s dv ns X u
  r : Blk u br R

/-- A root's variable br, and what was before it. -/
structure BrR (w0 : World) (br : Nat) (u : World) : Prop where
  b : Below br w0 u
  r : ∃ cs : Array Value, cs.size = 32 ∧ Blk u br cs

theorem BrR.call {w0 u u' : World} {br : Nat} (h : BrR w0 br u) (h0 : br ≤ w0.heap.size) (hb : Below u.heap.size u u') : BrR w0 br u' := ⟨h.b.trans (hb.mono (Nat.le_trans h0 h.b.size)), by obtain ⟨cs, h1, h2⟩ := h.r; exact ⟨cs, h1, h2.call hb⟩⟩

theorem BdS.call {w u u' : World} {bt br : Nat} {s dv : Value} {ns : List NdD} {X : List Int} {R : Array Value} (h : BdS w bt br s dv ns X R u) (hb : Below u.heap.size u u') : BdS w bt br s dv ns X R u' := ⟨h.a.call hb, h.r.call hb⟩
end

end Go.Proofs.Ytidimiioglgliaa
