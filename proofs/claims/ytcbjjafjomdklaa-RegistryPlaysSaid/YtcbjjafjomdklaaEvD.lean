/- The reference's Punish, Culprits. -/
import Derived.Test.YtcbjjafjomdklaaEvC
set_option linter.unusedVariables false

set_option linter.unusedSimpArgs false
namespace Go.Proofs.Ytcbjjafjomdklaa
open Go.RowKit

set_option maxRecDepth 100000

def punI (s l : List Int) : List Int := l.foldl insI s

def punK (s l : List Int) (k : Nat) : List Int := (l.take k).foldl insI s

theorem punK_zero (s l : List Int) : punK s l 0 = s := rfl

theorem punK_succ {s l : List Int} {k : Nat} (hk : k < l.length) : punK s l (k + 1) = insI (punK s l k) (l.getD k 0) := by
  unfold punK
  rw [List.take_succ_eq_append_getElem hk, List.foldl_append, getD_at hk]
  rfl

theorem punK_all (s l : List Int) : punK s l l.length = punI s l := by unfold punK punI; rw [List.take_length]

theorem punK_len (s l : List Int) : ∀ k, s.length ≤ (punK s l k).length ∧ (punK s l k).length ≤ s.length + k
  | 0 => by rw [punK_zero]; omega
  | k + 1 => by
    have h := punK_len s l k
    by_cases hk : k < l.length
    · rw [punK_succ hk]
      have := insI_len (punK s l k) (l.getD k 0)
      omega
    · have e : punK s l (k + 1) = punK s l k := by unfold punK; rw [List.take_of_length_le (by omega), List.take_of_length_le (by omega)]
      rw [e]; omega

def PunI (w : World) (s l : List Int) (v i : Value) (wr : World) : Prop :=
  ∃ k : Nat, k ≤ l.length ∧ i = .int .i64 k ∧ IntsV wr v (punK s l k) ∧ CapOK v ∧ New w.heap.size v ∧ Below w.heap.size w wr

set_option maxHeartbeats 8000000 in
theorem punish_any (v1 : Value) (s : List Int) (v2 : Value) (l : List Int) (w : World) (h1 : IntsV w v1 s) (h2 : IntsV w v2 l) (hs : s.length ≤ 100000) (hl : l.length ≤ 100000) :
    Calls Try.prog 14 #[v1, v2] w fun e w' => ∃ v', e = .returned (.tuple #[v', .int .i64 ((punI s l).length - s.length)]) ∧ IntsV w' v' (punI s l) ∧ CapOK v' ∧ New w.heap.size v' ∧ Below w.heap.size w w' := by
  obtain ⟨a1, n1, c1, rfl⟩ := ints_shape' h1.1
  obtain ⟨a2, n2, c2, rfl⟩ := ints_shape' h2.1
  have H1 := Lib.hid h1
  have H2 := Lib.hid h2
  have HL1 := Lib.hid h1.len
  have HL2 := Lib.hid h2.len
  have HII := Lib.hid info_int
  have e1 := h1.len.1
  have e2 := h2.len.1
  rw [e1] at hs
  rw [e2] at hl
  clear h1 h2 e1 e2
  go_enter Try.func14, Try.ntmps14
  go_wp2_with ((with_reducible refine at_app (.const (.slice none 0 0)) (.tmp 8) ?_); refine wpList_appK HII.out (by omega) Try.underlying45 (.const (.slice none 0 0)) (.tmp 8) rfl rfl w.heap.size (.slice none 0 0) [] rfl (OwnK.nil _ _ _ _) (.slice a1 n1 c1) s rfl H1.out.1 (by have := HL1.out.1; simp; omega) (Nat.le_refl _) ?_; intro v3 w3 h3 g3 o3; rw [List.nil_append] at h3; have HOW := Lib.hid h3; have HB3 := Lib.hid ((Below.refl w.heap.size w).grown g3 (Nat.le_refl _) (fun j hj => by cases hj)); clear h3 g3 o3)
  go_loopw [6, 7] (fun v i wr => PunI w s l v i wr) (fun _ i _ => n2 - (intOf i).toNat)
  case atStart => exact ⟨0, Nat.zero_le _, rfl, ⟨HOW.out.ints (by have := HL1.out.1; unfold maxLen; omega), H1.out.2⟩, HOW.out.capOK, HOW.out.new, HB3.out⟩
  case round =>
    obtain ⟨k, hk, rfl, hi, hc, hn, hbl⟩ := hrel
    have HI := Lib.hid hi
    have HC := Lib.hid hc
    have HN := Lib.hid hn
    have HBL := Lib.hid hbl
    have HPL := Lib.hid (punK_len s l k)
    obtain ⟨a, m, c, rfl⟩ := ints_shape' hi.1
    have hml := hi.len.1
    have HML := Lib.hid hml
    rw [HL2.out.1] at hk
    clear hi hc hn hbl
    by_cases hlt : k < n2
    case neg =>
      obtain rfl : k = n2 := by omega
      have HALL : Hid (punK s l k = punI s l) := by show punK s l k = _; rw [← HL2.out.1]; exact punK_all s l
      have hb : (m : Int) ≤ 200000 ∧ (n1 : Int) ≤ 100000 := by have h1 := HPL.out.2; have h2 := HML.out; have h3 := HL1.out.1; omega
      obtain ⟨hb1, hb2⟩ := hb
      clear hml
      go_wp2_with fail
      go_ret2
      refine ⟨_, by rw [← HALL.out, HML.out, HL1.out.1]; rfl, by rw [← HALL.out]; exact HI.out, HC.out, HN.out, HBL.out⟩
    have hlt' : (k : Int) < n2 := by omega
    have HNX := Lib.hid (punK_succ (s := s) (l := l) (k := k) (by rw [HL2.out.1]; exact hlt))
    obtain ⟨b, off, rfl, hbb, hce⟩ := H2.out.at (k := k) (by rw [HL2.out.1]; exact hlt)
    have hxr := H2.out.2 _ (getD_mem (l := l) (k := k) (by rw [HL2.out.1]; exact hlt))
    obtain ⟨x, hx⟩ : ∃ x, Hid (l.getD k 0 = x) := ⟨_, Lib.hid rfl⟩
    rw [hx.out] at hce hxr HNX
    have HCE := Lib.hid ((HBL.out.cell (p := ⟨b, off + k, none⟩) hbb).trans hce)
    have HXR := Lib.hid hxr
    clear hce hxr hml
    go_wp2_with (first
      | ((with_reducible refine at_load (.tmp 19) ?_); refine wpList_load_1 3 (.tmp 19) rfl b (off + k) (.int .i64 x) HCE.out rfl _ Try.underlying3 rfl rfl ?_)
      | (go_at_call 27; refine (insert_any _ _ x wr HI.out HC.out (by have h1 := HPL.out.2; have h2 := HL1.out.1; omega) HXR.out).mono ?_; rintro e w4 ⟨v4, rfl, hi4, hc4, hn4, hb4⟩; have HI4 := Lib.hid hi4; have HC4 := Lib.hid hc4; have HN4 := Lib.hid (hn4 w.heap.size HBL.out.size HN.out); have HB4 := Lib.hid (HBL.out.trans (hb4.mono HBL.out.size)); clear hi4 hc4 hn4 hb4))
    go_roundw
    case rel => exact ⟨k + 1, by rw [HL2.out.1]; omega, by go_num, by rw [HNX.out]; exact HI4.out, HC4.out, HN4.out, HB4.out⟩
    case measure => simp [intOf]; omega

/-- The culprits among the first k validators. -/
def culK (l m : List Int) (k : Nat) : List Int := ((l.take k).filter (fun x => decide (x ∈ m))).foldl insI []

def culI (l m : List Int) : List Int := (l.filter (fun x => decide (x ∈ m))).foldl insI []

theorem culK_all (l m : List Int) : culK l m l.length = culI l m := by unfold culK culI; rw [List.take_length]

theorem culK_yes {l m : List Int} {k : Nat} (hk : k < l.length) (h : l.getD k 0 ∈ m) : culK l m (k + 1) = insI (culK l m k) (l.getD k 0) := by
  unfold culK
  rw [List.take_succ_eq_append_getElem hk, List.filter_append, List.foldl_append]
  rw [getD_at hk] at h ⊢
  simp [h]

theorem culK_no {l m : List Int} {k : Nat} (hk : k < l.length) (h : l.getD k 0 ∉ m) : culK l m (k + 1) = culK l m k := by
  unfold culK
  rw [List.take_succ_eq_append_getElem hk, List.filter_append, List.foldl_append]
  rw [getD_at hk] at h
  simp [h]

theorem foldl_insI_len (s : List Int) : ∀ l : List Int, (l.foldl insI s).length ≤ s.length + l.length
  | [] => by simp
  | x :: l => by
    have h1 := foldl_insI_len (insI s x) l
    have h2 := insI_len s x
    simp only [List.foldl_cons, List.length_cons]; omega

theorem culK_len (l m : List Int) (k : Nat) : (culK l m k).length ≤ k := by
  have h1 := foldl_insI_len [] ((l.take k).filter (fun x => decide (x ∈ m)))
  have h2 := List.length_filter_le (fun x => decide (x ∈ m)) (l.take k)
  have h3 : (l.take k).length ≤ k := by simp; omega
  unfold culK
  simp only [List.length_nil] at h1
  omega

theorem foldl_insI_mem {x : Int} : ∀ {l s : List Int}, x ∈ l.foldl insI s ↔ x ∈ s ∨ x ∈ l
  | [], s => by simp
  | y :: l, s => by
    rw [List.foldl_cons, foldl_insI_mem, insI_mem, List.mem_cons]
    constructor
    · rintro ((h | h) | h)
      · exact .inr (.inl h)
      · exact .inl h
      · exact .inr (.inr h)
    · rintro (h | h | h)
      · exact .inl (.inr h)
      · exact .inl (.inl h)
      · exact .inr h

theorem culI_mem {x : Int} {l m : List Int} : x ∈ culI l m ↔ x ∈ l ∧ x ∈ m := by
  unfold culI
  rw [foldl_insI_mem, List.mem_filter]
  simp

theorem foldl_insI_sorted : ∀ {l s : List Int}, s.Pairwise (· < ·) → (l.foldl insI s).Pairwise (· < ·)
  | [], s, h => h
  | y :: l, s, h => foldl_insI_sorted (l := l) (insI_sorted h)

theorem culI_sorted (l m : List Int) : (culI l m).Pairwise (· < ·) := foldl_insI_sorted List.Pairwise.nil

def CulI (w : World) (l m : List Int) (X : Array Value) (v i : Value) (wr : World) : Prop :=
  ∃ k : Nat, k ≤ l.length ∧ i = .int .i64 k ∧ IntsV wr v (culK l m k) ∧ CapOK v ∧ New w.heap.size v ∧ Blk wr w.heap.size X ∧ Below w.heap.size w wr
end Go.Proofs.Ytcbjjafjomdklaa
