/- Roots as text: hexadecimal digits, plain functions. -/
import Derived.Test.YtjlfacdmfcbjfaaNot
import Derived.Test.YtjlfacdmfcbjfaaDec
import Derived.Test.YtjlfacdmfcbjfaaRoot0
import Derived.Test.YtjlfacdmfcbjfaaShelf
import Derived.Laws.BitsAllLaws
import Derived.Laws.BitsLemmas
set_option linter.unusedVariables false
namespace Go.Proofs.Ytjlfacdmfcbjfaa
open Go.RowKit

def hexd (d : Int) : Int := if d < 10 then 48 + d else 87 + d
/-- The value of a hexadecimal digit, 16 of another byte. -/
def dig16 (c : Int) : Int := if 48 ≤ c ∧ c ≤ 57 then c - 48 else if 97 ≤ c ∧ c ≤ 102 then c - 87 else 16
/-- .. -1 of another byte. -/
def hexI (c : Int) : Int := if dig16 c < 16 then dig16 c else -1

def hexL (xs : List Int) : List Int := xs.flatMap fun b => [hexd (b / 16), hexd (b % 16)]
/-- A root's notation. -/
def rootT (xs : List Int) : ByteArray := strOfNums (48 :: 120 :: hexL xs)

/-- The first n pairs of digits behind the prefix are digits. -/
def pairsB (s : ByteArray) (n : Nat) : Bool := (List.range n).all fun i => decide (dig16 (sB s (2 * i + 2)) < 16) && decide (dig16 (sB s (2 * i + 3)) < 16)
/-- The byte that pair i denotes. -/
def pairV (s : ByteArray) (i : Nat) : Int := dig16 (sB s (2 * i + 2)) * 16 + dig16 (sB s (2 * i + 3))
def prefB (s : ByteArray) : Bool := decide (2 ≤ s.size) && (sB s 0 == 48 && sB s 1 == 120)
def rootB (s : ByteArray) : Bool := s.size == 66 && prefB s && pairsB s 32
def rootX (s : ByteArray) : List Int := (List.range 32).map (pairV s)
def zero32 : List Int := List.replicate 32 0
def rootV (s : ByteArray) : List Int := if rootB s = true then rootX s else zero32
def rootE (s : ByteArray) : Int := if rootB s = true then 0 else 1

theorem dig16_rng (c : Int) : 0 ≤ dig16 c ∧ dig16 c ≤ 16 := by 
  unfold dig16
  split
  · omega
  · split <;> omega
theorem hexd_rng {d : Int} (h : 0 ≤ d) (h2 : d < 16) : 48 ≤ hexd d ∧ hexd d ≤ 102 := by unfold hexd; split <;> omega
theorem dig16_hexd {d : Int} (h : 0 ≤ d) (h2 : d < 16) : dig16 (hexd d) = d := by
  unfold hexd dig16
  split
  · rw [if_pos (by omega)]; omega
  · rw [if_neg (by omega), if_pos (by omega)]; omega
theorem dig16_is {c d : Int} (h : 0 ≤ d) (h2 : d < 16) : dig16 c = d ↔ c = hexd d := by
  unfold hexd dig16
  constructor
  · intro e
    split at e
    · rw [if_pos (by omega)]; omega
    · split at e
      · rw [if_neg (by omega)]; omega
      · omega
  · rintro rfl
    exact dig16_hexd h h2

theorem hexL_length (xs : List Int) : (hexL xs).length = 2 * xs.length := by
  induction xs with
  | nil => rfl
  | cons x r ih =>
    have e : hexL (x :: r) = hexd (x / 16) :: hexd (x % 16) :: hexL r := by simp [hexL]
    rw [e]
    simp only [List.length_cons, ih]
    omega

theorem hexL_snoc (xs : List Int) (x : Int) : hexL (xs ++ [x]) = hexL xs ++ [hexd (x / 16), hexd (x % 16)] := by
  simp [hexL, List.flatMap_append]

theorem hexL_rng {xs : List Int} (h : ∀ x ∈ xs, 0 ≤ x ∧ x ≤ 255) : ∀ y ∈ hexL xs, 48 ≤ y ∧ y ≤ 102 := by
  intro y hy
  simp only [hexL, List.mem_flatMap] at hy
  obtain ⟨x, hx, hy⟩ := hy
  have := h x hx
  simp at hy
  rcases hy with rfl | rfl
  · exact hexd_rng (by omega) (by omega)
  · exact hexd_rng (by omega) (by omega)

theorem hexL_at (xs : List Int) : ∀ (i : Nat), i < xs.length → (hexL xs).getD (2 * i) 0 = hexd (xs.getD i 0 / 16) ∧ (hexL xs).getD (2 * i + 1) 0 = hexd (xs.getD i 0 % 16) := by
  induction xs with
  | nil => intro i hi; simp at hi
  | cons x r ih =>
    intro i hi
    have e : hexL (x :: r) = hexd (x / 16) :: hexd (x % 16) :: hexL r := by simp [hexL]
    rw [e]
    rcases i with _ | i
    · exact ⟨rfl, rfl⟩
    · have := ih i (by simpa using hi)
      rw [show 2 * (i + 1) = 2 * i + 1 + 1 by omega]
      exact this

theorem bytes_rng {n : Nat} {xs : List Int} (h : IsBytes n xs) : ∀ x ∈ xs, 0 ≤ x ∧ x ≤ 255 := fun x hx => wf_u8 (h.2 x hx)

theorem rootT_size {xs : List Int} (h : IsBytes 32 xs) : (rootT xs).size = 66 := by
  unfold rootT
  rw [strOfNums_size]
  simp [hexL_length, h.1]

theorem rootT_rng {xs : List Int} (h : IsBytes 32 xs) : ∀ x ∈ (48 :: 120 :: hexL xs), 0 ≤ x ∧ x ≤ 255 := by
  intro y hy
  simp at hy
  rcases hy with rfl | rfl | hy
  · omega
  · omega
  · have := hexL_rng (bytes_rng h) y hy; omega

theorem rootT_pair {xs : List Int} (h : IsBytes 32 xs) {i : Nat} (hi : i < 32) :
    sB (rootT xs) (2 * i + 2) = hexd (xs.getD i 0 / 16) ∧ sB (rootT xs) (2 * i + 3) = hexd (xs.getD i 0 % 16) := by
  have hl : (48 :: 120 :: hexL xs).length = 66 := by simp [hexL_length, h.1]
  have a := hexL_at xs i (by rw [h.1]; exact hi)
  unfold rootT
  rw [sB_nums (rootT_rng h) (by omega), sB_nums (rootT_rng h) (by omega)]
  exact a

/-- Parse reads what Format writes. -/
theorem root_back {xs : List Int} (h : IsBytes 32 xs) : rootB (rootT xs) = true ∧ rootV (rootT xs) = xs ∧ rootE (rootT xs) = 0 := by
  have hl : (48 :: 120 :: hexL xs).length = 66 := by simp [hexL_length, h.1]
  have h0 : sB (rootT xs) 0 = 48 := by unfold rootT; rw [sB_nums (rootT_rng h) (by omega)]; rfl
  have h1 : sB (rootT xs) 1 = 120 := by unfold rootT; rw [sB_nums (rootT_rng h) (by omega)]; rfl
  have hB : rootB (rootT xs) = true := by
    unfold rootB prefB pairsB
    rw [rootT_size h, h0, h1]
    simp only [List.all_eq_true, Bool.and_eq_true]
    refine ⟨by decide, fun i hi => ?_⟩
    obtain ⟨p, q⟩ := rootT_pair h (List.mem_range.1 hi)
    have r := h.at (List.mem_range.1 hi)
    rw [p, q, dig16_hexd (by omega) (by omega), dig16_hexd (by omega) (by omega)]
    rw [List.getD_eq_getElem?_getD] at r
    simp
    omega
  refine ⟨hB, ?_, by unfold rootE; rw [if_pos hB]⟩
  unfold rootV rootX
  rw [if_pos hB]
  apply List.ext_getElem?
  intro i
  by_cases hi : i < 32
  · obtain ⟨p, q⟩ := rootT_pair h hi
    have r := h.at hi
    simp [hi, pairV]
    rw [p, q, dig16_hexd (by omega) (by omega), dig16_hexd (by omega) (by omega)]
    rw [List.getD_eq_getElem?_getD] at r
    have e : xs[i]? = some (xs.getD i 0) := by simp [List.getD, List.getElem?_eq_getElem (show i < xs.length by rw [h.1]; exact hi)]
    rw [e]
    congr 1
    omega
  · rw [List.getElem?_eq_none (by simp; omega), List.getElem?_eq_none (by rw [h.1]; omega)]

theorem zero32_is : IsBytes 32 zero32 := ⟨by decide, by decide⟩

theorem pairV_rng {s : ByteArray} {n i : Nat} (h : pairsB s n = true) (hi : i < n) : 0 ≤ pairV s i ∧ pairV s i ≤ 255 := by
  unfold pairsB at h
  rw [List.all_eq_true] at h
  have := h i (List.mem_range.2 hi)
  simp at this
  have a := dig16_rng (sB s (2 * i + 2))
  have b := dig16_rng (sB s (2 * i + 3))
  unfold pairV; omega

theorem rootV_is (s : ByteArray) : IsBytes 32 (rootV s) := by
  unfold rootV
  split
  · rename_i h
    refine ⟨by simp [rootX], fun x hx => ?_⟩
    simp only [rootX, List.mem_map] at hx
    obtain ⟨i, hi, rfl⟩ := hx
    unfold rootB at h
    simp only [Bool.and_eq_true] at h
    have := pairV_rng h.2 (List.mem_range.1 hi)
    simpa [Lit.wf, IntKind.min, IntKind.max, IntKind.signed, IntKind.bits] using this
  · exact zero32_is

/-! ### the library's calls -/
theorem indexByte_hex : ∀ c : Fin 256, Lib.indexByte [48, 49, 50, 51, 52, 53, 54, 55, 56, 57, 97, 98, 99, 100, 101, 102] (UInt8.ofNat c.val) = hexI (c.val : Int) := by decide +kernel

theorem ib_any (c : Int) (h0 : 0 ≤ c) (h1 : c ≤ 255) (w : World) :
    Calls Try.prog 59 #[.string ⟨#[48, 49, 50, 51, 52, 53, 54, 55, 56, 57, 97, 98, 99, 100, 101, 102]⟩, .int .u8 c] w fun e w' => e = .returned (.int .i64 (hexI c)) ∧ w = w' := by
  refine (Try.strings_IndexByte _ c w).mono ?_
  rintro e w' ⟨rfl, rfl⟩
  obtain ⟨m, rfl⟩ := Int.eq_ofNat_of_zero_le h0
  have := indexByte_hex ⟨m, by omega⟩
  refine ⟨?_, rfl⟩
  exact congrArg (fun z => Ending.returned (Value.int .i64 z)) this

/-- What stands behind the prefix. -/
def tail2 (s : ByteArray) : ByteArray := ⟨(Lib.trimPrefix s.data.toList [48, 120]).toArray⟩

theorem hasPrefix_0x (s : ByteArray) : Lib.hasPrefix s.data.toList [48, 120] = prefB s := by
  obtain ⟨⟨l⟩⟩ := s
  unfold Lib.hasPrefix prefB sB
  match l with
  | [] => rfl
  | [a] =>
    have e1 : List.isPrefixOf [48, 120] [a] = false := by simp [List.isPrefixOf]
    rw [e1]
    rfl
  | a :: b :: l =>
    have ea : ((⟨⟨a :: b :: l⟩⟩ : ByteArray)[0]'(by simp [ByteArray.size])) = a := rfl
    have eb : ((⟨⟨a :: b :: l⟩⟩ : ByteArray)[1]'(by simp [ByteArray.size])) = b := rfl
    simp only [ByteArray.size, List.size_toArray, List.length_cons]
    rw [dif_pos (by omega), dif_pos (by omega), ea, eb]
    have ha : (48 == a) = ((a.toNat : Int) == 48) := by
      rw [Bool.eq_iff_iff]
      simp only [beq_iff_eq]
      constructor
      · rintro rfl; rfl
      · intro h; exact UInt8.toNat_inj.1 (by show (48 : Nat) = a.toNat; omega)
    have hb : (120 == b) = ((b.toNat : Int) == 120) := by
      rw [Bool.eq_iff_iff]
      simp only [beq_iff_eq]
      constructor
      · rintro rfl; rfl
      · intro h; exact UInt8.toNat_inj.1 (by show (120 : Nat) = b.toNat; omega)
    simp only [List.isPrefixOf, ha, hb]
    simp

theorem cut_any (s : ByteArray) (w : World) :
    Calls Try.prog 58 #[.string s, .string ⟨#[48, 120]⟩] w fun e w' => e = .returned (.tuple #[.string (tail2 s), .bool (prefB s)]) ∧ w = w' := by
  refine (Try.strings_CutPrefix s _ w).mono ?_
  rintro e w' ⟨rfl, rfl⟩
  refine ⟨?_, rfl⟩
  rw [← hasPrefix_0x s]
  rfl

theorem tail2_yes {s : ByteArray} (h : prefB s = true) : (tail2 s).size = s.size - 2 ∧ ∀ j, j < s.size - 2 → sB (tail2 s) j = sB s (j + 2) := by
  have e : (tail2 s).data.toList = s.data.toList.drop 2 := by
    unfold tail2 Lib.trimPrefix
    rw [hasPrefix_0x, h]
    rfl
  have hsz : (tail2 s).size = s.size - 2 := by
    have := congrArg List.length e
    rw [List.length_drop, Array.length_toList, Array.length_toList] at this
    exact this
  refine ⟨hsz, fun j hj => ?_⟩
  unfold sB
  rw [dif_pos (by omega), dif_pos (by omega)]
  have hj1 : j < (tail2 s).data.toList.length := by rw [Array.length_toList]; show j < (tail2 s).size; omega
  have hj2 : j + 2 < s.data.toList.length := by rw [Array.length_toList]; show j + 2 < s.size; omega
  have h1 : (tail2 s)[j]'(by omega) = (tail2 s).data.toList[j]'hj1 := rfl
  have h2 : s[j + 2]'(by omega) = s.data.toList[j + 2]'hj2 := rfl
  rw [h1, h2]
  simp only [e, List.getElem_drop, Nat.add_comm]

end Go.Proofs.Ytjlfacdmfcbjfaa
