/- The reference's DropTables. -/
import Derived.Test.YtdfemompijhohaaBkK
set_option linter.unusedVariables false
set_option linter.unusedSimpArgs false
namespace Go.Proofs.Ytdfemompijhohaa
open Go.RowKit Go.Maps
set_option maxRecDepth 100000

def dropT (ep : Int) (ds : List (CpD × List Int)) : List (CpD × List Int) := ds.filter fun d => decide (ep ≤ d.1.n)
theorem dropT_step {ep : Int} {ds : List (CpD × List Int)} {k : Nat} (hk : k < ds.length) : dropT ep (ds.take (k + 1)) = dropT ep (ds.take k) ++ if ep ≤ ds[k].1.n then [ds[k]] else [] := by
  unfold dropT
  rw [List.take_add_one, List.getElem?_eq_getElem hk, List.filter_append]
  congr 1
  by_cases h : ep ≤ ds[k].1.n <;> simp [h]
theorem dropT_len (ep : Int) (ds : List (CpD × List Int)) : (dropT ep ds).length ≤ ds.length := List.length_filter_le _ _

/-- What lies in a block that was there lies outside the row of a slice of the call's own. -/
theorem tabEl_off {N : Nat} {fr : Prop} {w wr : World} {X : Array Value} {d : CpD × List Int} {v : Value} (h : TabEl N fr (fun _ => True) w X d) (hb : Below w.heap.size w wr) (hv : ∀ n, v.ownBlock = some n → w.heap.size ≤ n) : TabEl N fr (OffB v) wr X d := by
  have hE := tabOK N fr
  cases ho : v.ownBlock with
  | none => exact hE.mono (hE.below h hb) fun y _ g e => by rw [ho] at e; cases e
  | some g =>
    refine hE.mono (hE.below (hE.off h (hv g ho)) hb) fun y hy g' e => ?_
    rw [ho] at e; cases e; exact hy.2

/-- A slice of tables whose capacity is one. -/
def TabsC (w : World) (v : Value) (ds : List (CpD × List Int)) : Prop := TabsV w v ds ∧ ∃ a c, v = .slice a ds.length c ∧ ds.length ≤ c ∧ c ≤ maxLen
theorem TabsC.below {w w' : World} {v : Value} {ds : List (CpD × List Int)} (h : TabsC w v ds) (hb : Below w.heap.size w w') : TabsC w' v ds := ⟨h.1.below hb, h.2⟩
theorem tabsC_nil (w : World) : TabsC w nilS [] := ⟨tabsV_nil w, none, 0, rfl, Nat.le_refl _, Nat.zero_le _⟩
theorem OwnEl.tabsC {w : World} {B : Nat} {v : Value} {ds : List (CpD × List Int)} (h : OwnEl (TabEl 0 False) 29 34 w B v ds) : TabsC w v ds := by
  obtain ⟨a, c, e, _, h1, h2⟩ := h.shape
  exact ⟨h.elV (tabOK _ _), a, c, e, h1, h2⟩

set_option maxHeartbeats 8000000 in
theorem dropt_any (v : Value) (ds : List (CpD × List Int)) (ep : Int) (w : World) (h : TabsV w v ds) (hm : ds.length ≤ 1000000) :
    Calls Try.prog 13 #[v, .int .u64 ep] w fun e w' => (∃ v', e = .returned v' ∧ TabsC w' v' (dropT ep ds)) ∧ Below w.heap.size w w' := by
  obtain ⟨a, cap, rfl, _⟩ := h.shape
  have HV := Lib.hid h
  clear h
  go_enter Try.func13, Try.ntmps13
  go_wp2_with fail
  go_loopw [5, 6] (fun o i wr => ∃ k : Nat, k ≤ ds.length ∧ i = .int .i64 k ∧ OwnEl (TabEl 0 False) 29 34 wr w.heap.size o (dropT ep (ds.take k)) ∧ Below w.heap.size w wr) (fun _ i _ => ds.length - (intOf i).toNat)
  case atStart => exact ⟨0, Nat.zero_le _, rfl, OwnEl.nil _ _, Below.refl _ _⟩
  case round =>
    obtain ⟨k, hk, rfl, hown, hbel⟩ := hrel
    have HBL := Lib.hid hbel
    have HOW := Lib.hid hown
    clear hbel hown
    by_cases hlt : k < ds.length
    · obtain ⟨b, off, X, ea, _, hb, hr, hEl, hs, h1⟩ := ElV.at (tabOK 0 False) HV.out hlt
      subst ea
      have HR := Lib.hid (Below.rng HBL.out hb hr)
      have HEP : Hid (wr.cell? ⟨b, off + k * 34, none⟩ = some (.int .u64 ds[k].1.n)) := by
        obtain ⟨_, x, n, y, rfl, _⟩ := hEl
        exact elem_ep HR.out
      have HEL : Hid (TabEl 0 False (OffB u5) wr X ds[k]) := tabEl_off hEl HBL.out (fun n hn => (HOW.out.lt n hn).1)
      have HST := Lib.hid (dropT_step (ep := ep) hlt)
      have hi : (Try.prog.info? 29).map (·.size) = some X.toList.length := by rw [Array.length_toList, hs]; kernel_rfl
      have HBE := Lib.hid (fun u => buildEl (P := Try.prog) (t := 37) (e := 29) (Z := flatP [zeC.cells, [nilS]]) (X := X) (sz := 34) Try.underlying37 (fun w => by kernel_rfl) (by kernel_rfl) (by rfl) hs (by omega) (by omega) u)
      obtain ⟨ba, bk, hbv, _, _, _⟩ := HOW.out.shape
      subst hbv
      have HLE : Hid ((dropT ep (ds.take k)).length ≤ 1000000) := by
        show _ ≤ _
        have h1 := dropT_len ep (ds.take k)
        have h2 : (ds.take k).length ≤ ds.length := by rw [List.length_take]; omega
        omega
      obtain ⟨es, hes⟩ : ∃ es, dropT ep (ds.take k) = es := ⟨_, rfl⟩
      rw [hes] at HOW HEL HST HLE ⊢
      obtain ⟨en, hen⟩ : ∃ n, Hid (ds[k].1.n = n) := ⟨_, Lib.hid rfl⟩
      rw [hen.out] at HEP HST
      obtain ⟨dk, hdk⟩ : ∃ d, Hid (ds[k] = d) := ⟨_, Lib.hid rfl⟩
      rw [hdk.out] at HEL HST
      clear hEl hs h1 hr hb hes
      by_cases hep : ep ≤ en
      · have HS2 : Hid (dropT ep (ds.take (k + 1)) = es ++ [dk]) := by show _ = _; rw [HST.out, if_pos hep]
        go_wp2_with (first
          | ((with_reducible refine at_load (.tmp 17) ?_); refine wpList_load_1 22 (.tmp 17) rfl b (off + k * 34) (.int .u64 en) HEP.out rfl _ Try.underlying22 rfl rfl ?_)
          | ((with_reducible refine at_load (.tmp 24) ?_); refine wpList_load_rng 29 (.tmp 24) rfl b (off + k * 34) X.toList HR.out rfl _ Try.underlying29 rfl hi rfl ?_; simp only [Array.toArray_toList])
          | ((with_reducible refine at_buildSliceE (some 26) ?_); refine wpList_buildSliceE rfl 37 1 _ rfl #[(0, .agg X)] (by simp [Act.eval, Act.put]) _ (HBE.out _) ?_)
          | ((with_reducible refine at_app _ _ ?_); refine wpList_appEl (tabOK 0 False) Try.underlying37 info_tab (by rfl) (by omega) _ _ rfl rfl w.heap.size (.slice ba es.length bk) es rfl (HOW.out.call (tabOK _ _) ((Below.refl _ wr).alloc (Nat.le_refl _) (.cells X 29))) wr.heap.size 1 X dk rfl ((tabOK 0 False).below HEL.out ((Below.refl _ wr).alloc (Nat.le_refl _) (.cells X 29))) (Blk.new rfl).range (by have := HLE.out; omega) (by have := HLE.out; unfold maxLen; omega) (by have := HBL.out.size; simp; omega) ?_; intro v3 w3 ho3 hg3 _; have HO3 := Lib.hid ho3; have HB3 := Lib.hid ((HBL.out.alloc HBL.out.size (.cells X 29)).grown hg3 (by have := HBL.out.size; simp; omega) (fun j hj => (HOW.out.lt j hj).1)); clear ho3 hg3))
        go_roundw
        case rel => exact ⟨k + 1, by omega, by go_num, by rw [HS2.out]; exact HO3.out, HB3.out⟩
        case measure => simp [intOf]; omega
      · have HS2 : Hid (dropT ep (ds.take (k + 1)) = es) := by show _ = _; rw [HST.out, if_neg hep, List.append_nil]
        go_wp2_with (first
          | ((with_reducible refine at_load (.tmp 17) ?_); refine wpList_load_1 22 (.tmp 17) rfl b (off + k * 34) (.int .u64 en) HEP.out rfl _ Try.underlying22 rfl rfl ?_))
        go_roundw
        case rel => exact ⟨k + 1, by omega, by go_num, by rw [HS2.out]; exact HOW.out, HBL.out⟩
        case measure => simp [intOf]; omega
    · have HT : Hid (ds.take k = ds) := List.take_of_length_le (by omega)
      rw [HT.out] at HOW
      go_wp2_with fail
      go_ret
      exact ⟨⟨_, rfl, HOW.out.tabsC⟩, HBL.out⟩

end Go.Proofs.Ytdfemompijhohaa
