/- What ArenaWhere says, as data: of an expression and its negation. -/
import Derived.Test.YtbppdalfcldodaaGreatAWhere
import Derived.Test.YtbppdalfcldodaaGreatGSort
import Derived.Test.YtbppdalfcldodaaGreatGFold
set_option maxRecDepth 100000
namespace Go.Proofs.YtbppdalfcldodaaGreat
open Go.RowKit Ex
set_option linter.unusedSimpArgs false
set_option linter.unusedVariables false
def negT (t : T) : T := .mk 5 0 [t]
theorem need_sort {l : List Dom.V} {t : T} (h : needE l t 1 true false false = 0) : sortE l t = (1, 0) := by
  unfold needE at h
  split at h
  · rename_i h2
    split at h
    · rename_i h1
      exact Prod.ext h1 h2
    · omega
  · contradiction
theorem sort_ty3 {l : List Dom.V} {t : T} (h : (sortE l t).2 = 0) : Dom.mayL l = 0 ∧ mayE t = 0 ∧ sortE l t = tyT l t := by
  unfold sortE at h ⊢
  split at h
  · rename_i h1
    rw [if_pos h1]
    split at h
    · rename_i h2
      rw [if_pos h2]
      exact ⟨h1, h2, rfl⟩
    · exact absurd h (by assumption)
  · exact absurd h (by assumption)
theorem neg_ty {l : List Dom.V} {t : T} (h : tyT l (negT t) = (1, 0)) : tyT l t = (1, 0) := by
  unfold negT at h
  rw [tyT] at h
  split at h
  · rename_i h1
    rw [tyK, tyK] at h h1
    split at h
    · rename_i h2
      simp only at h
      unfold tyN at h
      rw [if_neg (by omega), if_neg (by omega), if_neg (by omega), if_pos rfl] at h
      split at h
      · rename_i h3
        exact Prod.ext (by simpa using h3) h2
      · simp at h
    · rename_i h2
      rw [if_neg h2] at h1
      exact absurd h1 h2
  · simp at h
theorem where_not {l : List Dom.V} {t : T} {s : Int} (hn : needE l (negT t) 1 true false false = 0) (hb : sortE l t = (1, 0) → ∀ x, vT (Dom.valsL l s) (Dom.valsL l s) t = some x → x = 0 ∨ x = 1) (hs : isSt l s = true) :
    (trueE l t s s = true → trueE l (negT t) s s = true → False) ∧ ((valE l t s s).2 = 0 → trueE l t s s = false → trueE l (negT t) s s = false → False) := by
  have hsn := need_sort hn
  have hty := (sort_ty3 (by rw [hsn])).2.2
  rw [hsn] at hty
  have ht := neg_ty hty.symm
  by_cases h : (sortE l t).2 = 0
  · have hst : sortE l t = (1, 0) := by rw [(sort_ty3 h).2.2, ht]
    have hv : vT (Dom.valsL l s) (Dom.valsL l s) (negT t) = (match vT (Dom.valsL l s) (Dom.valsL l s) t with | none => none | some x => some (1 - x)) := by
      unfold negT
      rw [vT, vK, vK]
      unfold vN
      simp [List.getD]
      cases vT (Dom.valsL l s) (Dom.valsL l s) t <;> rfl
    have e1 : valE l t s s = valP (vT (Dom.valsL l s) (Dom.valsL l s) t) := by unfold valE; rw [if_pos (by rw [hst]), if_pos ⟨hs, hs⟩]
    have e2 : valE l (negT t) s s = valP (vT (Dom.valsL l s) (Dom.valsL l s) (negT t)) := by unfold valE; rw [if_pos (by rw [hsn]), if_pos ⟨hs, hs⟩]
    have hb2 := hb hst
    unfold trueE
    rw [e1, e2, hv, hst, hsn]
    cases hx : vT (Dom.valsL l s) (Dom.valsL l s) t with
    | none => simp [valP]
    | some x =>
      rcases hb2 x hx with rfl | rfl <;> simp [valP]
  · have hv : (valE l t s s).2 ≠ 0 := by unfold valE; rw [if_neg h]; exact h
    refine ⟨fun h1 _ => ?_, fun h1 => absurd h1 hv⟩
    unfold trueE at h1
    simp at h1
    exact hv h1.1.1
theorem bool_two {l : List Dom.V} {t : T} {m : Int} (hs : sortE l t = (1, 0)) (x : Int) (hv : vT (Dom.valsL l m) (Dom.valsL l m) t = some x) : x = 0 ∨ x = 1 := by
  have hs2 : (sortE l t).2 = 0 := by rw [hs]
  have hmay := sort_may hs2
  have hty := sort_ty hs2
  have hf := fine_gen l (Dom.valsL l m) (Dom.valsL l m) (vals_fine l m (may_each hmay.1)) (vals_fine l m (may_each hmay.1)) t (may_sound hmay.2) (by rw [← hty]; exact hs2)
  rw [← hty, hs] at hf
  exact (hf.2 x hv).1 rfl
end Go.Proofs.YtbppdalfcldodaaGreat
