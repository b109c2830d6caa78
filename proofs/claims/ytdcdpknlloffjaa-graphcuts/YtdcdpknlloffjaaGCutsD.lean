/- What GraphCuts asks, as data. -/
import Derived.Test.YtdcdpknlloffjaaGOnceM
namespace Go.Proofs.Ytdcdpknlloffjaa.Gr
open Go.RowKit
set_option linter.unusedSimpArgs false
set_option linter.unusedVariables false

def allL (n : Nat) : List Bool := (List.range n).map fun _ => true
theorem allL_has {n v : Nat} (h : v < n) : hasB (allL n) (v : Int) = true := by rw [hasB_nat]; simp [allL, List.getD, h]
theorem only_all {g : GT} (hm : mayG g = 0) : thinG (pOnly (allL g.own.length)) g = g := thin_all hm (fun v x hv hx => by
  obtain ⟨_, h2, _⟩ := may_facts hm
  have hr := List.getElem?_eq_getElem (l := g.nxt) (i := v) (by omega)
  rw [getD_at hr] at hx
  obtain ⟨h3, h4⟩ := (may_row hm hr).2.2 x hx
  obtain ⟨q, rfl⟩ := Int.eq_ofNat_of_zero_le h3
  unfold pOnly
  rw [allL_has hv, allL_has (show q < g.own.length by omega)]; rfl)
theorem thin_at {g : GT} {p : Nat → Int → Bool} (hm : mayG g = 0) {v : Nat} {r : List Int} (hr : g.nxt[v]? = some r) : (thinG p g).nxt[v]? = some (r.filter (p v)) := by
  have hv : v < g.own.length := by have := (List.getElem?_eq_some_iff.1 hr).1; have := (may_facts hm).2.1; omega
  unfold thinG
  rw [if_pos hm]
  simp only
  rw [List.getElem?_map, List.getElem?_range hv, Option.map_some, getD_at hr]
/- how many of the first j -/
def cntF (p : Int → Bool) (r : List Int) (j : Nat) : Nat := ((r.take j).filter p).length
theorem cntF_yes {p : Int → Bool} {r : List Int} {j : Nat} {x : Int} (hx : r[j]? = some x) (h : p x = true) : cntF p r (j + 1) = cntF p r j + 1 := by
  obtain ⟨hj, e⟩ := List.getElem?_eq_some_iff.1 hx
  unfold cntF
  rw [List.take_succ_eq_append_getElem hj, e, List.filter_append]; simp [h]
theorem cntF_no {p : Int → Bool} {r : List Int} {j : Nat} {x : Int} (hx : r[j]? = some x) (h : p x = false) : cntF p r (j + 1) = cntF p r j := by
  obtain ⟨hj, e⟩ := List.getElem?_eq_some_iff.1 hx
  unfold cntF
  rw [List.take_succ_eq_append_getElem hj, e, List.filter_append]; simp [h]
theorem cntF_le {p : Int → Bool} {r : List Int} {j : Nat} : cntF p r j ≤ r.length := by
  unfold cntF
  exact Nat.le_trans (List.length_filter_le _ _) (by simp; omega)
theorem cntF_end {p : Int → Bool} {r : List Int} {j : Nat} (h : r.length ≤ j) : cntF p r j = (r.filter p).length := by
  unfold cntF; rw [List.take_of_length_le h]
theorem ris_one {n y : Int} : ∀ {l : List Int} {lo : Int}, risL n lo l = true → (l.filter fun x => y == x).length ≤ 1
  | [], _, _ => by simp
  | x :: l, lo, h => by
    rw [risL] at h
    split at h
    · cases h
    · by_cases e : y = x
      · have h0 : l.filter (fun z => y == z) = [] := List.filter_eq_nil_iff.2 (fun z hz => by
          have := ris_mem h z hz
          simp; omega)
        rw [List.filter_cons_of_pos (by simp [e]), h0]; simp
      · rw [List.filter_cons_of_neg (by simp [e])]
        exact ris_one h
theorem foll_one {g : GT} {who : Int} {l : List Int} (hm : mayG g = 0) {v : Nat} {r : List Int} (hr : g.nxt[v]? = some r) (ho : (g.own.getD v 0 == who) = true) : (r.filter (pFoll g who l v)).length ≤ 1 := by
  by_cases hv : v < l.length
  · have e : r.filter (pFoll g who l v) = r.filter fun x => l.getD v 0 == x := by
      refine List.filter_congr (fun x _ => ?_)
      unfold pFoll
      rw [ho, decide_eq_true hv]; rfl
    rw [e]
    exact ris_one (may_row hm hr).1
  · have e : r.filter (pFoll g who l v) = [] := List.filter_eq_nil_iff.2 (fun x _ => by
      unfold pFoll
      rw [ho, decide_eq_false hv]; simp)
    rw [e]; simp
theorem foll_own {g : GT} {who : Int} {l : List Int} (hm : mayG g = 0) {v : Nat} : (thinG (pFoll g who l) g).own.getD v 0 = g.own.getD v 0 := by rw [thin_own hm]
theorem dead_foll {g : GT} {who : Int} (hm : mayG g = 0) : deadL (thinG (pFoll g who []) g) who = (List.range g.own.length).map fun v => g.own.getD v 0 == who := by
  unfold deadL
  rw [if_pos (thin_may hm), thin_own hm]
  refine List.map_congr_left (fun v hv => ?_)
  have hvn : v < g.own.length := by simpa using hv
  unfold dAt
  rw [foll_own hm, thin_getD hm hvn]
  cases ho : g.own.getD v 0 == who
  · rfl
  · have e : (g.nxt.getD v []).filter (pFoll g who [] v) = [] := List.filter_eq_nil_iff.2 (fun x _ => by
      unfold pFoll
      rw [ho]; simp)
    rw [e]; rfl
end Go.Proofs.Ytdcdpknlloffjaa.Gr
