/- Games that are cut, as data. -/
import Derived.Test.YtdcdpknlloffjaaGCuts
import Derived.Test.YtdcdpknlloffjaaGTurnM
namespace Go.Proofs.Ytdcdpknlloffjaa.Gr
open Go.RowKit
set_option linter.unusedSimpArgs false
set_option linter.unusedVariables false

section
variable {g : GT} {p : Nat → Int → Bool}
theorem thin_own (hm : mayG g = 0) : (thinG p g).own = g.own := by unfold thinG; rw [if_pos hm]
theorem thin_len (hm : mayG g = 0) : (thinG p g).nxt.length = g.own.length := by unfold thinG; rw [if_pos hm]; simp
theorem thin_getD (hm : mayG g = 0) {v : Nat} (hv : v < g.own.length) : (thinG p g).nxt.getD v [] = (g.nxt.getD v []).filter (p v) := by
  unfold thinG; rw [if_pos hm]; simp [List.getD, hv]
theorem ris_filter {n : Int} (f : Int → Bool) : ∀ {l : List Int} {lo lo' : Int}, lo' ≤ lo → risL n lo l = true → risL n lo' (l.filter f) = true
  | [], lo, lo', _, _ => by simp [risL]
  | x :: l, lo, lo', h0, h => by
    rw [risL] at h
    split at h
    · cases h
    · rename_i hx
      by_cases hf : f x = true
      · rw [List.filter_cons_of_pos hf, risL, if_neg (by omega)]
        exact ris_filter f (Int.le_refl _) h
      · rw [List.filter_cons_of_neg hf]
        exact ris_filter f (by omega) h
theorem thin_may (hm : mayG g = 0) : mayG (thinG p g) = 0 := by
  obtain ⟨h1, h2, h3⟩ := may_facts hm
  unfold mayG
  rw [thin_own hm, thin_len hm, if_neg (by omega), if_neg (by simp), if_pos]
  exact okRows_of h2.symm (thin_len hm) h3 (fun r hr => by
    obtain ⟨v, hv⟩ := List.getElem?_of_mem hr
    have hvn : v < g.own.length := by have := (List.getElem?_eq_some_iff.1 hv).1; rw [thin_len hm] at this; exact this
    have := thin_getD (p := p) hm hvn
    rw [getD_at hv] at this
    rw [this]
    have hr := List.getElem?_eq_getElem (l := g.nxt) (i := v) (by omega)
    rw [getD_at hr]
    exact ris_filter _ (Int.le_refl _) (may_row hm hr).1)
theorem game_ext {a b : GT} (h1 : a.own = b.own) (h2 : a.nxt = b.nxt) : a = b := by cases a; cases b; simp only at h1 h2; rw [h1, h2]
theorem thin_twice (hm : mayG g = 0) (hp : ∀ v x, p v x = true → p v x = true) : thinG p (thinG p g) = thinG p g := by
  refine game_ext (by rw [thin_own (thin_may hm)]) ?_
  apply List.ext_getElem?
  intro v
  by_cases hv : v < g.own.length
  · have e1 := thin_getD (p := p) (thin_may (p := p) hm) (v := v) (by rw [thin_own hm]; exact hv)
    have e2 := thin_getD (p := p) hm hv
    rw [e2, List.filter_filter] at e1
    simp only [Bool.and_self] at e1
    rw [← e2] at e1
    have l1 : v < (thinG p (thinG p g)).nxt.length := by rw [thin_len (thin_may hm), thin_own hm]; exact hv
    have l2 : v < (thinG p g).nxt.length := by rw [thin_len hm]; exact hv
    rw [getD_at (List.getElem?_eq_getElem l1), getD_at (List.getElem?_eq_getElem l2)] at e1
    rw [List.getElem?_eq_getElem l1, List.getElem?_eq_getElem l2, e1]
  · rw [List.getElem?_eq_none (by rw [thin_len (thin_may hm), thin_own hm]; omega), List.getElem?_eq_none (by rw [thin_len hm]; omega)]
theorem thin_all (hm : mayG g = 0) (h : ∀ (v : Nat) (x : Int), v < g.own.length → x ∈ g.nxt.getD v [] → p v x = true) : thinG p g = g := by
  obtain ⟨h1, h2, h3⟩ := may_facts hm
  refine game_ext (thin_own hm) ?_
  apply List.ext_getElem?
  intro v
  by_cases hv : v < g.own.length
  · have e2 := thin_getD (p := p) hm hv
    rw [List.filter_eq_self.2 (fun x hx => h v x hv hx)] at e2
    have l2 : v < (thinG p g).nxt.length := by rw [thin_len hm]; exact hv
    rw [getD_at (List.getElem?_eq_getElem l2), getD_at (List.getElem?_eq_getElem (show v < g.nxt.length by omega))] at e2
    rw [List.getElem?_eq_getElem l2, List.getElem?_eq_getElem (show v < g.nxt.length by omega), e2]
  · rw [List.getElem?_eq_none (by rw [thin_len hm]; omega), List.getElem?_eq_none (by omega)]
end
theorem reachL_pos {g : GT} {l : List Bool} (hm : mayG g = 0) : reachL g l = (List.range g.own.length).map (reachAt g fun v => l.getD v false) := by unfold reachL; rw [if_pos hm]
theorem reach_get {g : GT} {l : List Bool} (hm : mayG g = 0) {v : Nat} (hv : v < g.own.length) : (reachL g l)[v]? = some (reachAt g (fun v => l.getD v false) v) := by
  unfold reachL
  rw [if_pos hm, List.getElem?_map, List.getElem?_range hv]; rfl
theorem has_reach {g : GT} {l : List Bool} (hm : mayG g = 0) {v : Nat} (hv : v < g.own.length) : hasB (reachL g l) (v : Int) = reachAt g (fun v => l.getD v false) v := by
  rw [hasB_nat, getD_at (reach_get hm hv)]
theorem at_rch {g : GT} {f : Nat → Bool} {v : Nat} : reachAt g f v = true ↔ Rch g.nxt f g.own.length v := by
  unfold reachAt
  exact @decide_eq_true_iff _ (Classical.propDecidable _)
theorem rch_lt {g : GT} {f : Nat → Bool} (hm : mayG g = 0) {v : Nat} (h : Rch g.nxt f g.own.length v) : v < g.own.length := Rch.lt (fun k r hk x hx => ((may_row hm hk).2.2 x hx).2) h
theorem reach_cut {g : GT} {l : List Bool} (hm : mayG g = 0) : reachL (thinG (pOnly (reachL g l)) g) l = reachL g l := by
  have ht := thin_may (p := pOnly (reachL g l)) hm
  have ho := thin_own (p := pOnly (reachL g l)) hm
  have key : ∀ v, Rch (thinG (pOnly (reachL g l)) g).nxt (fun v => l.getD v false) g.own.length v ↔ Rch g.nxt (fun v => l.getD v false) g.own.length v := fun v => by
    constructor
    · intro h
      induction h with
      | base h1 h2 => exact .base h1 h2
      | @step u v r hu hr hv ih =>
        have hun := rch_lt hm ih
        have e := thin_getD (p := pOnly (reachL g l)) hm hun
        rw [getD_at hr] at e
        rw [e] at hv
        have hn := List.getElem?_eq_getElem (l := g.nxt) (i := u) (by have := (may_facts hm).2.1; omega)
        rw [getD_at hn] at hv
        exact .step ih hn (List.mem_filter.1 hv).1
    · intro h
      induction h with
      | base h1 h2 => exact .base h1 h2
      | @step u v r hu hr hv ih =>
        have hun := rch_lt hm hu
        have hvn := rch_lt hm (.step hu hr hv)
        have e := thin_getD (p := pOnly (reachL g l)) hm hun
        have hn := List.getElem?_eq_getElem (l := (thinG (pOnly (reachL g l)) g).nxt) (i := u) (by rw [thin_len hm]; exact hun)
        rw [getD_at hn, getD_at hr] at e
        refine .step ih hn ?_
        rw [e]
        refine List.mem_filter.2 ⟨hv, ?_⟩
        unfold pOnly
        rw [has_reach hm hun, has_reach hm hvn, at_rch.2 hu, at_rch.2 (.step hu hr hv)]; rfl
  generalize pOnly (reachL g l) = P at *
  rw [reachL_pos ht, reachL_pos hm, ho]
  refine List.map_congr_left (fun v _ => ?_)
  rw [Bool.eq_iff_iff, at_rch, at_rch, ho]
  exact key v
end Go.Proofs.Ytdcdpknlloffjaa.Gr
