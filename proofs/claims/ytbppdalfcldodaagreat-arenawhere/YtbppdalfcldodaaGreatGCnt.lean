/- How many picks there are, and how many states of one pick: their product is the number of states. What ChoiceAny says, as data: commands that set all to any. -/
import Derived.Test.YtbppdalfcldodaaGreatGLaw
namespace Go.Proofs.YtbppdalfcldodaaGreat
open Go.RowKit Ex
set_option linter.unusedSimpArgs false
set_option linter.unusedVariables false

def cnt (f : Int → Bool) (n : Nat) : Nat := (upTo f n).length
def pickQ : List Dom.V → Int → Bool
  | [], _ => true
  | v :: l, s => (v.env || (s % v.size == 0)) && pickQ l (s / v.size)
def partQ : List Dom.V → Int → Int → Bool
  | [], _, _ => true
  | v :: l, p, s => (!v.env || (s % v.size == p % v.size)) && partQ l (p / v.size) (s / v.size)
/- picks times the states of one pick: the total -/
end Go.Proofs.YtbppdalfcldodaaGreat
namespace Go.Proofs.YtbppdalfcldodaaGreat
open Go.RowKit Ex
set_option linter.unusedSimpArgs false
set_option linter.unusedVariables false

def anyGo (e : Bool) : Nat → List Dom.V → List ST
  | _, [] => []
  | k, v :: r => if v.env = e then ⟨(k : Int), true, .mk 0 0 []⟩ :: anyGo e (k + 1) r else anyGo e (k + 1) r
theorem any_len (e : Bool) : ∀ (r : List Dom.V) (k : Nat), (anyGo e k r).length ≤ r.length
  | [], _ => by simp [anyGo]
  | v :: r, k => by
    rw [anyGo]
    have := any_len e r (k + 1)
    split <;> simp <;> omega
theorem any_any (e : Bool) : ∀ (r : List Dom.V) (k : Nat), ∀ s ∈ anyGo e k r, s.any = true
  | [], _, s, h => by simp [anyGo] at h
  | v :: r, k, s, h => by
    rw [anyGo] at h
    split at h
    · rcases List.mem_cons.1 h with rfl | h
      · rfl
      · exact any_any e r (k + 1) s h
    · exact any_any e r (k + 1) s h
theorem any_in (e : Bool) : ∀ (r : List Dom.V) (k j : Nat) (v : Dom.V), r[j]? = some v → v.env = e → ∃ s ∈ anyGo e k r, s.var = ((k + j : Nat) : Int)
  | [], k, j, v, h, _ => by simp at h
  | u :: r, k, 0, v, h, he => by
    simp at h; subst h
    rw [anyGo, if_pos he]
    exact ⟨_, List.mem_cons_self .., rfl⟩
  | u :: r, k, j + 1, v, h, he => by
    obtain ⟨s, hs, e2⟩ := any_in e r (k + 1) j v (by simpa using h) he
    rw [show k + 1 + j = k + (j + 1) by omega] at e2
    rw [anyGo]
    split
    · exact ⟨s, List.mem_cons_of_mem _ hs, e2⟩
    · exact ⟨s, hs, e2⟩
theorem any_setGo {L : List Dom.V} (e : Bool) : ∀ (r : List Dom.V) (k : Nat) (seen : List Int), L.drop k = r → (∀ x ∈ seen, x < (k : Int)) → setGo L e seen (anyGo e k r) = 0
  | [], k, seen, _, _ => by simp [anyGo, setGo]
  | v :: r, k, seen, h, hs => by
    have hk : L[k]? = some v := by
      have := congrArg (fun l => l[0]?) h
      simpa using this
    have hr : L.drop (k + 1) = r := by
      have := congrArg List.tail h
      simpa using this
    have hl := (List.getElem?_eq_some_iff.1 hk).1
    rw [anyGo]
    by_cases he : v.env = e
    · rw [if_pos he, setGo, if_neg, if_pos rfl, if_pos (by rfl)]
      · exact any_setGo e r (k + 1) _ hr (fun x hx => by
          rcases List.mem_cons.1 hx with rfl | hx
          · simp only; omega
          · have := hs x hx; omega)
      · rintro (h1 | h1 | h1 | h1)
        · simp only at h1; omega
        · simp only at h1; omega
        · apply h1
          unfold envAt
          simp [hk, he]
        · have := hs _ h1
          simp only at this; omega
    · rw [if_neg he]
      exact any_setGo e r (k + 1) seen hr (fun x hx => by have := hs x hx; omega)
/- ChoiceAny's modules may be -/
end Go.Proofs.YtbppdalfcldodaaGreat
