/- The walks of the statements' own two and awake. -/
import Derived.Test.YtdjllpejonfpgaaVState
import Derived.KernelRfl
namespace Go.Proofs.Ytdjllpejonfpgaa.Dom
open Go.RowKit Go.WideMaps Go.Maps
set_option linter.unusedSimpArgs false
set_option linter.unusedVariables false

def twoL : List V := [⟨⟨#[120]⟩, true, 1, 0, 0⟩, ⟨⟨#[121]⟩, false, 2, 1, 3⟩]
theorem two_may : mayL twoL = 0 := by decide +kernel
theorem two_tot : totL twoL = 6 := by decide +kernel
theorem two_vals : valsL twoL 5 = [1, 3] := by decide +kernel
theorem two_ok : stateOk twoL [1, 3] = true := by decide +kernel
theorem two_st : stateV twoL [1, 3] = 5 := by decide +kernel
theorem two_nm : ∀ v ∈ twoL, v.nm.size ≤ maxLen := by
  intro v hv
  simp [twoL] at hv
  rcases hv with rfl | rfl <;> (unfold maxLen; decide)
def twoCells : Array Value := #[.string ⟨#[120]⟩, .bool true, .int .i64 1, .int .i64 0, .int .i64 0, .string ⟨#[121]⟩, .bool false, .int .i64 2, .int .i64 1, .int .i64 3]
theorem two_rv (w : World) : RV (w.alloc (.cells twoCells 41)) (w.heap.size + 1) (some ⟨w.heap.size, 0, none⟩) 2 twoL := by
  refine ⟨rfl, fun _ => ⟨w.heap.size, 0, rfl, by omega, fun k v hv => ?_⟩⟩
  match k, hv with
  | 0, hv => simp [twoL] at hv; subst hv; simp [CellV, go_sem, twoCells]
  | 1, hv => simp [twoL] at hv; subst hv; simp [CellV, go_sem, twoCells]
  | k + 2, hv => simp [twoL] at hv

def TwoPost (w : World) (e : Ending) (w' : World) : Prop := e = .returned (.slice (some ⟨w.heap.size, 0, none⟩) 2 2) ∧ w' = w.alloc (.cells twoCells 41)
theorem row_ri {w : World} {g n : Nat} {xs : List Int} (h : w.rowIs g 3 n (fun i => .int .i64 (xs.getD i 0))) (hl : xs.length = n) : RI w w.heap.size (some ⟨g, 0, none⟩) n xs :=
  ⟨hl, fun _ => ⟨g, 0, rfl, h.lt, fun k x hx => by
    obtain ⟨hk, rfl⟩ := List.getElem?_eq_some_iff.1 hx
    rw [Nat.zero_add, h.cell (by omega)]; simp [List.getD, hk]⟩⟩

end Go.Proofs.Ytdjllpejonfpgaa.Dom
