/- A slice of integers that came in, opened: its cells hold a list of integers. -/
import Derived.Test.YtjfomoehedhodaaOpen
namespace Go.Proofs.Ytjfomoehedhodaa
open Go.RowKit Go.WideShapes Go.ChangeShapes Go.Deep
section
variable {H : Type} {enc : TypeId × Value → H} {w : World} {base : Nat} {spare : Nat → Bool} {held : Bool}
theorem open_intsl {r : Reach} {b0 : Nat} {v0 : Value} {d : DataW H} {p : List MemPlace} (hv : Value.okWide Try.prog w r b0 23 v0) (h : DataW.Trod enc Try.prog w base spare held 23 v0 d p) :
    ∃ (A : Option Addr) (n c : Nat) (l : List Int), v0 = .slice A n c ∧ n ≤ maxLen ∧ RI w w.heap.size A n l := by
  obtain ⟨A, n, c, rfl⟩ := okWide_slice Try.underlying23 hv
  obtain ⟨fuel, hf⟩ := h
  rcases open_slice Try.underlying23 hf with ⟨hcs, _⟩ | ⟨a, len, cap, m, fu, D, Pl, hcs, _, hl, hm, hmm, _, hx⟩
  · simp [Value.cells] at hcs
    obtain ⟨rfl, rfl, rfl⟩ := hcs
    exact ⟨none, 0, 0, [], rfl, by unfold maxLen; omega, ⟨rfl, fun h => absurd h (by omega)⟩⟩
  · simp [Value.cells] at hcs
    obtain ⟨rfl, rfl, rfl⟩ := hcs
    have hnm : n ≤ m := by rw [hmm]; split <;> omega
    have each : ∀ i, i < n → ∃ z : Int, w.cell? (a.add i) = some (.int .i64 z) := by
      intro i hi
      obtain ⟨cs', h1, h2⟩ := hx i (by omega)
      rw [cells3] at h1
      obtain ⟨z, e, _, _⟩ := DataW.trod_int Try.underlying3 h2
      obtain ⟨_, _, hat⟩ := World.cells?_some h1
      have := hat 0 (by omega)
      rw [e, Nat.mul_one] at this
      exact ⟨z, by simpa [Addr.add] using this⟩
    obtain ⟨f, hfv⟩ := choose_lt each
    refine ⟨some a, n, c, (List.range n).map f, rfl, by omega, ⟨by simp, fun h0 => ?_⟩⟩
    obtain ⟨b, off, spot⟩ := a
    have hspot : spot = none := by simpa [Addr.add] using World.cell?_spot (hfv 0 h0)
    subst hspot
    refine ⟨b, off, rfl, ?_, fun k x hk => ?_⟩
    · have h1 := hfv 0 h0
      have h2 : w.cell? ⟨b, off, none⟩ = some (.int .i64 (f 0)) := by simpa [Addr.add] using h1
      rcases Nat.lt_or_ge b w.heap.size with hh | hh
      · exact hh
      · simp [World.cell?, Array.getElem?_eq_none hh] at h2
    · rw [List.getElem?_map] at hk
      obtain ⟨i, hi, rfl⟩ := Option.map_eq_some_iff.1 hk
      obtain ⟨hlt, e⟩ := List.getElem?_eq_some_iff.1 hi
      have hkn : k < n := by simpa using hlt
      have hik : i = k := by rw [← e]; simp
      subst hik
      have := hfv i hkn
      by_cases h5 : i = 0
      · subst h5; simpa [Addr.add] using this
      · simpa [Addr.add, h5] using this
end
end Go.Proofs.Ytjfomoehedhodaa
