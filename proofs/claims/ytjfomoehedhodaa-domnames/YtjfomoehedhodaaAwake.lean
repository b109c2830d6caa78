/- The walks of the statements' own two and awake. -/
import Derived.Test.YtjfomoehedhodaaState
import Derived.KernelRfl
namespace Go.Proofs.Ytjfomoehedhodaa
open Go.RowKit Go.WideMaps Go.Maps
set_option linter.unusedSimpArgs false
set_option linter.unusedVariables false

def twoL : List V := [⟨⟨#[120]⟩, true, 1, 0, 0⟩, ⟨⟨#[121]⟩, false, 2, 1, 3⟩]
theorem two_may : mayL twoL = 0 := by decide +kernel
theorem two_tot : totL twoL = 6 := by decide +kernel
theorem two_vals : valsL twoL 5 = [1, 3] := by decide +kernel
theorem two_ok : stateOk twoL [1, 3] = true := by decide +kernel
theorem two_st : stateV twoL [1, 3] = 5 := by decide +kernel
theorem two_nm : ∀ v ∈ twoL, v.nm.size ≤ maxLen := by
  intro v hv
  simp [twoL] at hv
  rcases hv with rfl | rfl <;> (unfold maxLen; decide)
def twoCells : Array Value := #[.string ⟨#[120]⟩, .bool true, .int .i64 1, .int .i64 0, .int .i64 0, .string ⟨#[121]⟩, .bool false, .int .i64 2, .int .i64 1, .int .i64 3]
theorem two_rv (w : World) : RV (w.alloc (.cells twoCells 36)) (w.heap.size + 1) (some ⟨w.heap.size, 0, none⟩) 2 twoL := by
  refine ⟨rfl, fun _ => ⟨w.heap.size, 0, rfl, by omega, fun k v hv => ?_⟩⟩
  match k, hv with
  | 0, hv => simp [twoL] at hv; subst hv; simp [CellV, go_sem, twoCells]
  | 1, hv => simp [twoL] at hv; subst hv; simp [CellV, go_sem, twoCells]
  | k + 2, hv => simp [twoL] at hv

def TwoPost (w : World) (e : Ending) (w' : World) : Prop := e = .returned (.slice (some ⟨w.heap.size, 0, none⟩) 2 2) ∧ w' = w.alloc (.cells twoCells 36)
set_option maxHeartbeats 400000 in
theorem two_any (w : World) : Calls Try.prog 28 #[] w (TwoPost w) := by
  go_enter Try.func28, Try.ntmps28
  go_wp2_with fail
  go_ret
  exact ⟨rfl, rfl⟩

theorem row_ri {w : World} {g n : Nat} {xs : List Int} (h : w.rowIs g 3 n (fun i => .int .i64 (xs.getD i 0))) (hl : xs.length = n) : RI w w.heap.size (some ⟨g, 0, none⟩) n xs :=
  ⟨hl, fun _ => ⟨g, 0, rfl, h.lt, fun k x hx => by
    obtain ⟨hk, rfl⟩ := List.getElem?_eq_some_iff.1 hx
    rw [Nat.zero_add, h.cell (by omega)]; simp [List.getD, hk]⟩⟩

set_option maxHeartbeats 1000000 in
theorem awake_any (w : World) : Calls Try.prog 10 #[] w fun e w' => e = .returned (.bool true) ∧ Below w.heap.size w w' := by
  go_enter Try.func10, Try.ntmps10
  go_wp2_with fail
  refine (two_any _).mono ?_
  rintro e w1 ⟨rfl, hw1⟩
  have hb1 : Below w.heap.size w w1 := by rw [hw1]; exact (Below.refl _ _).alloc (Nat.le_refl _) _
  have hv1 : RV w1 w1.heap.size (some ⟨w.heap.size, 0, none⟩) 2 twoL := by rw [hw1]; have := two_rv w; simpa using this
  have Hb1 := hide hb1
  have Hv1 := hide hv1
  clear hw1 hb1 hv1
  go_wp2_with fail
  refine (vals_good (some ⟨w.heap.size, 0, none⟩) 2 2 w1.heap.size twoL 5 w1 (Nat.le_refl _) Hv1.out two_nm two_may (by decide) (by rw [two_tot]; decide)).mono ?_
  rintro e w2 ⟨g, rfl, hg, hrow, hb2⟩
  rw [two_vals] at hrow
  have r0 : w2.cell? ⟨g, 0, none⟩ = some (.int .i64 1) := hrow.cell (i := 0) (by decide)
  have r1 : w2.cell? ⟨g, 1, none⟩ = some (.int .i64 3) := hrow.cell (i := 1) (by decide)
  have hglt := hrow.lt
  have Hb2 := hide (Hb1.out.trans (hb2.mono Hb1.out.size))
  clear hrow hb2
  go_wp2_with fail
  refine (two_any _).mono ?_
  rintro e w3 ⟨rfl, hw3⟩
  have hb3 : Below w2.heap.size w2 w3 := by rw [hw3]; exact (Below.refl _ _).alloc (Nat.le_refl _) _
  have hv3 : RV w3 w3.heap.size (some ⟨w2.heap.size, 0, none⟩) 2 twoL := by rw [hw3]; have := two_rv w2; simpa using this
  have Hb3 := hide (Hb2.out.trans (hb3.mono Hb2.out.size))
  have Hv3 := hide hv3
  have s0 := (hb3.cell (p := ⟨g, 0, none⟩) hglt).trans r0
  have s1 := (hb3.cell (p := ⟨g, 1, none⟩) hglt).trans r1
  have hglt3 : g < w3.heap.size := Nat.lt_of_lt_of_le hglt hb3.size
  clear hw3 hb3 hv3 r0 r1 hglt
  go_wp2_with fail
  have hb4 : Below w3.heap.size w3 (w3.alloc (.cells #[.int .i64 1, .int .i64 3] 3)) := (Below.refl _ _).alloc (Nat.le_refl _) _
  have hi4 : RI (w3.alloc (.cells #[.int .i64 1, .int .i64 3] 3)) (w3.heap.size + 1) (some ⟨w3.heap.size, 0, none⟩) 2 [1, 3] := by
    refine ⟨rfl, fun _ => ⟨w3.heap.size, 0, rfl, by omega, fun k v hv => ?_⟩⟩
    match k, hv with
    | 0, hv => simp at hv; subst hv; simp [go_sem]
    | 1, hv => simp at hv; subst hv; simp [go_sem]
    | k + 2, hv => simp at hv
  refine (state_any _ 2 2 (w3.heap.size + 1) twoL _ 2 2 [1, 3] _ (by unfold maxLen; decide) (by unfold maxLen; decide) (by simp) ((Hv3.out.below hb4).more (by omega)) hi4 two_nm).mono ?_
  rintro e w4 ⟨rfl, hb5⟩
  rw [two_ok, two_st]
  have hb6 := hb4.trans (hb5.mono (by simp))
  have Hb6 := hide (Hb3.out.trans (hb6.mono Hb3.out.size))
  have t0 := (hb6.cell (p := ⟨g, 0, none⟩) hglt3).trans s0
  have t1 := (hb6.cell (p := ⟨g, 1, none⟩) hglt3).trans s1
  clear hb4 hi4 hb5 hb6 s0 s1
  go_wp2_with fail
  refine (two_any _).mono ?_
  rintro e w5 ⟨rfl, hw5⟩
  have hb7 : Below w4.heap.size w4 w5 := by rw [hw5]; exact (Below.refl _ _).alloc (Nat.le_refl _) _
  have hv7 : RV w5 w5.heap.size (some ⟨w4.heap.size, 0, none⟩) 2 twoL := by rw [hw5]; have := two_rv w4; simpa using this
  have Hb7 := hide (Hb6.out.trans (hb7.mono Hb6.out.size))
  have Hv7 := hide hv7
  clear hb7 hv7 hw5
  go_wp2_with fail
  refine (total_any _ 2 2 w5.heap.size twoL w5 (by unfold maxLen; decide) (Nat.le_refl _) Hv7.out).mono ?_
  rintro e w6 ⟨rfl, hb8⟩
  rw [two_tot]
  have Hb8 := hide (Hb7.out.trans (hb8.mono Hb7.out.size))
  clear hb8
  go_wp2_with fail
  go_ret
  exact ⟨rfl, Hb8.out⟩

end Go.Proofs.Ytjfomoehedhodaa
