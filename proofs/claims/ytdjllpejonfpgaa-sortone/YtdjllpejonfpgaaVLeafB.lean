/- The walks of package dom's functions of one variable: Size, mayValues. -/
import Derived.Test.YtdjllpejonfpgaaVLeaf
namespace Go.Proofs.Ytdjllpejonfpgaa.Dom
open Go.RowKit
set_option linter.unusedSimpArgs false
set_option linter.unusedVariables false


set_option maxHeartbeats 400000 in
theorem size_ex (nm : ByteArray) (env : Bool) (s lo hi : Int) (w : World) : Calls Try.prog 46 #[.agg #[.string nm, .bool env, .int .i64 s, .int .i64 lo, .int .i64 hi]] w fun e w' => e = .returned (.int .i64 (sizeOfV s lo hi)) ∧ w.alloc (.cells #[.string nm, .bool env, .int .i64 s, .int .i64 lo, .int .i64 hi] 41) = w' := by
  by_cases h1 : s = 1
  · have hv : sizeOfV s lo hi = 2 := by simp [sizeOfV, h1]
    rw [hv]; clear hv
    have hb : (s == 1) = true := by simp [h1]
    clear h1
    go_enter Try.func46, Try.ntmps46
    go_wp2
    go_ret
    exact ⟨rfl, rfl⟩
  · have hb : (s == 1) = false := by simp [h1]
    by_cases h2 : s = 2
    · have hb2 : (s == 2) = true := by simp [h2]
      cases hr : rangeB lo hi
      · have hv : sizeOfV s lo hi = 0 := by simp [sizeOfV, h1, hr]
        rw [hv]; clear hv h1 h2
        have Hr := hide hr; clear hr
        go_enter Try.func46, Try.ntmps46
        go_wp2_with (go_at_call 45; refine (range_any _ _ _ _ Hr.out).mono ?_; rintro e w' ⟨rfl, rfl⟩)
        go_ret
        exact ⟨rfl, rfl⟩
      · have hv : sizeOfV s lo hi = hi - lo + 1 := by simp [sizeOfV, h1, h2, hr]
        rw [hv]; clear hv h1 h2
        obtain ⟨b1, b2, b3⟩ := range_true hr
        have Hr := hide hr; clear hr
        go_enter Try.func46, Try.ntmps46
        go_wp2_with (go_at_call 45; refine (range_any _ _ _ _ Hr.out).mono ?_; rintro e w' ⟨rfl, rfl⟩)
        go_ret
        exact ⟨rfl, rfl⟩
    · have hb2 : (s == 2) = false := by simp [h2]
      have hv : sizeOfV s lo hi = 0 := by simp [sizeOfV, h1, h2]
      rw [hv]; clear hv h1 h2
      go_enter Try.func46, Try.ntmps46
      go_wp2_with fail
      go_ret
      exact ⟨rfl, rfl⟩

theorem size_any (nm : ByteArray) (env : Bool) (s lo hi : Int) (w : World) : Calls Try.prog 46 #[.agg #[.string nm, .bool env, .int .i64 s, .int .i64 lo, .int .i64 hi]] w fun e w' => e = .returned (.int .i64 (sizeOfV s lo hi)) ∧ Below w.heap.size w w' :=
  (size_ex nm env s lo hi w).mono fun e w' ⟨he, hw⟩ => ⟨he, by rw [← hw]; exact (Below.refl _ _).alloc (Nat.le_refl _) _⟩

set_option maxHeartbeats 400000 in
theorem mayv_any (nm : ByteArray) (env : Bool) (s lo hi : Int) (w : World) : Calls Try.prog 34 #[.agg #[.string nm, .bool env, .int .i64 s, .int .i64 lo, .int .i64 hi]] w fun e w' => e = .returned (.int .i64 (mayOfV s lo hi)) ∧ Below w.heap.size w w' := by
  by_cases h1 : s = 1
  · have hb : (s == 1) = true := by simp [h1]
    by_cases h2 : lo = 0 <;> by_cases h3 : hi = 0
    all_goals
      have hv : mayOfV s lo hi = if lo = 0 ∧ hi = 0 then 0 else 6 := by simp [mayOfV, h1]
      simp only [h2, h3, and_true, true_and, and_false, false_and, if_true, if_false] at hv
      first | rw [hv] | (subst h2; subst h3; rw [hv]) | (subst h2; rw [hv]) | (subst h3; rw [hv])
      clear hv h1
      go_enter Try.func34, Try.ntmps34
      go_wp2
      go_ret
      exact ⟨rfl, (Below.refl _ _).alloc (Nat.le_refl _) _⟩
  · have hb : (s == 1) = false := by simp [h1]
    by_cases h2 : s = 2
    · have hb2 : (s == 2) = true := by simp [h2]
      cases hr : rangeB lo hi
      all_goals
        have hv : mayOfV s lo hi = if rangeB lo hi = true then 0 else 6 := by simp [mayOfV, h1, h2]
        rw [hr] at hv
        simp only [Bool.false_eq_true, if_true, if_false] at hv
        rw [hv]; clear hv h1 h2
        have Hr := hide hr; clear hr
        go_enter Try.func34, Try.ntmps34
        go_wp2_with (go_at_call 45; refine (range_any _ _ _ _ Hr.out).mono ?_; rintro e w' ⟨rfl, rfl⟩)
        go_ret
        exact ⟨rfl, (Below.refl _ _).alloc (Nat.le_refl _) _⟩
    · have hb2 : (s == 2) = false := by simp [h2]
      have hv : mayOfV s lo hi = 4 := by simp [mayOfV, h1, h2]
      rw [hv]; clear hv h1 h2
      go_enter Try.func34, Try.ntmps34
      go_wp2_with fail
      go_ret
      exact ⟨rfl, (Below.refl _ _).alloc (Nat.le_refl _) _⟩

end Go.Proofs.Ytdjllpejonfpgaa.Dom
