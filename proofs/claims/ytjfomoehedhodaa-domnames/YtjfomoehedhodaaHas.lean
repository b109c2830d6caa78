/- The walk of dom.hasValue. -/
import Derived.Test.YtjfomoehedhodaaLeafB
import Derived.Deep.RegionHeld3
import Derived.Deep.RegionWith
import Derived.Deep.QuietTactic
import Derived.BigQuiet
import Derived.IntWalk
namespace Go.Proofs.Ytjfomoehedhodaa
open Go.RowKit
set_option linter.unusedSimpArgs false
set_option linter.unusedVariables false
theorem below_drewN {B : Nat} {a w : World} (h : Below B a w) (n : Nat) : Below B a (w.drewN n) := ⟨h.os, h.tape, h.output, h.size, h.block⟩
def hasB (s lo hi x : Int) : Bool := decide (lo ≤ x ∧ x < lo + sizeOfV s lo hi)

set_option maxHeartbeats 400000 in
theorem has_any (nm : ByteArray) (env : Bool) (s lo hi x : Int) (w : World) (hm : mayOfV s lo hi = 0) : Calls Try.prog 29 #[.agg #[.string nm, .bool env, .int .i64 s, .int .i64 lo, .int .i64 hi], .int .i64 x] w fun e w' => e = .returned (.bool (hasB s lo hi x)) ∧ Below w.heap.size w w' := by
  have sz1 := size_pos hm
  have sz2 := (size_bd s lo hi).2
  obtain ⟨lo1, lo2⟩ := may_lo hm
  clear hm
  by_cases h1 : lo ≤ x
  · have h1b : decide (lo ≤ x) = true := by simp [h1]
    have hr : hasB s lo hi x = decide (x < lo + sizeOfV s lo hi) := by simp [hasB, h1]
    rw [hr]; clear hr
    go_enter Try.func29, Try.ntmps29
    go_wp2_with fail

    go_region_held3 (fun w' => w'.cell? ⟨w.heap.size, 0, none⟩ = some (.string nm) ∧ w'.cell? ⟨w.heap.size, 1, none⟩ = some (.bool env) ∧ w'.cell? ⟨w.heap.size, 2, none⟩ = some (.int .i64 s) ∧ w'.cell? ⟨w.heap.size, 3, none⟩ = some (.int .i64 lo) ∧ w'.cell? ⟨w.heap.size, 4, none⟩ = some (.int .i64 hi)) (go_keep)
      (first | (go_at_call 22; refine (size_ex nm env s lo hi _).mono ?_; rintro e w' ⟨rfl, rfl⟩))
    rw [show IntKind.i64.wrap (lo + sizeOfV s lo hi) = lo + sizeOfV s lo hi from IntWalk.i64_in _ (by omega)]
    go_wp2_with fail
    go_ret
    exact ⟨rfl, (((Below.refl _ _).alloc (Nat.le_refl _) _).alloc (by simp) _).drew⟩
  · have h1b : decide (lo ≤ x) = false := by simp; omega
    have hr : hasB s lo hi x = false := by simp [hasB, h1]
    rw [hr]; clear hr
    go_enter Try.func29, Try.ntmps29
    go_wp2_with fail
    go_quiet (fail)
    go_wp2_with fail
    go_ret
    exact ⟨rfl, (below_drewN ((Below.refl _ _).alloc (Nat.le_refl _) _) _)⟩
end Go.Proofs.Ytjfomoehedhodaa
