/- The walk of the statement DomSizes, where the variable may be. -/
import Derived.Test.YtjfomoehedhodaaSizes
namespace Go.Proofs.Ytjfomoehedhodaa
open Go.RowKit Go.WideMaps Go.Maps
set_option linter.unusedSimpArgs false
set_option linter.unusedVariables false

set_option maxRecDepth 100000 in
set_option maxHeartbeats 1000000 in
theorem sizes_full (lo hi : Int) (env : Bool) (w : World) (hr : rangeB lo hi = true) (h5 : 512 < hi - lo + 1) :
    Calls Try.prog 7 #[.int .i64 lo, .int .i64 hi, .bool env] w fun e w' => e = .returned (.bool true) ∧ Below w.heap.size w w' := by
  have E1 : Hid (mayL [oneV env lo hi] = 7) := hide (by rw [one_may hr, if_pos h5])
  have E2 := hide (one_size hr)
  obtain ⟨h1, h2, h3⟩ := range_true hr
  clear hr
  go_enter Try.func7, Try.ntmps7
  go_wp2_with fail
  have hb0 : Below w.heap.size w (w.alloc (.cells #[.string ⟨#[118]⟩, .bool env, .int .i64 2, .int .i64 lo, .int .i64 hi] 36)) := (Below.refl _ _).alloc (Nat.le_refl _) _
  have hv0 := one_rv w env lo hi
  have hx0 := box_new w (oneV env lo hi) 36
  have hz0 : w.heap.size + 1 ≤ (w.alloc (.cells #[.string ⟨#[118]⟩, .bool env, .int .i64 2, .int .i64 lo, .int .i64 hi] 36)).heap.size := by simp
  change Box5 (w.alloc (.cells #[.string ⟨#[118]⟩, .bool env, .int .i64 2, .int .i64 lo, .int .i64 hi] 36)) _ _ at hx0
  generalize w.alloc (.cells #[.string ⟨#[118]⟩, .bool env, .int .i64 2, .int .i64 lo, .int .i64 hi] 36) = w0 at *
  have Hb0 := hide hb0; have Hv0 := hide hv0; have Hx0 := hide hx0
  clear hb0 hv0 hx0
  refine (may_any _ 1 1 (w.heap.size + 1) [oneV env lo hi] _ (by unfold maxLen; decide) hz0 Hv0.out (one_nm _ _ _)).mono ?_
  rintro e w1 ⟨rfl, hb1⟩
  rw [E1.out]
  obtain ⟨d0, d1, d2, d3, d4⟩ := Hx0.out.below hb1 (by omega)
  have hz1 := hb1.size
  have Hb1 := hide (Hb0.out.trans (hb1.mono (by omega)))
  clear hb1
  go_wp2_with fail
  refine (size_any _ _ _ _ _ _).mono ?_
  rintro e w2 ⟨rfl, hb2⟩
  rw [show sizeOfV (oneV env lo hi).srt (oneV env lo hi).lo (oneV env lo hi).hi = hi - lo + 1 from E2.out]
  have hz2 := hb2.size
  have Hb2 := hide (Hb1.out.trans (hb2.mono (by omega)))
  clear hb2 d0 d1 d2 d3 d4
  go_wp2_with fail
  refine (awake_any _).mono ?_
  rintro e w4 ⟨rfl, hb4⟩
  have Hb4 := hide (Hb2.out.trans (hb4.mono (by omega)))
  clear hb4
  go_wp2_with fail
  go_ret
  exact ⟨rfl, Hb4.out⟩

set_option maxRecDepth 100000 in
set_option maxHeartbeats 1000000 in
theorem sizes_ok (lo hi : Int) (env : Bool) (w : World) (hr : rangeB lo hi = true) (h5 : ¬ 512 < hi - lo + 1) :
    Calls Try.prog 7 #[.int .i64 lo, .int .i64 hi, .bool env] w fun e w' => e = .returned (.bool true) ∧ Below w.heap.size w w' := by
  obtain ⟨h1, h2, h3⟩ := range_true hr
  have E1 : Hid (mayL [oneV env lo hi] = 0) := hide (by rw [one_may hr, if_neg h5])
  have E2 : Hid (totL [oneV env lo hi] = hi - lo + 1) := hide (by rw [one_tot hr, if_neg h5])
  have E3 : Hid (valsL [oneV env lo hi] 0 = [lo]) := hide (by rw [one_vals hr 0 (by omega) (by omega)]; simp)
  have E4 : Hid (valsL [oneV env lo hi] (hi - lo) = [hi]) := hide (by rw [one_vals hr (hi - lo) (by omega) (by omega)]; congr 1; omega)
  clear hr
  go_enter Try.func7, Try.ntmps7
  go_wp2_with fail
  have hb0 : Below w.heap.size w (w.alloc (.cells #[.string ⟨#[118]⟩, .bool env, .int .i64 2, .int .i64 lo, .int .i64 hi] 36)) := (Below.refl _ _).alloc (Nat.le_refl _) _
  have hv0 := one_rv w env lo hi
  have hz0 : w.heap.size + 1 ≤ (w.alloc (.cells #[.string ⟨#[118]⟩, .bool env, .int .i64 2, .int .i64 lo, .int .i64 hi] 36)).heap.size := by simp
  generalize w.alloc (.cells #[.string ⟨#[118]⟩, .bool env, .int .i64 2, .int .i64 lo, .int .i64 hi] 36) = w0 at *
  have Hb0 := hide hb0; have Hv0 := hide hv0
  clear hb0 hv0
  refine (vals_good _ 1 1 (w.heap.size + 1) [oneV env lo hi] 0 _ hz0 Hv0.out (one_nm _ _ _) E1.out (by omega) (by rw [E2.out]; omega)).mono ?_
  rintro e w1 ⟨g, rfl, hg, hrow, hb1⟩
  rw [E3.out] at hrow
  have r0 : w1.cell? ⟨g, 0, none⟩ = some (.int .i64 lo) := hrow.cell (i := 0) (by decide)
  have hglt := hrow.lt
  have hz1 := hb1.size
  have Hv1 := hide (Hv0.out.below (hb1.mono hz0))
  have Hb1 := hide (Hb0.out.trans (hb1.mono (by omega)))
  clear hb1 hrow
  go_wp2_with fail
  refine (vals_good _ 1 1 (w.heap.size + 1) [oneV env lo hi] (hi - lo) _ (by omega) Hv1.out (one_nm _ _ _) E1.out (by omega) (by rw [E2.out]; omega)).mono ?_
  rintro e w2 ⟨g2, rfl, hg2, hrow2, hb2⟩
  rw [E4.out] at hrow2
  have s0 : w2.cell? ⟨g2, 0, none⟩ = some (.int .i64 hi) := hrow2.cell (i := 0) (by decide)
  have r0' := (hb2.cell (p := ⟨g, 0, none⟩) hglt).trans r0
  have hglt2 := hrow2.lt
  have hz2 := hb2.size
  have Hv2 := hide (Hv1.out.below (hb2.mono (by omega)))
  have Hb2 := hide (Hb1.out.trans (hb2.mono (by omega)))
  clear hb2 hrow2 r0
  go_wp2_with fail
  refine (may_any _ 1 1 (w.heap.size + 1) [oneV env lo hi] _ (by unfold maxLen; decide) (by omega) Hv2.out (one_nm _ _ _)).mono ?_
  rintro e w3 ⟨rfl, hb3⟩
  rw [E1.out]
  have hz3 := hb3.size
  have r1 := (hb3.cell (p := ⟨g, 0, none⟩) (by show g < _; omega)).trans r0'
  have s1 := (hb3.cell (p := ⟨g2, 0, none⟩) hglt2).trans s0
  have Hv3 := hide (Hv2.out.below (hb3.mono (by omega)))
  have Hb3 := hide (Hb2.out.trans (hb3.mono (by omega)))
  clear hb3 r0' s0
  go_wp2_with fail
  refine (total_any _ 1 1 (w.heap.size + 1) [oneV env lo hi] _ (by unfold maxLen; decide) (by omega) Hv3.out).mono ?_
  rintro e w4 ⟨rfl, hb4⟩
  rw [E2.out]
  have hz4 := hb4.size
  have r2 := (hb4.cell (p := ⟨g, 0, none⟩) (by show g < _; omega)).trans r1
  have s2 := (hb4.cell (p := ⟨g2, 0, none⟩) (by show g2 < _; omega)).trans s1
  have Hb4 := hide (Hb3.out.trans (hb4.mono (by omega)))
  clear hb4 r1 s1
  go_wp2_with fail
  refine (awake_any _).mono ?_
  rintro e w5 ⟨rfl, hb5⟩
  have Hb5 := hide (Hb4.out.trans (hb5.mono (by omega)))
  clear hb5
  go_wp2_with fail
  go_ret
  exact ⟨rfl, Hb5.out⟩

theorem sizes_any (lo hi : Int) (env : Bool) (w : World) :
    Calls Try.prog 7 #[.int .i64 lo, .int .i64 hi, .bool env] w fun e w' => e = .returned (.bool true) ∧ Below w.heap.size w w' := by
  cases hr : rangeB lo hi
  · exact sizes_bad lo hi env w hr
  · by_cases h5 : 512 < hi - lo + 1
    · exact sizes_full lo hi env w hr h5
    · exact sizes_ok lo hi env w hr h5
end Go.Proofs.Ytjfomoehedhodaa
