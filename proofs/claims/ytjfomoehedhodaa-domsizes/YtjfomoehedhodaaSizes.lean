/- The walk of the statement DomSizes. -/
import Derived.Test.YtjfomoehedhodaaAwake
namespace Go.Proofs.Ytjfomoehedhodaa
open Go.RowKit Go.WideMaps Go.Maps
set_option linter.unusedSimpArgs false
set_option linter.unusedVariables false

def oneV (env : Bool) (lo hi : Int) : V := ⟨⟨#[118]⟩, env, 2, lo, hi⟩
theorem one_nm (env : Bool) (lo hi : Int) : ∀ v ∈ [oneV env lo hi], v.nm.size ≤ maxLen := by
  intro v hv
  simp at hv; subst hv
  show (ByteArray.mk #[118]).size ≤ maxLen
  unfold maxLen; decide
theorem one_name (env : Bool) (lo hi : Int) : nameB (oneV env lo hi).nm = true := by
  show nameB ⟨#[118]⟩ = true
  decide +kernel
theorem one_go (env : Bool) (lo hi : Int) : mayGo [] [oneV env lo hi] = (oneV env lo hi).may := by
  rw [mayGo, if_neg (by rw [one_name]; simp)]
  split
  · rfl
  · rename_i h; simp at h; rw [h]; rfl
theorem one_bad {env : Bool} {lo hi : Int} (h : rangeB lo hi = false) : mayL [oneV env lo hi] = 6 ∧ sizeOfV 2 lo hi = 0 ∧ totL [oneV env lo hi] = 0 := by
  have hm : (oneV env lo hi).may = 6 := by simp [oneV, V.may, mayOfV, h]
  refine ⟨?_, by simp [sizeOfV, h], ?_⟩
  · unfold mayL; rw [one_go, hm]; rfl
  · unfold totL; rw [if_neg (by simp), totGo, if_pos (by rw [hm]; decide)]
theorem one_size {lo hi : Int} (h : rangeB lo hi = true) : sizeOfV 2 lo hi = hi - lo + 1 := by simp [sizeOfV, h]
theorem one_tot {env : Bool} {lo hi : Int} (h : rangeB lo hi = true) : totL [oneV env lo hi] = if 512 < hi - lo + 1 then 0 else hi - lo + 1 := by
  have hm : (oneV env lo hi).may = 0 := by simp [oneV, V.may, mayOfV, h]
  have hs : (oneV env lo hi).size = hi - lo + 1 := one_size h
  unfold totL; rw [if_neg (by simp), totGo, if_neg (by simp [hm]), hs, Int.one_mul]; rfl
theorem one_may {env : Bool} {lo hi : Int} (h : rangeB lo hi = true) : mayL [oneV env lo hi] = if 512 < hi - lo + 1 then 7 else 0 := by
  have hm : (oneV env lo hi).may = 0 := by simp [oneV, V.may, mayOfV, h]
  have := range_true h
  unfold mayL; rw [one_go, hm, one_tot h]
  simp only [ne_eq, not_true_eq_false, if_false]
  by_cases h5 : 512 < hi - lo + 1
  · simp [h5]
  · simp only [h5, if_false]; rw [if_neg (by omega)]
theorem one_vals {env : Bool} {lo hi : Int} (h : rangeB lo hi = true) (s : Int) (h0 : 0 ≤ s) (h1 : s < hi - lo + 1) : valsL [oneV env lo hi] s = [lo + s] := by
  have hs : (oneV env lo hi).size = hi - lo + 1 := one_size h
  simp only [valsL, hs]
  rw [Int.emod_eq_of_lt h0 h1]; rfl
theorem one_rv (w : World) (env : Bool) (lo hi : Int) : RV (w.alloc (.cells #[.string ⟨#[118]⟩, .bool env, .int .i64 2, .int .i64 lo, .int .i64 hi] 36)) (w.heap.size + 1) (some ⟨w.heap.size, 0, none⟩) 1 [oneV env lo hi] := by
  refine ⟨rfl, fun _ => ⟨w.heap.size, 0, rfl, by omega, fun k v hv => ?_⟩⟩
  match k, hv with
  | 0, hv => simp at hv; subst hv; simp [CellV, go_sem, oneV]
  | k + 1, hv => simp at hv

set_option maxRecDepth 100000 in
set_option maxHeartbeats 1000000 in
theorem sizes_bad (lo hi : Int) (env : Bool) (w : World) (hr : rangeB lo hi = false) :
    Calls Try.prog 7 #[.int .i64 lo, .int .i64 hi, .bool env] w fun e w' => e = .returned (.bool true) ∧ Below w.heap.size w w' := by
  obtain ⟨e1, e2, e3⟩ := one_bad (env := env) hr
  have E1 := hide e1; have E2 := hide e2; have E3 := hide e3
  clear e1 e2 e3
  have hno := range_false hr
  clear hr
  by_cases h1 : -1000 ≤ lo <;> by_cases h2 : lo ≤ hi <;> by_cases h3 : hi ≤ 1000
  all_goals first
    | (exfalso; omega)
    | (clear hno
       go_enter Try.func7, Try.ntmps7
       go_wp2_with fail
       have hb0 : Below w.heap.size w (w.alloc (.cells #[.string ⟨#[118]⟩, .bool env, .int .i64 2, .int .i64 lo, .int .i64 hi] 36)) := (Below.refl _ _).alloc (Nat.le_refl _) _
       have hv0 := one_rv w env lo hi
       have hx0 := box_new w (oneV env lo hi) 36
       have hz0 : w.heap.size + 1 ≤ (w.alloc (.cells #[.string ⟨#[118]⟩, .bool env, .int .i64 2, .int .i64 lo, .int .i64 hi] 36)).heap.size := by simp
       change Box5 (w.alloc (.cells #[.string ⟨#[118]⟩, .bool env, .int .i64 2, .int .i64 lo, .int .i64 hi] 36)) _ _ at hx0
       generalize w.alloc (.cells #[.string ⟨#[118]⟩, .bool env, .int .i64 2, .int .i64 lo, .int .i64 hi] 36) = w0 at *
       have Hb0 := hide hb0; have Hv0 := hide hv0; have Hx0 := hide hx0
       clear hb0 hv0 hx0
       refine (may_any _ 1 1 (w.heap.size + 1) [oneV env lo hi] _ (by unfold maxLen; decide) hz0 Hv0.out (one_nm _ _ _)).mono ?_
       rintro e w1 ⟨rfl, hb1⟩
       rw [E1.out]
       obtain ⟨d0, d1, d2, d3, d4⟩ := Hx0.out.below hb1 (by omega)
       have hz1 := hb1.size
       have Hv1 := hide (Hv0.out.below (hb1.mono hz0))
       have Hb1 := hide (Hb0.out.trans (hb1.mono (by omega)))
       clear hb1
       go_wp2_with fail
       refine (size_any _ _ _ _ _ _).mono ?_
       rintro e w2 ⟨rfl, hb2⟩
       rw [show sizeOfV (oneV env lo hi).srt (oneV env lo hi).lo (oneV env lo hi).hi = 0 from E2.out]
       have hz2 := hb2.size
       have Hv2 := hide (Hv1.out.below (hb2.mono (by omega)))
       have Hb2 := hide (Hb1.out.trans (hb2.mono (by omega)))
       clear hb2 d0 d1 d2 d3 d4
       go_wp2_with fail
       refine (total_any _ 1 1 (w.heap.size + 1) [oneV env lo hi] _ (by unfold maxLen; decide) (by omega) Hv2.out).mono ?_
       rintro e w3 ⟨rfl, hb3⟩
       rw [E3.out]
       have hz3 := hb3.size
       have Hb3 := hide (Hb2.out.trans (hb3.mono (by omega)))
       clear hb3
       go_wp2_with fail
       refine (awake_any _).mono ?_
       rintro e w4 ⟨rfl, hb4⟩
       have Hb4 := hide (Hb3.out.trans (hb4.mono (by omega)))
       clear hb4
       go_wp2_with fail
       go_ret
       exact ⟨rfl, Hb4.out⟩)
end Go.Proofs.Ytjfomoehedhodaa
