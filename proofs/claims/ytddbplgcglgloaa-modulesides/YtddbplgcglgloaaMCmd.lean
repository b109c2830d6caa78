/- The walk of the reference's zero and MayCommand. -/
import Derived.Test.YtddbplgcglgloaaMDefs
namespace Go.Proofs.Ytddbplgcglgloaa
open Go.RowKit Ex
open Go.Sort (grow)
set_option linter.unusedSimpArgs false
set_option linter.unusedVariables false

set_option maxHeartbeats 400000 in
theorem zero_any (B : Nat) (x : E5) (t : T) (w : World) (hex : EX w B x t) :
    Calls Try.prog 53 #[x.v] w fun e w' => e = .returned (.bool (zeroE t)) ∧ Below w.heap.size w w' := by
  obtain ⟨d, hre⟩ := hex
  obtain ⟨op, n, A, len, cap⟩ := x
  cases d with
  | zero => exact absurd hre id
  | succ d =>
    obtain ⟨h1, h2, h3, h4, h5, _⟩ := hre
    simp only at h1 h2 h3 h4 h5
    unfold maxLen at h5
    have hz : Hid (zeroE t = ((op == 0) && (n == 0) && (len == 0))) := hide (by unfold zeroE; rw [h1, h2, h3])
    obtain ⟨f0, f1, f2⟩ := box_new w op n A len cap 25
    have Hb := hide ((Below.refl w.heap.size w).alloc (Nat.le_refl _) (.cells #[.int .i64 op, .int .i64 n, .slice A len cap] 25))
    clear h1 h2 h3
    by_cases a1 : op = 0
    · have b1 : (op == 0) = true := by simp [a1]
      by_cases a2 : n = 0
      · have b2 : (n == 0) = true := by simp [a2]
        by_cases a3 : len = 0
        · have b3 : ((len : Int) == 0) = true := by simp [a3]
          have b4 : (len == 0) = true := by simp [a3]
          have hf : Hid (zeroE t = true) := hide (by rw [hz.out, b1, b2, b4]; rfl)
          clear a1 a2 a3 hz
          unfold E5.v
          go_enter Try.func53, Try.ntmps53
          go_wp2_with fail
          go_ret
          exact ⟨ret_bool hf.out.symm, Hb.out⟩
        · have b3 : ((len : Int) == 0) = false := by simp; omega
          have b4 : (len == 0) = false := by simp [a3]
          have hf : Hid (zeroE t = false) := hide (by rw [hz.out, b1, b2, b4]; rfl)
          clear a1 a2 a3 hz
          unfold E5.v
          go_enter Try.func53, Try.ntmps53
          go_wp2_with fail
          go_ret
          exact ⟨ret_bool hf.out.symm, Hb.out⟩
      · have b2 : (n == 0) = false := by simp [a2]
        have hf : Hid (zeroE t = false) := hide (by rw [hz.out, b1, b2]; rfl)
        clear a1 a2 hz
        unfold E5.v
        go_enter Try.func53, Try.ntmps53
        go_wp2_with fail
        go_ret
        exact ⟨ret_bool hf.out.symm, Hb.out⟩
    · have b1 : (op == 0) = false := by simp [a1]
      have hf : Hid (zeroE t = false) := hide (by rw [hz.out, b1]; rfl)
      clear a1 hz
      unfold E5.v
      go_enter Try.func53, Try.ntmps53
      go_wp2_with fail
      go_ret
      exact ⟨ret_bool hf.out.symm, Hb.out⟩

def seenV (seen : List Int) : Nat → Value := fun i => .bool (decide ((i : Int) ∈ seen))
theorem seen_new (w : World) : (w.alloc (.cells #[.bool false, .bool false, .bool false, .bool false, .bool false, .bool false] 86)).rowIs w.heap.size 86 6 (seenV []) :=
  World.rowIs_alloc w _ 86 _ (fun i hi => by
    have h : i = 0 ∨ i = 1 ∨ i = 2 ∨ i = 3 ∨ i = 4 ∨ i = 5 := by simp at hi; omega
    rcases h with rfl | rfl | rfl | rfl | rfl | rfl <;> rfl)
theorem seen_set {w : World} {g k : Nat} {seen : List Int} (h : w.rowIs g 86 6 (seenV seen)) : (w.setCell ⟨g, k, none⟩ (.bool true)).rowIs g 86 6 (seenV ((k : Int) :: seen)) :=
  (h.set k (.bool true)).congr (fun i hi => by
    by_cases e : i = k
    · rw [if_pos e]; simp [seenV, e]
    · rw [if_neg e]
      have : ¬ (i : Int) = (k : Int) := by omega
      simp [seenV, this])
theorem q_rneeds5 {W : World} {B : Nat} {Av : Option Addr} {nv cv : Nat} {lv : List Dom.V} {op n : Int} {A : Option Addr} {len cap : Nat} {t : T} {want : Int} {now env sys : Bool} {dd : Nat} {os : Array Obj} (hB : B ≤ W.heap.size) (Ho : Hid (OkVars ⟨Av, nv, cv⟩ lv)) (Hrv : Hid (Dom.RV W B Av nv lv)) (Hre : Hid (EX W B ⟨op, n, A, len, cap⟩ t)) : Calls Try.prog 12 #[.slice Av nv cv, .agg #[.int .i64 op, .int .i64 n, .slice A len cap], .int .i64 want, .bool now, .bool env, .bool sys] (grow (redrawn W dd) os) fun e w'' => e = .returned (.int .i64 (needE lv t want now env sys)) ∧ ∃ p : Regrown, w'' = grow (redrawn W p.d) p.os := by
  obtain ⟨d, hre⟩ := Hre.out
  exact Calls.regrown_of (rneeds_any B Av nv cv lv d op n A len cap t want now env sys _ Ho.out.1 Ho.out.2.1 Ho.out.2.2.1 (Nat.le_trans hB (below_regrown W dd os).size) (hre.below ((below_regrown W dd os).mono hB)) (Hrv.out.below ((below_regrown W dd os).mono hB)) Ho.out.2.2.2)
end Go.Proofs.Ytddbplgcglgloaa
