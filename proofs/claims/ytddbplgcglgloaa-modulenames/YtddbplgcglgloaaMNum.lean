/- The walk of dom.number. The walk of dom.State. -/
import Derived.Test.YtddbplgcglgloaaVVals
import Derived.Test.YtddbplgcglgloaaVHas
namespace Go.Proofs.Ytddbplgcglgloaa.Dom
open Go.RowKit Go.WideMaps Go.Maps
set_option linter.unusedSimpArgs false
set_option linter.unusedVariables false

def prodV : List V → Int
  | [] => 1
  | v :: r => v.size * prodV r
def numL : List V → List Int → Int
  | v :: r, x :: xs => (x - v.lo) + v.size * numL r xs
  | _, _ => 0
def hasAll : List V → List Int → Bool
  | v :: r, x :: xs => hasB v.srt v.lo v.hi x && hasAll r xs
  | _, _ => true
theorem totGo_prod : ∀ (l : List V) (t : Int), totGo t l ≠ 0 → totGo t l = t * prodV l
  | [], t, _ => by simp [totGo, prodV]
  | v :: r, t, h => by
    rw [totGo] at h ⊢
    split at h
    · exact absurd rfl h
    · rename_i h1
      rw [if_neg h1]
      split at h
      · exact absurd rfl h
      · rename_i h2
        rw [if_neg h2, totGo_prod r _ h, prodV, Int.mul_assoc]
theorem totL_prod {l : List V} (h : totL l ≠ 0) : totL l = prodV l := by
  unfold totL at h ⊢
  split at h
  · exact absurd rfl h
  · rename_i h1
    rw [if_neg h1, totGo_prod l 1 h]; simp
theorem prodV_pos : ∀ (l : List V), (∀ v ∈ l, v.may = 0) → 1 ≤ prodV l
  | [], _ => by simp [prodV]
  | v :: r, h => by
    have h1 : 1 ≤ v.size := size_pos (h v (by simp))
    have h2 := prodV_pos r (fun u hu => h u (by simp [hu]))
    rw [prodV]
    have := Int.mul_le_mul h1 h2 (by omega) (by omega); omega
theorem hasAll_at : ∀ (l : List V) (xs : List Int) (k : Nat) (v : V) (x : Int), hasAll l xs = true → l[k]? = some v → xs[k]? = some x → hasB v.srt v.lo v.hi x = true
  | [], _, k, v, x, _, h, _ => by simp at h
  | _ :: _, [], k, v, x, _, _, h => by simp at h
  | u :: r, y :: ys, 0, v, x, ha, h1, h2 => by
    simp at h1 h2; subst h1; subst h2
    rw [hasAll, Bool.and_eq_true] at ha; exact ha.1
  | u :: r, y :: ys, k + 1, v, x, ha, h1, h2 => by
    rw [hasAll, Bool.and_eq_true] at ha
    exact hasAll_at r ys k v x ha.2 (by simpa using h1) (by simpa using h2)
theorem hasAll_of : ∀ (l : List V) (xs : List Int), (∀ (k : Nat) (v : V) (x : Int), l[k]? = some v → xs[k]? = some x → hasB v.srt v.lo v.hi x = true) → hasAll l xs = true
  | [], _, _ => by simp [hasAll]
  | _ :: _, [], _ => by simp [hasAll]
  | u :: r, y :: ys, h => by
    rw [hasAll, Bool.and_eq_true]
    exact ⟨h 0 u y (by simp) (by simp), hasAll_of r ys (fun k v x h1 h2 => h (k + 1) v x (by simpa using h1) (by simpa using h2))⟩
theorem has_bd {s lo hi x : Int} (h : hasB s lo hi x = true) : lo ≤ x ∧ x < lo + sizeOfV s lo hi := by simpa [hasB] using h

/- one round of number, in numbers -/
theorem num_step {l : List V} {xs : List Int} {k : Nat} {v : V} {x st wt N Pr : Int} (hl : l[k]? = some v) (hx : xs[k]? = some x)
    (h1 : st + wt * numL (l.drop k) (xs.drop k) = N) (h2 : wt * prodV (l.drop k) = Pr) :
    (st + (x - v.lo) * wt) + (wt * v.size) * numL (l.drop (k + 1)) (xs.drop (k + 1)) = N ∧ (wt * v.size) * prodV (l.drop (k + 1)) = Pr := by
  rw [drop_at hl, drop_at hx, numL] at h1
  rw [drop_at hl, prodV] at h2
  constructor
  · rw [← h1]
    generalize numL (l.drop (k + 1)) (xs.drop (k + 1)) = N
    rw [Int.mul_add, Int.mul_assoc, Int.mul_comm (x - v.lo) wt]; omega
  · rw [Int.mul_assoc]; exact h2
theorem num_end {l : List V} {xs : List Int} {k : Nat} {st wt N : Int} (h : l.length ≤ k) (h1 : st + wt * numL (l.drop k) (xs.drop k) = N) : st = N := by
  rw [List.drop_of_length_le h, numL] at h1; simpa using h1
  · simp
theorem wt_bd {l : List V} (k : Nat) {wt Pr : Int} (hall : ∀ v ∈ l, v.may = 0) (h0 : 1 ≤ wt) (h : wt * prodV (l.drop k) = Pr) (hP : Pr ≤ 512) : wt ≤ 512 := by
  have h1 := prodV_pos (l.drop k) (fun v hv => hall v (List.mem_of_mem_drop hv))
  have := Int.mul_le_mul (Int.le_refl wt) h1 (by omega) (by omega); omega

theorem wrap64_mid (n : Int) (h1 : -100000000 ≤ n) (h2 : n ≤ 100000000) : wrap64 n = n := by unfold wrap64; omega
theorem num_bd {st wt x lo z : Int} (hs0 : 0 ≤ st) (hs1 : st < wt) (hw1 : 1 ≤ wt) (hw2 : wt ≤ 512) (x1 : lo ≤ x) (x2 : x < lo + z) (hz : z ≤ 2001) :
    0 ≤ (x - lo) * wt ∧ (x - lo) * wt ≤ 2001 * 512 ∧ st + (x - lo) * wt < wt * z := by
  refine ⟨Int.mul_nonneg (by omega) (by omega), Int.mul_le_mul (by omega) hw2 (by omega) (by omega), ?_⟩
  have h : (x - lo) * wt ≤ (z - 1) * wt := Int.mul_le_mul_of_nonneg_right (by omega) (by omega)
  have e : (z - 1) * wt = wt * z - wt := by rw [Int.sub_mul, Int.mul_comm z wt, Int.one_mul]
  rw [e] at h
  omega

end Go.Proofs.Ytddbplgcglgloaa.Dom
namespace Go.Proofs.Ytddbplgcglgloaa.Dom
open Go.RowKit Go.WideMaps Go.Maps
set_option linter.unusedSimpArgs false
set_option linter.unusedVariables false

def stateOk (l : List V) (xs : List Int) : Bool := decide (mayL l = 0 ∧ xs.length = l.length) && hasAll l xs
def stateV (l : List V) (xs : List Int) : Int := if stateOk l xs = true then numL l xs else 0

end Go.Proofs.Ytddbplgcglgloaa.Dom
