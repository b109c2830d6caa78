/- The walk of dom.Values. -/
import Derived.Test.YtddbplgcglgloaaVMay
import Derived.Deep.OwnRows
import Derived.RegionTactic
import Derived.BigRegion
namespace Go.Proofs.Ytddbplgcglgloaa.Dom
open Go.RowKit Go.WideMaps Go.Maps
set_option linter.unusedSimpArgs false
set_option linter.unusedVariables false

def valsL : List V → Int → List Int
  | [], _ => []
  | v :: r, s => (v.lo + s % v.size) :: valsL r (s / v.size)
theorem valsL_length : ∀ (l : List V) (s : Int), (valsL l s).length = l.length
  | [], _ => rfl
  | v :: r, s => by simp [valsL, valsL_length r]

theorem mayGo_all : ∀ (l : List V) (seen : List (List UInt8)), mayGo seen l = 0 → ∀ v ∈ l, v.may = 0 ∧ nameB v.nm = true
  | [], _, _ => by simp
  | u :: r, seen, h => by
    rw [mayGo] at h
    split at h
    · omega
    · split at h
      · omega
      · rename_i h1 h2
        intro v hv
        rcases List.mem_cons.1 hv with rfl | hv
        · exact ⟨by simpa using h2, by
            rcases Bool.eq_false_or_eq_true (nameB v.nm) with h3 | h3
            · exact h3
            · exact absurd (.inl h3) h1⟩
        · exact mayGo_all r _ h v hv
theorem mayL_zero {l : List V} (h : mayL l = 0) : mayGo [] l = 0 ∧ totL l ≠ 0 := by
  unfold mayL at h
  split at h
  · exact absurd h (by assumption)
  · rename_i h1
    split at h
    · omega
    · exact ⟨by simpa using h1, by assumption⟩
theorem mayL_all {l : List V} (h : mayL l = 0) : ∀ v ∈ l, v.may = 0 := fun v hv => (mayGo_all l _ (mayL_zero h).1 v hv).1
theorem totGo_bd : ∀ (l : List V) (t : Int), 0 ≤ t → t ≤ 512 → 0 ≤ totGo t l ∧ totGo t l ≤ 512
  | [], t, h0, h1 => ⟨h0, h1⟩
  | v :: r, t, h0, h1 => by
    rw [totGo]
    split
    · omega
    · split
      · omega
      · have := (size_bd v.srt v.lo v.hi).1
        exact totGo_bd r _ (Int.mul_nonneg h0 this) (by omega)
theorem totL_bd (l : List V) : 0 ≤ totL l ∧ totL l ≤ 512 := by
  unfold totL; split
  · omega
  · exact totGo_bd l 1 (by omega) (by omega)
theorem totL_len {l : List V} (h : totL l ≠ 0) : l.length ≤ 6 := by
  unfold totL at h; split at h
  · exact absurd rfl h
  · omega

theorem info3 : (Try.prog.info? 3).map (fun i => (i.zero, i.size, i.bytes)) = some (some (.int .i64 0), 1, 8) := by kernel_rfl
theorem wrap64_small (n : Int) (h1 : -100000 ≤ n) (h2 : n ≤ 100000) : wrap64 n = n := by unfold wrap64; omega
def GoodVals (w : World) (n : Nat) (xs : List Int) (e : Ending) (w' : World) : Prop :=
  ∃ g, e = .returned (.tuple #[.slice (some ⟨g, 0, none⟩) n n, .bool true]) ∧ w.heap.size ≤ g ∧ w'.rowIs g 3 n (fun i => .int .i64 (xs.getD i 0)) ∧ Below w.heap.size w w'

def partV (xs : List Int) (k : Nat) (i : Nat) : Value := .int .i64 (if i < k then xs.getD i 0 else 0)

theorem vals_step {l : List V} {s st : Int} {k : Nat} {v : V} (h : l[k]? = some v) (hd : (valsL l s).drop k = valsL (l.drop k) st) :
    (valsL l s)[k]? = some (v.lo + st % v.size) ∧ (valsL l s).drop (k + 1) = valsL (l.drop (k + 1)) (st / v.size) := by
  rw [drop_at h, valsL] at hd
  constructor
  · have := congrArg (fun x => x[0]?) hd
    simpa [List.getElem?_drop] using this
  · have := congrArg (fun x => x.drop 1) hd
    simpa [List.drop_drop, Nat.add_comm] using this
theorem part_step {xs : List Int} {k : Nat} {x : Int} (h : xs[k]? = some x) (i : Nat) : (if i = k then Value.int .i64 x else partV xs k i) = partV xs (k + 1) i := by
  unfold partV
  by_cases e : i = k
  · subst e; simp [List.getD, h]
  · rw [if_neg e]
    by_cases e2 : i < k
    · rw [if_pos e2, if_pos (by omega)]
    · rw [if_neg e2, if_neg (by omega)]

end Go.Proofs.Ytddbplgcglgloaa.Dom
