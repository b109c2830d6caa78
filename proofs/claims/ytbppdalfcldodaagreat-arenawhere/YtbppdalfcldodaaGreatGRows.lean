/- Rows of marks that are made: Dead on both sides, Has, isIn, Row. -/
import Derived.Test.YtbppdalfcldodaaGreatGMayR
set_option maxRecDepth 100000
namespace Go.Proofs.YtbppdalfcldodaaGreat.Gr
open Go.RowKit
open Go.Sort (grow)
set_option linter.unusedSimpArgs false
set_option linter.unusedVariables false

def RowPost (w : World) (l : List Bool) (e : Ending) (w' : World) : Prop := ∃ s : SL, e = .returned s.v ∧ RB w' w'.heap.size s l ∧ Below w.heap.size w w'
theorem rows_nil {α : Type} (P : World → Nat → Nat → Nat → α → Prop) (w : World) (B : Nat) : Rows P w B ⟨none, 0, 0⟩ [] := ⟨rfl, Nat.le_refl _, Nat.zero_le _, fun h => absurd h (by show ¬ 0 < 0; omega), fun _ => rfl⟩
theorem rb_of {w : World} {b n : Nat} {f : Nat → Value} {l : List Bool} (h : w.rowIs b 4 n f) (hl : l.length = n) (hm : n ≤ maxLen) (hf : ∀ i x, l[i]? = some x → f i = .bool x) : RB w w.heap.size ⟨some ⟨b, 0, none⟩, n, n⟩ l :=
  ⟨hl, Nat.le_refl _, hm, fun hn => ⟨b, 0, rfl, h.lt, fun k x hx => by
    have hk : k < n := by rw [← hl]; exact (List.getElem?_eq_some_iff.1 hx).1
    show w.cell? ⟨b, 0 + k, none⟩ = some (.bool x)
    rw [Nat.zero_add, h.cell hk, hf k x hx]⟩, fun h => by cases h⟩
theorem info4 : (Tryz.prog.info? 4).map (fun i => (i.zero, i.size, i.bytes)) = some (some (.bool false), 1, 1) := by kernel_rfl
theorem make_bools (n : Nat) (hn : n ≤ 2 ^ 48) (w : World) : (Instr.makeSlice 47 (.int .i64 (n : Int)) (.int .i64 (n : Int))).run Tryz.prog w = .ok (.slice (some ⟨w.heap.size, 0, none⟩) n n) (w.alloc (.cells (madeCells #[.bool false] n) 4)) :=
  run_make_row' 47 4 (.bool false) 1 Tryz.underlying47 info4 rfl .i64 .i64 n (by omega) (by omega) w
def markV (f : Nat → Bool) (k : Nat) : Nat → Value := fun i => .bool (decide (i < k) && f i)
theorem mark_step {w : World} {b n k : Nat} {f : Nat → Bool} {v : Bool} (h : w.rowIs b 4 n (markV f k)) (hv : f k = v) : (w.setCell ⟨b, k, none⟩ (.bool v)).rowIs b 4 n (markV f (k + 1)) :=
  (h.set k (.bool v)).congr (fun i _ => by
    unfold markV
    by_cases e : i = k
    · subst e; simp [hv]
    · rw [if_neg e]
      have : decide (i < k + 1) = decide (i < k) := by rw [decide_eq_decide]; omega
      rw [this])
theorem mark_zero {w : World} {b n : Nat} {f : Nat → Bool} (h : w.rowIs b 4 n (fun _ => .bool false)) : w.rowIs b 4 n (markV f 0) := h.congr (fun i _ => by simp [markV])
theorem mark_done {w : World} {b n : Nat} {f : Nat → Bool} (h : w.rowIs b 4 n (markV f n)) (hm : n ≤ maxLen) : RB w w.heap.size ⟨some ⟨b, 0, none⟩, n, n⟩ ((List.range n).map f) :=
  rb_of h (by simp) hm (fun i x hx => by
    rw [List.getElem?_map] at hx
    obtain ⟨j, hj, rfl⟩ := Option.map_eq_some_iff.1 hx
    obtain ⟨hl, e⟩ := List.getElem?_eq_some_iff.1 hj
    have hji : j = i := by rw [← e]; simp
    subst hji
    have : j < n := by simpa using hl
    simp [markV, this])

def dAt (g : GT) (who : Int) (v : Nat) : Bool := (g.own.getD v 0 == who) && ((g.nxt.getD v []).length == 0)
def deadL (g : GT) (who : Int) : List Bool := if mayG g = 0 then (List.range g.own.length).map (dAt g who) else []
def hasB (l : List Bool) (v : Int) : Bool := decide (0 ≤ v) && l.getD v.toNat false
def rowL (n : Nat) (l : List Bool) : List Bool := (List.range n).map fun v => l.getD v false

theorem getD_at {α : Type} {l : List α} {k : Nat} {x d : α} (h : l[k]? = some x) : l.getD k d = x := by simp [List.getD, h]
end Go.Proofs.YtbppdalfcldodaaGreat.Gr
