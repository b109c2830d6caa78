/- Rows of rows that are made: one block of slices, each with a block of its own. -/
import Derived.Test.YtbppdalfcldodaaGreatGRows
import Derived.OwnWalk
set_option maxRecDepth 100000
namespace Go.Proofs.YtbppdalfcldodaaGreat.Gr
open Go.RowKit
set_option linter.unusedSimpArgs false
set_option linter.unusedVariables false

def ints (l : List Int) : List Value := l.map fun x => .int .i64 x
theorem own_ri {w : World} {base n c : Nat} {A : Option Addr} {xs : List Int} (h : w.ownsRow base 3 1 (.slice A n c) n (ints xs)) : RI w w.heap.size ⟨A, n, c⟩ xs := by
  have hl : xs.length = n := by have := h.1; simpa [ints] using this
  have hcap : n ≤ c ∧ c ≤ maxLen := by
    rcases h.2 with ⟨e, _⟩ | ⟨g, cap, cur, e, _, _, h1, h2, _⟩
    · injection e with e1 e2 e3; subst e2; subst e3; unfold maxLen; omega
    · injection e with e1 e2 e3; subst e3; exact ⟨h1, h2⟩
  refine ⟨hl, hcap.1, hcap.2, fun hn => ?_, fun e => ?_⟩
  · obtain ⟨g, cap, hv, hb, hlt⟩ := h.form hn
    have hA : A = some ⟨g, 0, none⟩ := by injection hv
    subst hA
    refine ⟨g, 0, rfl, hlt, fun k x hx => ?_⟩
    have := h.cells (g := g) rfl k (.int .i64 x) (by simp [ints, hx])
    show w.cell? ⟨g, 0 + k, none⟩ = _
    rw [Nat.zero_add]
    by_cases hk : k = 0
    · subst hk; simpa [Addr.add] using this
    · simpa [Addr.add, hk] using this
  · rcases h.2 with ⟨e1, _⟩ | ⟨g, cap, cur, e1, _⟩
    · injection e1
    · injection e1 with e1; simp only at e; rw [e] at e1; cases e1
structure Nest (w : World) (base b n : Nat) (f : Nat → Value) (ls : List (List Int)) : Prop where
  row : w.rowIs b 32 n f
  len : ls.length = n
  own : ∀ i l, ls[i]? = some l → w.ownsRow base 3 1 (f i) l.length (ints l)
  far : ∀ i, i < n → (f i).ownBlock ≠ some b
  apart : ∀ i j, i < n → j < n → i ≠ j → (f i).ownBlock = none ∨ (f i).ownBlock ≠ (f j).ownBlock
section
variable {w w' : World} {base b n : Nat} {f : Nat → Value} {ls : List (List Int)}
/- the world has grown elsewhere: in new blocks, or in one that is none of these -/
end
/- it lies in blocks from lo on alone -/
def NewR (lo : Nat) (w : World) (s : SL) (l : List (List Int)) : Prop := ∀ w', w.heap.size ≤ w'.heap.size → (∀ k, lo ≤ k → k < w.heap.size → w'.heap[k]? = w.heap[k]?) → RR w' w'.heap.size s l
theorem info3 : (Tryz.prog.info? 3).map (fun i => (i.zero, i.size, i.bytes)) = some (some (.int .i64 0), 1, 8) := by kernel_rfl
/- what Before makes -/
def pushAt (ls : List (List Int)) (i : Nat) (x : Int) : List (List Int) := ls.set i (ls.getD i [] ++ [x])
def befRow (v : Int) : List (List Int) → List Int → List (List Int)
  | ls, [] => ls
  | ls, x :: r => befRow v (pushAt ls x.toNat v) r
def befGo : Nat → List (List Int) → List (List Int) → List (List Int)
  | _, ls, [] => ls
  | k, ls, r :: rs => befGo (k + 1) (befRow k ls r) rs
def befL (g : GT) : List (List Int) := if mayG g = 0 then befGo 0 (List.replicate g.own.length []) g.nxt else []
def RowsPost (w : World) (l : List (List Int)) (e : Ending) (w' : World) : Prop := ∃ s : SL, e = .returned s.v ∧ NewR w.heap.size w' s l ∧ Below w.heap.size w w'
end Go.Proofs.YtbppdalfcldodaaGreat.Gr
