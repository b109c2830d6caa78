/- What ModuleSides and ModuleMore begin with: a module that holds one command, and how heavy both are. -/
import Derived.Test.YtddbplgcglgloaaMCopy
import Derived.Test.YtddbplgcglgloaaMLaw
namespace Go.Proofs.Ytddbplgcglgloaa
open Go.RowKit Ex
open Go.Sort (grow)
set_option linter.unusedSimpArgs false
set_option linter.unusedVariables false

theorem nil_rows {α : Type} (P : World → Nat → Nat → Nat → α → Prop) (sz : Nat) (w : World) (B : Nat) : Rows P sz w B ⟨none, 0, 0⟩ [] := ⟨rfl, Nat.le_refl _, by show 0 ≤ maxLen; unfold maxLen; omega, fun h => absurd h (by show ¬ 0 < 0; omega), fun _ => rfl⟩
def dM (b : Nat) : M8 := ⟨⟨none, 0, 0⟩, ⟨0, 0, none, 0, 0⟩, ⟨0, 0, none, 0, 0⟩, ⟨some ⟨b, 0, none⟩, 1, 1⟩, ⟨none, 0, 0⟩, ⟨none, 0, 0⟩, ⟨none, 0, 0⟩, ⟨none, 0, 0⟩⟩
def dT (c : CT) : MT := ⟨[], .mk 0 0 [], .mk 0 0 [], [c], [], [], [], []⟩
theorem cmd_at {w : World} {B b : Nat} {y : C2} {c : CT} (hb : w.heap[b]? = some (.cells y.cells 31 (0, 0))) (h : RC w B y c) : CmdAt w B b 0 c := by
  obtain ⟨⟨co, cn, cA, cl, cc⟩, ⟨tA, tn, tc⟩⟩ := y
  simp only [C2.cells] at hb
  exact ⟨⟨⟨co, cn, cA, cl, cc⟩, ⟨blk hb rfl, blk hb rfl, blk hb rfl⟩, h.1⟩, ⟨tA, tn, tc⟩, blk hb rfl, h.2⟩
theorem d_rm {w : World} {B b : Nat} {y : C2} {c : CT} (hb : w.heap[b]? = some (.cells y.cells 31 (0, 0))) (h : RC w B y c) (hB : B ≤ b + 1) : RM w (b + 1) (dM b) (dT c) := by
  refine ⟨⟨by show 0 ≤ maxLen; unfold maxLen; omega, Nat.le_refl _, by show 0 ≤ maxLen; unfold maxLen; omega, fun v hv => by simp [dT] at hv⟩, ⟨rfl, fun h => absurd h (by show ¬ 0 < 0; omega)⟩, leaf_ex _ _ _ _, leaf_ex _ _ _ _, ?_, nil_rows _ _ _ _, nil_rows _ _ _ _, nil_rows _ _ _ _, nil_rows _ _ _ _⟩
  refine ⟨rfl, Nat.le_refl _, by show 1 ≤ maxLen; unfold maxLen; omega, fun _ => ⟨b, 0, rfl, by omega, fun k x hx => ?_⟩, fun h => by cases h⟩
  obtain ⟨hk, e⟩ := List.getElem?_eq_some_iff.1 hx
  simp [dT] at hk
  subst hk
  simp [dT] at e
  subst e
  exact cmd_at hb (h.more hB)
theorem pre_blocks (w : World) (X Y D : Array Value) : ((((w.alloc (.cells X 28)).alloc (.cells Y 31)).alloc (.cells Y 31)).alloc (.cells D 28)).heap[w.heap.size]? = some (.cells X 28 (0, 0)) ∧ ((((w.alloc (.cells X 28)).alloc (.cells Y 31)).alloc (.cells Y 31)).alloc (.cells D 28)).heap[w.heap.size + 1]? = some (.cells Y 31 (0, 0)) ∧
    ((((w.alloc (.cells X 28)).alloc (.cells Y 31)).alloc (.cells Y 31)).alloc (.cells D 28)).heap[w.heap.size + 2]? = some (.cells Y 31 (0, 0)) ∧ ((((w.alloc (.cells X 28)).alloc (.cells Y 31)).alloc (.cells Y 31)).alloc (.cells D 28)).heap[w.heap.size + 3]? = some (.cells D 28 (0, 0)) ∧
    ((((w.alloc (.cells X 28)).alloc (.cells Y 31)).alloc (.cells Y 31)).alloc (.cells D 28)).heap.size = w.heap.size + 4 ∧ Below w.heap.size w ((((w.alloc (.cells X 28)).alloc (.cells Y 31)).alloc (.cells Y 31)).alloc (.cells D 28)) :=
  ⟨up_at (up_at (up_at (new_at rfl))), up_at (up_at (new_at (by simp))), up_at (new_at (by simp)), new_at (by simp), by simp, ((((Below.refl _ _).alloc (Nat.le_refl _) _).alloc (by simp) _).alloc (by simp; omega) _).alloc (by simp; omega) _⟩
theorem q_hvx {W : World} {B : Nat} {x : M8} {m : MT} {dd : Nat} {os : Array Obj} (hB : B ≤ W.heap.size) (Hrm : Hid (RM W B x m)) : Calls Try.prog 7 #[.agg x.cells] (grow (redrawn W dd) os) fun e w'' => e = .returned (.int .i64 (hvM m)) ∧ ∃ p : Regrown, w'' = grow (redrawn W p.d) p.os :=
  Calls.regrown_of (hvx_any B x m _ (Nat.le_trans hB (below_regrown W dd os).size) (Hrm.out.below ((below_regrown W dd os).mono hB)))
theorem q_dcmd {W : World} {B : Nat} {Av : Option Addr} {nv cv : Nat} {lv : List Dom.V} {x : C2} {c : CT} {env : Bool} {dd : Nat} {os : Array Obj} (hB : B ≤ W.heap.size) (Ho : Hid (OkVars ⟨Av, nv, cv⟩ lv)) (Hrc : Hid (RC W B x c)) (Hrv : Hid (Dom.RV W B Av nv lv)) : Calls Try.prog 10 #[.slice Av nv cv, .agg x.cells, .bool env] (grow (redrawn W dd) os) fun e w'' => e = .returned (.int .i64 (cmdE lv c env)) ∧ ∃ p : Regrown, w'' = grow (redrawn W p.d) p.os :=
  Calls.regrown_of (dcmd_any B Av nv cv lv x c env _ Ho.out (Nat.le_trans hB (below_regrown W dd os).size) (Hrc.out.below ((below_regrown W dd os).mono hB)) (Hrv.out.below ((below_regrown W dd os).mono hB)))
end Go.Proofs.Ytddbplgcglgloaa
