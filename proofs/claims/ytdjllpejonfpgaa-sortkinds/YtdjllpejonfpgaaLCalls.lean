/- Contracts for calls within a region that draws its order. -/
import Derived.Test.YtdjllpejonfpgaaLMath
namespace Go.Proofs.Ytdjllpejonfpgaa.Ex
open Go.RowKit
open Go.Sort (grow)

section
variable {W : World} {B d : Nat} {op n : Int} {A : Option Addr} {len cap : Nat} {t : T} {d2 : Nat} {op2 n2 : Int} {A2 : Option Addr} {len2 cap2 : Nat} {t2 : T} {dd : Nat} {os : Array Obj}
theorem q_re (hB : B ≤ W.heap.size) (Hre : Hid (RE W B d op n A len cap t)) : B ≤ (grow (redrawn W dd) os).heap.size ∧ RE (grow (redrawn W dd) os) B d op n A len cap t :=
  ⟨Nat.le_trans hB (below_regrown W dd os).size, Hre.out.below ((below_regrown W dd os).mono hB)⟩
theorem q_heavy (hB : B ≤ W.heap.size) (Hre : Hid (RE W B d op n A len cap t)) : Calls Try.prog 8 #[.agg #[.int .i64 op, .int .i64 n, .slice A len cap]] (grow (redrawn W dd) os) fun e w'' => e = .returned (.int .i64 (heavyE t)) ∧ ∃ p : Regrown, w'' = grow (redrawn W p.d) p.os :=
  Calls.regrown_of (heavy_any B d op n A len cap t _ (q_re hB Hre).1 (q_re hB Hre).2)
theorem q_may (hB : B ≤ W.heap.size) (Hre : Hid (RE W B d op n A len cap t)) : Calls Try.prog 21 #[.agg #[.int .i64 op, .int .i64 n, .slice A len cap]] (grow (redrawn W dd) os) fun e w'' => e = .returned (.int .i64 (mayE t)) ∧ ∃ p : Regrown, w'' = grow (redrawn W p.d) p.os :=
  Calls.regrown_of (may_any B d op n A len cap t _ (q_re hB Hre).1 (q_re hB Hre).2)
theorem q_nodes (hB : B ≤ W.heap.size) (Hre : Hid (RE W B d op n A len cap t)) : Calls Try.prog 47 #[.agg #[.int .i64 op, .int .i64 n, .slice A len cap]] (grow (redrawn W dd) os) fun e w'' => e = .returned (.int .i64 (nodesE t)) ∧ ∃ p : Regrown, w'' = grow (redrawn W p.d) p.os :=
  Calls.regrown_of (nodes_any B d op n A len cap t _ (q_re hB Hre).1 (q_re hB Hre).2)
end
theorem heavy_bd (t : T) : 0 ≤ heavyE t ∧ heavyE t ≤ 1000 := by
  have := wgh_bd t 0 500 (by omega)
  unfold heavyE
  split <;> omega
end Go.Proofs.Ytdjllpejonfpgaa.Ex
