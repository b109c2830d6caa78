/- Contracts for calls within a region that draws its order. -/
import Derived.Test.YtjllnnbnhkmjkaaLMath
namespace Go.Proofs.Ytjllnnbnhkmjkaa
open Go.RowKit
open Go.Sort (grow)

section
variable {W : World} {B d : Nat} {op n : Int} {A : Option Addr} {len cap : Nat} {t : T} {d2 : Nat} {op2 n2 : Int} {A2 : Option Addr} {len2 cap2 : Nat} {t2 : T} {dd : Nat} {os : Array Obj}
theorem q_re (hB : B ≤ W.heap.size) (Hre : Hid (RE W B d op n A len cap t)) : B ≤ (grow (redrawn W dd) os).heap.size ∧ RE (grow (redrawn W dd) os) B d op n A len cap t :=
  ⟨Nat.le_trans hB (below_regrown W dd os).size, Hre.out.below ((below_regrown W dd os).mono hB)⟩
theorem q_heavy (hB : B ≤ W.heap.size) (Hre : Hid (RE W B d op n A len cap t)) : Calls Try.prog 9 #[.agg #[.int .i64 op, .int .i64 n, .slice A len cap]] (grow (redrawn W dd) os) fun e w'' => e = .returned (.int .i64 (heavyE t)) ∧ ∃ p : Regrown, w'' = grow (redrawn W p.d) p.os :=
  Calls.regrown_of (heavy_any B d op n A len cap t _ (q_re hB Hre).1 (q_re hB Hre).2)
theorem q_may (hB : B ≤ W.heap.size) (Hre : Hid (RE W B d op n A len cap t)) : Calls Try.prog 11 #[.agg #[.int .i64 op, .int .i64 n, .slice A len cap]] (grow (redrawn W dd) os) fun e w'' => e = .returned (.int .i64 (mayE t)) ∧ ∃ p : Regrown, w'' = grow (redrawn W p.d) p.os :=
  Calls.regrown_of (may_any B d op n A len cap t _ (q_re hB Hre).1 (q_re hB Hre).2)
theorem q_nodes (hB : B ≤ W.heap.size) (Hre : Hid (RE W B d op n A len cap t)) : Calls Try.prog 15 #[.agg #[.int .i64 op, .int .i64 n, .slice A len cap]] (grow (redrawn W dd) os) fun e w'' => e = .returned (.int .i64 (nodesE t)) ∧ ∃ p : Regrown, w'' = grow (redrawn W p.d) p.os :=
  Calls.regrown_of (nodes_any B d op n A len cap t _ (q_re hB Hre).1 (q_re hB Hre).2)
theorem q_same (hB : B ≤ W.heap.size) (Hre : Hid (RE W B d op n A len cap t)) (Hre2 : Hid (RE W B d2 op2 n2 A2 len2 cap2 t2)) : Calls Try.prog 13 #[.agg #[.int .i64 op, .int .i64 n, .slice A len cap], .agg #[.int .i64 op2, .int .i64 n2, .slice A2 len2 cap2]] (grow (redrawn W dd) os) fun e w'' => e = .returned (.bool (sameE t t2)) ∧ ∃ p : Regrown, w'' = grow (redrawn W p.d) p.os :=
  Calls.regrown_of (same_any B d op n A len cap t d2 op2 n2 A2 len2 cap2 t2 _ (q_re hB Hre).1 (q_re hB Hre).2 (q_re hB Hre2).2)
theorem q_awake : Calls Try.prog 10 #[] (grow (redrawn W dd) os) fun e w'' => e = .returned (.bool true) ∧ ∃ p : Regrown, w'' = grow (redrawn W p.d) p.os :=
  Calls.regrown_of (awake_any _)
end
theorem heavy_bd (t : T) : 0 ≤ heavyE t ∧ heavyE t ≤ 1000 := by
  have := wgh_bd t 0 500 (by omega)
  unfold heavyE
  split <;> omega
end Go.Proofs.Ytjllnnbnhkmjkaa
