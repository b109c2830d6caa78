/- The walks of the reference's same and SameExpr. -/
import Derived.Test.YtdjllpejonfpgaaERefB
namespace Go.Proofs.Ytdjllpejonfpgaa.Ex
open Go.RowKit
open Go.Sort (grow)
set_option linter.unusedSimpArgs false
set_option linter.unusedVariables false

mutual
def sameT : T → T → Bool
  | .mk o n ks, u => (o == u.op) && (n == u.n) && sameK ks u.kids
def sameK : List T → List T → Bool
  | [], [] => true
  | a :: r, b :: s => sameT a b && sameK r s
  | [], _ :: _ => false
  | _ :: _, [] => false
end
theorem sameT_eq (t u : T) : sameT t u = ((t.op == u.op) && (t.n == u.n) && sameK t.kids u.kids) := by cases t; rw [sameT]; rfl
theorem sameK_len : ∀ (a b : List T), a.length ≠ b.length → sameK a b = false
  | [], [], h => absurd rfl h
  | [], _ :: _, _ => by rw [sameK]
  | _ :: _, [], _ => by rw [sameK]
  | a :: r, b :: s, h => by rw [sameK, sameK_len r s (by simpa using h), Bool.and_false]
theorem two_box (w : World) (op n : Int) (A : Option Addr) (len cap : Nat) (op2 n2 : Int) (A2 : Option Addr) (len2 cap2 : Nat) :
    Box3 ((w.alloc (.cells #[.int .i64 op, .int .i64 n, .slice A len cap] 25)).alloc (.cells #[.int .i64 op2, .int .i64 n2, .slice A2 len2 cap2] 25)) w.heap.size op n A len cap ∧
    Box3 ((w.alloc (.cells #[.int .i64 op, .int .i64 n, .slice A len cap] 25)).alloc (.cells #[.int .i64 op2, .int .i64 n2, .slice A2 len2 cap2] 25)) (w.heap.size + 1) op2 n2 A2 len2 cap2 := by
  refine ⟨(box_new w op n A len cap 25).below ((Below.refl (w.heap.size + 1) _).alloc (by simp) _) (by omega), ?_⟩
  have := box_new (w.alloc (.cells #[.int .i64 op, .int .i64 n, .slice A len cap] 25)) op2 n2 A2 len2 cap2 25
  simpa using this

def sameE (t u : T) : Bool := fitsB t && fitsB u && sameT t u
end Go.Proofs.Ytdjllpejonfpgaa.Ex
