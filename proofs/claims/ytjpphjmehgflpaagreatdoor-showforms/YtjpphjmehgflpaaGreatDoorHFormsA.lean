/- ShowForms: the program's texts are the reference's. -/
import Derived.Test.YtjpphjmehgflpaaGreatDoorHRefM
import Derived.Test.YtjpphjmehgflpaaGreatDoorHAwake
import Derived.Test.YtjpphjmehgflpaaGreatDoorMHeavy
namespace Go.Proofs.YtjpphjmehgflpaaGreatDoor
open Go.RowKit Ex
open Go.Sort (grow)
set_option linter.unusedSimpArgs false
set_option linter.unusedVariables false

section
variable {a : Act} {w : World} {K : Act → World → Prop} {Q : Exit → Act → World → Prop} {d ty : Nat} {pos : String} {af : Array Edge}
set_option maxRecDepth 100000
set_option maxHeartbeats 2000000
theorem st_l25 {t b : Nat} {o n : Int} {A : Option Addr} {l c : Nat} (he : a.eval (.tmp t) = .pointer (some ⟨b, 0, none⟩)) (hc : w.heap[b]? = some (.cells #[.int .i64 o, .int .i64 n, .slice A l c] 25 (0, 0))) (hK : K (a.put (some d) (.agg #[.int .i64 o, .int .i64 n, .slice A l c])) w) : Oper.wp Tryz.prog ⟨some d, .load 25 (.tmp t), ty, pos, af, none⟩ a w K Q := by
  obtain ⟨k0, k1, k2⟩ := box_of hc
  clear hc
  refine wp_val ?_ hK
  simp only [execOp, he]
  go_simp
theorem st_l31 {t b : Nat} {o n : Int} {A : Option Addr} {l c : Nat} {A2 : Option Addr} {l2 c2 : Nat} (he : a.eval (.tmp t) = .pointer (some ⟨b, 0, none⟩)) (hc : w.heap[b]? = some (.cells #[.int .i64 o, .int .i64 n, .slice A l c, .slice A2 l2 c2] 31 (0, 0))) (hK : K (a.put (some d) (.agg #[.int .i64 o, .int .i64 n, .slice A l c, .slice A2 l2 c2])) w) : Oper.wp Tryz.prog ⟨some d, .load 31 (.tmp t), ty, pos, af, none⟩ a w K Q := by
  have k0 : w.cell? ⟨b, 0, none⟩ = some (.int .i64 o) := by rw [Lib.cell_of_heap hc]; rfl
  have k1 : w.cell? ⟨b, 1, none⟩ = some (.int .i64 n) := by rw [Lib.cell_of_heap hc]; rfl
  have k2 : w.cell? ⟨b, 2, none⟩ = some (.slice A l c) := by rw [Lib.cell_of_heap hc]; rfl
  have k3 : w.cell? ⟨b, 3, none⟩ = some (.slice A2 l2 c2) := by rw [Lib.cell_of_heap hc]; rfl
  clear hc
  refine wp_val ?_ hK
  simp only [execOp, he]
  go_simp
theorem st_b26 {t : Nat} {o n : Int} {A : Option Addr} {l c : Nat} {A2 : Option Addr} {l2 c2 : Nat} (he : a.eval (.tmp t) = .agg #[.int .i64 o, .int .i64 n, .slice A l c, .slice A2 l2 c2]) (hK : K (a.put (some d) (.slice (some ⟨w.heap.size, 0, none⟩) 1 1)) (w.alloc (.cells #[.int .i64 o, .int .i64 n, .slice A l c, .slice A2 l2 c2] 31))) : Oper.wp Tryz.prog ⟨some d, .buildSlice 26 1 #[(0, .tmp t)], ty, pos, af, none⟩ a w K Q := by
  have g0 : a.tmps[t]?.getD undef = .agg #[.int .i64 o, .int .i64 n, .slice A l c, .slice A2 l2 c2] := by simpa [Act.eval] using he
  refine wp_val ?_ hK
  go_simp
theorem st_b28 {t u : Nat} {fo fn : Int} {fA : Option Addr} {fl fc g : Nat} (he : a.eval (.tmp t) = .agg #[.int .i64 fo, .int .i64 fn, .slice fA fl fc]) (hu : a.eval (.tmp u) = .slice (some ⟨g, 0, none⟩) 1 1) (hK : K (a.put (some d) (.agg #[.slice none 0 0, .int .i64 fo, .int .i64 fn, .slice fA fl fc, .int .i64 0, .int .i64 0, .slice none 0 0, .slice (some ⟨g, 0, none⟩) 1 1, .slice none 0 0, .slice none 0 0, .slice none 0 0, .slice none 0 0])) w) : Oper.wp Tryz.prog ⟨some d, .build 28 #[(1, .tmp t), (3, .tmp u)], ty, pos, af, none⟩ a w K Q := by
  have g0 : a.tmps[t]?.getD undef = .agg #[.int .i64 fo, .int .i64 fn, .slice fA fl fc] := by simpa [Act.eval] using he
  have g1 : a.tmps[u]?.getD undef = .slice (some ⟨g, 0, none⟩) 1 1 := by simpa [Act.eval] using hu
  refine wp_val ?_ hK
  go_simp
theorem st_hv {t B : Nat} {x : M8} {m : MT} {v : Value} (hv : v = .agg x.cells) (he : a.eval (.tmp t) = v) (hB : B ≤ w.heap.size) (hr : RM w B x m) (hK : ∀ w', Below w.heap.size w w' → K (a.put (some d) (.int .i64 (hvM m))) w') : Oper.wp Tryz.prog ⟨some d, .call { callee := .value (.func 4), args := #[.tmp t], argTypes := #[28] }, ty, pos, af, none⟩ a w K Q := by
  have g0 : a.tmps[t]?.getD undef = v := by simpa [Act.eval] using he
  clear he
  have HV := hide hv
  clear hv
  unfold Oper.wp
  go_simp
  rw [HV.out]
  refine (hvx_any B x m w hB hr).mono ?_
  rintro e w' ⟨rfl, hb⟩
  exact hK w' hb
theorem st_add {t u : Nat} {p q : Int} (he : a.eval (.tmp t) = .int .i64 p) (hu : a.eval (.tmp u) = .int .i64 q) (h1 : 0 ≤ p) (h2 : p ≤ 1000000) (h3 : 0 ≤ q) (h4 : q ≤ 1000000) (hK : K (a.put (some d) (.int .i64 (p + q))) w) : Oper.wp Tryz.prog ⟨some d, .binOp .add 3 (.tmp t) (.tmp u) 3, ty, pos, af, none⟩ a w K Q := by
  refine wp_val ?_ hK
  simp only [execOp, he, hu]
  go_simp
  rw [IntKind.wrap_i64]
  omega
theorem st_gtr {t : Nat} {p : Int} {q : Bool} (he : a.eval (.tmp t) = .int .i64 p) (hq : decide (0 < p) = q) (hK : K (a.put (some d) (.bool q)) w) : Oper.wp Tryz.prog ⟨some d, .binOp .gtr 3 (.tmp t) (.const (.int .i64 0)) 3, ty, pos, af, none⟩ a w K Q := by
  refine wp_val ?_ hK
  simp only [execOp, he]
  go_simp
end
end Go.Proofs.YtjpphjmehgflpaaGreatDoor
