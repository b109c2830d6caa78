/- ArenaMore's long test ('Heavy(m)+Heavy(Module{Env: {c}}) > 0 || .. || ..') in a region that draws its order. -/
import Derived.Test.YtbppdalfcldodaaGreatARegG
import Derived.Test.YtbppdalfcldodaaGreatGSm
import Derived.Test.YtbppdalfcldodaaGreatGMd
import Derived.Test.YtbppdalfcldodaaGreatCAwake
import Derived.Test.YtbppdalfcldodaaGreatCDevG
set_option maxRecDepth 100000
namespace Go.Proofs.YtbppdalfcldodaaGreat
open Go.RowKit Ex
set_option linter.unusedSimpArgs false
set_option linter.unusedVariables false

theorem d_rmA {w : World} {B b : Nat} {y : C2} {c : CT} (hb : w.heap[b]? = some (.cells y.cells 71 (0, 0))) (h : RC w B y c) (hB : B ≤ b + 1) : RM w (b + 1) (dM b) (dT c) := by
  refine ⟨⟨by show 0 ≤ maxLen; unfold maxLen; omega, Nat.le_refl _, by show 0 ≤ maxLen; unfold maxLen; omega, fun v hv => by simp [dT] at hv⟩, ⟨rfl, fun h => absurd h (by show ¬ 0 < 0; omega)⟩, leaf_ex _ _ _ _, leaf_ex _ _ _ _, ?_, nil_rows _ _ _ _, nil_rows _ _ _ _, nil_rows _ _ _ _, nil_rows _ _ _ _⟩
  refine ⟨rfl, Nat.le_refl _, by show 1 ≤ maxLen; unfold maxLen; omega, fun _ => ⟨b, 0, rfl, by omega, fun k x hx => ?_⟩, fun h => by cases h⟩
  obtain ⟨hk, e⟩ := List.getElem?_eq_some_iff.1 hx
  simp [dT] at hk
  subst hk
  simp [dT] at e
  subst e
  have h2 := h.more hB
  obtain ⟨⟨co, cn, cA, cl, cc⟩, ⟨tA, tn, tc⟩⟩ := y
  simp only [C2.cells] at hb
  exact ⟨⟨⟨co, cn, cA, cl, cc⟩, ⟨blk hb rfl, blk hb rfl, blk hb rfl⟩, h2.1⟩, ⟨tA, tn, tc⟩, blk hb rfl, h2.2⟩
theorem hv6_bd (m : MT) : 0 ≤ hv6 m ∧ hv6 m ≤ 1000000 := by
  have := hvM_bd m
  unfold hv6
  split
  · omega
  · split <;> omega
theorem lt33Q {i : Nat} (h : i < 33) : i = 0 ∨ i = 1 ∨ i = 2 ∨ i = 3 ∨ i = 4 ∨ i = 5 ∨ i = 6 ∨ i = 7 ∨ i = 8 ∨ i = 9 ∨ i = 10 ∨ i = 11 ∨ i = 12 ∨ i = 13 ∨ i = 14 ∨ i = 15 ∨ i = 16 ∨ i = 17 ∨ i = 18 ∨ i = 19 ∨ i = 20 ∨ i = 21 ∨ i = 22 ∨ i = 23 ∨ i = 24 ∨ i = 25 ∨ i = 26 ∨ i = 27 ∨ i = 28 ∨ i = 29 ∨ i = 30 ∨ i = 31 ∨ i = 32 := by omega
section
variable {a : Act} {w : World} {K : Act → World → Prop} {Q : Exit → Act → World → Prop} {d ty : Nat} {pos : String} {af : Array Edge} {gd : Option (Nat × Bool)}
theorem sq_move {t : Nat} {v : Value} (he : a.eval (.tmp t) = v) (hK : K (a.put (some d) v) w) : Oper.wp Tryz.prog ⟨some d, .move (.tmp t), ty, pos, af, gd⟩ a w K Q := by
  have he' : a.tmps[t]?.getD undef = v := by simpa [Act.eval] using he
  refine wp_val ?_ hK
  simp only [execOp]
  go_simp
theorem sq_pick {c t : Nat} {p q : Bool} (hc : a.eval (.tmp c) = .bool p) (hx : p = false → a.eval (.tmp t) = .bool q) (hK : K (a.put (some d) (.bool (p || q))) w) : Oper.wp Tryz.prog ⟨some d, .pick (.tmp c) (.const (.bool true)) (.tmp t), ty, pos, af, gd⟩ a w K Q := by
  have hc' : a.tmps[c]?.getD undef = .bool p := by simpa [Act.eval] using hc
  refine wp_val ?_ hK
  cases p
  · have hx' : a.tmps[t]?.getD undef = .bool q := by simpa [Act.eval] using hx rfl
    simp only [execOp]
    go_simp
  · simp only [execOp]
    go_simp
theorem sq_load28 {t b : Nat} {x : M8} (he : a.eval (.tmp t) = .pointer (some ⟨b, 0, none⟩)) (hc : BoxM w b x)
    (hK : K (a.put (some d) (.agg x.cells)) w) : Oper.wp Tryz.prog ⟨some d, .load 28 (.tmp t), ty, pos, af, gd⟩ a w K Q := by
  obtain ⟨c0, c1, c2, c3, c4, c5, c6, c7, c8, c9, c10, c11⟩ := box12 hc
  obtain ⟨⟨vA, vn, vc⟩, ⟨io, im, iA, il, ic⟩, ⟨jo, jm, jA, jl, jc⟩, ⟨eA, en, ec⟩, ⟨sA, sn, sc⟩, ⟨aA, an, ac⟩, ⟨nA, nn, nc⟩, ⟨pA, pn, pc⟩⟩ := x
  simp only [M8.cells, SL.v] at *
  refine wp_val ?_ hK
  simp only [execOp, he]
  go_simp
theorem sq_load71 {t b : Nat} {y : C2} (he : a.eval (.tmp t) = .pointer (some ⟨b, 0, none⟩)) (hc : w.heap[b]? = some (.cells y.cells 71 (0, 0)))
    (hK : K (a.put (some d) (.agg y.cells)) w) : Oper.wp Tryz.prog ⟨some d, .load 71 (.tmp t), ty, pos, af, gd⟩ a w K Q := by
  obtain ⟨⟨co, cn, cA, cl, cc⟩, ⟨tA, tn, tc⟩⟩ := y
  simp only [C2.cells, SL.v] at *
  have c0 : w.cell? ⟨b, 0, none⟩ = some (.int .i64 co) := blk hc rfl
  have c1 : w.cell? ⟨b, 1, none⟩ = some (.int .i64 cn) := blk hc rfl
  have c2 : w.cell? ⟨b, 2, none⟩ = some (.slice cA cl cc) := blk hc rfl
  have c3 : w.cell? ⟨b, 3, none⟩ = some (.slice tA tn tc) := blk hc rfl
  refine wp_val ?_ hK
  simp only [execOp, he]
  go_simp
theorem sq_one26 {t : Nat} {y : C2} (he : a.eval (.tmp t) = .agg y.cells) (hK : K (a.put (some d) (.slice (some ⟨w.heap.size, 0, none⟩) 1 1)) (w.alloc (.cells y.cells 71))) : Oper.wp Tryz.prog ⟨some d, .buildSlice 26 1 #[(0, .tmp t)], ty, pos, af, gd⟩ a w K Q := by
  have he' : a.tmps[t]?.getD undef = .agg y.cells := by simpa [Act.eval] using he
  obtain ⟨⟨co, cn, cA, cl, cc⟩, ⟨tA, tn, tc⟩⟩ := y
  simp only [C2.cells, SL.v] at *
  refine wp_val ?_ hK
  simp only [execOp]
  go_simp
theorem sq_build28 {t b : Nat} (he : a.eval (.tmp t) = .slice (some ⟨b, 0, none⟩) 1 1) (hK : K (a.put (some d) (.agg (dM b).cells)) w) : Oper.wp Tryz.prog ⟨some d, .build 28 #[(3, .tmp t)], ty, pos, af, gd⟩ a w K Q := by
  have he' : a.tmps[t]?.getD undef = .slice (some ⟨b, 0, none⟩) 1 1 := by simpa [Act.eval] using he
  simp only [dM, M8.cells, SL.v] at *
  refine wp_val ?_ hK
  simp only [execOp]
  go_simp
theorem sq_call1 {t f ty1 : Nat} {u v : Value} (hf : f = 8 ∨ f = 23) (he : a.eval (.tmp t) = u) (hc : Calls Tryz.prog f #[u] w fun e w' => e = .returned v ∧ Below w.heap.size w w') (hK : ∀ w', Below w.heap.size w w' → K (a.put (some d) v) w') : Oper.wp Tryz.prog ⟨some d, .call { callee := .value (.func f), args := #[.tmp t], argTypes := #[ty1] }, ty, pos, af, gd⟩ a w K Q := by
  have he' : a.tmps[t]?.getD undef = u := by simpa [Act.eval] using he
  rcases hf with rfl | rfl
  all_goals
    unfold Oper.wp
    simp only [execOp]
    go_simp
    refine hc.mono ?_
    rintro e w' ⟨rfl, hb⟩
    exact hK w' hb
theorem sq_call3 {t1 t2 t3 ty1 ty2 ty3 : Nat} {u1 u2 u3 v : Value} (h1 : a.eval (.tmp t1) = u1) (h2 : a.eval (.tmp t2) = u2) (h3 : a.eval (.tmp t3) = u3) (hc : Calls Tryz.prog 33 #[u1, u2, u3] w fun e w' => e = .returned v ∧ Below w.heap.size w w') (hK : ∀ w', Below w.heap.size w w' → K (a.put (some d) v) w') : Oper.wp Tryz.prog ⟨some d, .call { callee := .value (.func 33), args := #[.tmp t1, .tmp t2, .tmp t3], argTypes := #[ty1, ty2, ty3] }, ty, pos, af, gd⟩ a w K Q := by
  have h1' : a.tmps[t1]?.getD undef = u1 := by simpa [Act.eval] using h1
  have h2' : a.tmps[t2]?.getD undef = u2 := by simpa [Act.eval] using h2
  have h3' : a.tmps[t3]?.getD undef = u3 := by simpa [Act.eval] using h3
  unfold Oper.wp
  simp only [execOp]
  go_simp
  refine hc.mono ?_
  rintro e w' ⟨rfl, hb⟩
  exact hK w' hb
theorem sq_add {t s : Nat} {x y : Int} (hx : a.eval (.tmp t) = .int .i64 x) (hy : a.eval (.tmp s) = .int .i64 y) (hw : IntKind.i64.wrap (x + y) = x + y) (hK : K (a.put (some d) (.int .i64 (x + y))) w) : Oper.wp Tryz.prog ⟨some d, .binOp .add 3 (.tmp t) (.tmp s) 3, ty, pos, af, gd⟩ a w K Q := by
  have hx' : a.tmps[t]?.getD undef = .int .i64 x := by simpa [Act.eval] using hx
  have hy' : a.tmps[s]?.getD undef = .int .i64 y := by simpa [Act.eval] using hy
  refine wp_val ?_ hK
  simp only [execOp]
  go_simp
theorem sq_gtr {t : Nat} {x : Int} (hx : a.eval (.tmp t) = .int .i64 x) (hK : K (a.put (some d) (.bool (decide (0 < x)))) w) : Oper.wp Tryz.prog ⟨some d, .binOp .gtr 3 (.tmp t) (.const (.int .i64 0)) 3, ty, pos, af, gd⟩ a w K Q := by
  have hx' : a.tmps[t]?.getD undef = .int .i64 x := by simpa [Act.eval] using hx
  refine wp_val ?_ hK
  simp only [execOp]
  go_simp
theorem sq_neq {t : Nat} {x : Int} (hx : a.eval (.tmp t) = .int .i64 x) (hK : K (a.put (some d) (.bool (x != 0))) w) : Oper.wp Tryz.prog ⟨some d, .binOp .neq 39 (.tmp t) (.const (.int .i64 0)) 39, ty, pos, af, gd⟩ a w K Q := by
  have hx' : a.tmps[t]?.getD undef = .int .i64 x := by simpa [Act.eval] using hx
  refine wp_val ?_ hK
  simp only [execOp]
  go_simp
theorem sq_geq {t n : Nat} (hx : a.eval (.tmp t) = .int .i64 n) (hK : K (a.put (some d) (.bool (decide (12 ≤ n)))) w) : Oper.wp Tryz.prog ⟨some d, .binOp .geq 3 (.tmp t) (.const (.int .i64 12)) 3, ty, pos, af, gd⟩ a w K Q := by
  have hx' : a.tmps[t]?.getD undef = .int .i64 n := by simpa [Act.eval] using hx
  have hd : decide (12 ≤ n) = decide ((12 : Int) ≤ n) := by simp only [decide_eq_decide]; omega
  rw [hd] at hK
  refine wp_val ?_ hK
  simp only [execOp]
  go_simp
theorem sq_len {t n c : Nat} {A : Option Addr} (hx : a.eval (.tmp t) = .slice A n c) (hK : K (a.put (some d) (.int .i64 n)) w) : Oper.wp Tryz.prog ⟨some d, .call { callee := .builtin .len, args := #[.tmp t], argTypes := #[26] }, ty, pos, af, gd⟩ a w K Q := by
  have hx' : a.tmps[t]?.getD undef = .slice A n c := by simpa [Act.eval] using hx
  refine wp_val ?_ hK
  simp only [execOp]
  go_simp
theorem sq_field {t b k i : Nat} (he : a.eval (.tmp t) = .pointer (some ⟨b, 0, none⟩)) (hk : (k = 0 ∧ i = 0) ∨ (k = 3 ∧ i = 7) ∨ (k = 4 ∧ i = 8)) (hK : K (a.put (some d) (.pointer (some ⟨b, i, none⟩))) w) : Oper.wp Tryz.prog ⟨some d, .fieldAddr 28 (.tmp t) k, ty, pos, af, gd⟩ a w K Q := by
  have he' : a.tmps[t]?.getD undef = .pointer (some ⟨b, 0, none⟩) := by simpa [Act.eval] using he
  refine wp_val ?_ hK
  rcases hk with ⟨rfl, rfl⟩ | ⟨rfl, rfl⟩ | ⟨rfl, rfl⟩
  all_goals (simp only [execOp]; go_simp)
theorem sq_load {t b i k n c : Nat} {A : Option Addr} (hk : k = 22 ∨ k = 26) (he : a.eval (.tmp t) = .pointer (some ⟨b, i, none⟩)) (hc : w.cell? ⟨b, i, none⟩ = some (.slice A n c)) (hK : K (a.put (some d) (.slice A n c)) w) : Oper.wp Tryz.prog ⟨some d, .load k (.tmp t), ty, pos, af, gd⟩ a w K Q := by
  have he' : a.tmps[t]?.getD undef = .pointer (some ⟨b, i, none⟩) := by simpa [Act.eval] using he
  refine wp_val ?_ hK
  rcases hk with rfl | rfl
  all_goals (simp only [execOp]; go_simp)
end

end Go.Proofs.YtbppdalfcldodaaGreat
