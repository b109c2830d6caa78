/- A region that draws its order, with calls, guarded operations and new memory, and no store: each result is what a fact says of it, in whatever order they come up. ArenaMore's long test ('Heavy(m)+Heavy(Module{Env: {c}}) > 0 || .. || ..') in a region that draws its order. ArenaMore's long test ('Heavy(m)+Heavy(Module{Env: {c}}) > 0 || .. || ..') in a region that draws its order. 'more.Env = append(append([]Command{}, m.Env...), c)' in a region that draws its order. -/
import Derived.Test.YtbppdalfcldodaaGreatMRes
import Derived.Test.YtbppdalfcldodaaGreatGSm
import Derived.Test.YtbppdalfcldodaaGreatGMd
import Derived.Test.YtbppdalfcldodaaGreatCAwake
import Derived.Test.YtbppdalfcldodaaGreatCDevG
import Derived.Test.YtbppdalfcldodaaGreatGLaw
namespace Go.Proofs.YtbppdalfcldodaaGreat
open Go.RowKit Ex
set_option linter.unusedSimpArgs false
set_option linter.unusedVariables false

def growAc (ops : Array Oper) (deps : Nat → List Nat) : Bool := (List.range ops.size).all (fun j => match ops[j]? with
  | some o => o.after.all (fun e => !(Region.binds .any e) || decide (e.on < j)) && (match o.guard with
    | some (g, _) => decide (g ∈ deps j)
    | none => true)
  | none => true)
theorem growAc_spec {ops : Array Oper} {deps : Nat → List Nat} (h : growAc ops deps = true) : ∀ (j : Nat) (o : Oper), ops[j]? = some o → (∀ e ∈ o.after, Region.binds .any e = true → e.on < j) ∧ (∀ g b, o.guard = some (g, b) → g ∈ deps j) := fun j o ho => by
  unfold growAc at h
  rw [List.all_eq_true] at h
  have hj : j < ops.size := (Array.getElem?_eq_some_iff.1 ho).1
  have := h j (List.mem_range.2 hj)
  rw [ho] at this
  simp only [Bool.and_eq_true] at this
  refine ⟨fun e he hb => ?_, fun g b hg => ?_⟩
  · have h2 := Array.all_eq_true'.1 this.1 e he
    simp [hb] at h2
    exact h2
  · have h2 := this.2
    rw [hg] at h2
    simpa using h2
theorem region_grow {id n : Nat} {ops : Array Oper} {Q : Exit → Act → World → Prop} {a0 : Act} {W : World} (σ : List Nat) (dst : Nat → Nat) (deps : Nat → List Nat) (S : Nat → Value → World → Prop)
    (hm : Tryz.prog.follows .mixedOrders = true) (hsz : ops.size = n) (hac : growAc ops deps = true) (hdep : ownDeps ops deps = true)
    (hdst : ∀ i o, ops[i]? = some o → o.dst = some (dst i) ∧ dst i ∈ σ ∧ dst i < a0.tmps.size)
    (hinj : ∀ i j, i < n → j < n → dst i = dst j → i = j)
    (hS : ∀ j x w w', j < n → S j x w → Below W.heap.size W w → W.heap.size ≤ w.heap.size → Below w.heap.size w w' → S j x w')
    (hskip : ∀ i o g b x w, ops[i]? = some o → o.guard = some (g, b) → S g x w → x ≠ .bool b → S i undef w)
    (hstep : ∀ i o (a : Act) (w : World) (v : Nat → Value) (K : Act → World → Prop), i < n → ops[i]? = some o →
      (∀ s, s ∉ σ → a.eval (.tmp s) = a0.eval (.tmp s)) →
      (∀ j ∈ deps i, a.eval (.tmp (dst j)) = v j ∧ S j (v j) w) →
      (∀ g b, o.guard = some (g, b) → v g = .bool b ∧ S g (v g) w) →
      Below W.heap.size W w → W.heap.size ≤ w.heap.size →
      (∀ x w', S i x w' → Below w.heap.size w w' → K (a.put (some (dst i)) x) w') →
      Oper.wp Tryz.prog o a w K Q)
    (hend : ∀ (u : Nat → Value) (w : World), (∀ j, j < n → S j (u (dst j)) w) → Below W.heap.size W w → W.heap.size ≤ w.heap.size → Q .normal (sel σ a0 u) w) :
    (Code.region id ops true).wp Tryz.prog Q a0 W := by
  have hac1 : ∀ (j : Nat) (o : Oper), ops[j]? = some o → ∀ e ∈ o.after, Region.binds .any e = true → e.on < j := fun j o ho => (growAc_spec hac j o ho).1
  have hdp := ownDeps_spec hdep
  refine wp_region_any hm (wpAny_inv (I := fun listed a w => Below W.heap.size W w ∧ W.heap.size ≤ w.heap.size ∧ ∃ u : Nat → Value, a = sel σ a0 u ∧ ∀ j, j < n → listed.getD j false = true → S j (u (dst j)) w) ?_ ?_ _ _ _ _ (by simp) (by rw [Array.countP_replicate]; simp) ?_)
  · rintro listed a w i hs ⟨hbw, hWw, u, rfl, h1⟩ hi
    obtain ⟨hl0, o, ho, hd⟩ := mem_ready.1 hi
    have hio : i < ops.size := (Array.getElem?_eq_some_iff.1 ho).1
    have hin : i < n := by omega
    have hilt : i < listed.size := by omega
    have hdl : ∀ j ∈ deps i, listed.getD j false = true ∧ j < n := fun j hj => by
      obtain ⟨e, he, rfl, hb⟩ := hdp i o ho j hj
      exact ⟨hd e he hb, by have := hac1 i o ho e he hb; omega⟩
    have hset : ∀ k, k ≠ i → (listed.setIfInBounds i true).getD k false = listed.getD k false := fun k hk => by
      have hk' : ¬ i = k := fun e => hk e.symm
      by_cases hks : k < listed.size
      · simp [Array.getD, hks, Array.getElem_setIfInBounds, hk']
      · simp [Array.getD, hks]
    have hval : ∀ j, j < n → (sel σ a0 u).eval (.tmp (dst j)) = u (dst j) := fun j hj => by
      have hoj := Array.getElem?_eq_getElem (xs := ops) (i := j) (by omega)
      obtain ⟨_, q1, q2⟩ := hdst j _ hoj
      exact sel_in q1 q2
    have hyd : ∀ j b, j < n → (yielded ops (sel σ a0 u).tmps j = some b ↔ u (dst j) = .bool b) := fun j b hj => by
      have hoj := Array.getElem?_eq_getElem (xs := ops) (i := j) (by omega)
      obtain ⟨q0, q1, q2⟩ := hdst j _ hoj
      have e : (sel σ a0 u).tmps[dst j]? = some (u (dst j)) := by
        unfold sel
        rw [Array.getElem?_mapIdx, Array.getElem?_eq_getElem q2]
        simp [q1]
      have e2 : ((ops[j]?).bind (·.dst)).bind ((sel σ a0 u).tmps[·]?) = some (u (dst j)) := by
        rw [hoj]; simp only [Option.bind_some, q0]; exact e
      unfold yielded
      rw [e2]
      cases u (dst j) <;> simp
    obtain ⟨hd0, hd1, hd2⟩ := hdst i o ho
    have hgl : ∀ g b, o.guard = some (g, b) → g < n ∧ S g (u (dst g)) w := fun g b hg => by
      have := hdl g ((growAc_spec hac i o ho).2 g b hg)
      exact ⟨this.2, h1 g this.2 this.1⟩
    have fin : ∀ x w', S i x w' → Below w.heap.size w w' → Below W.heap.size W w' ∧ W.heap.size ≤ w'.heap.size ∧ ∃ u' : Nat → Value, (sel σ a0 u).put (some (dst i)) x = sel σ a0 u' ∧ ∀ j, j < n → (listed.setIfInBounds i true).getD j false = true → S j (u' (dst j)) w' := fun x w' hx hb => by
      have hsz' := hb.size
      refine ⟨hbw.trans (hb.mono hWw), by omega, fun k => if k = dst i then x else u k, sel_put _ hd1, fun j hj hl => ?_⟩
      by_cases e : j = i
      · subst e; simpa using hx
      · show S j (if dst j = dst i then x else u (dst j)) w'
        rw [if_neg (fun h => e (hinj j i hj hin h))]
        rw [hset j e] at hl
        exact hS j _ w w' hj (h1 j hj hl) hbw hWw hb
    unfold wpOp
    rw [ho]
    simp only []
    split
    · rename_i hw
      refine .inl (hstep i o _ w (fun j => u (dst j)) _ hin ho (fun s hs => sel_out hs) (fun j hj => ⟨hval j (hdl j hj).2, h1 j (hdl j hj).2 (hdl j hj).1⟩) (fun g b hg => ⟨?_, (hgl g b hg).2⟩) hbw hWw fin)
      unfold Region.wanted at hw
      rw [hg] at hw
      exact (hyd g b (hgl g b hg).1).1 (by simpa using hw)
    · rename_i hw
      rw [hd0]
      refine fin undef w ?_ (Below.refl _ _)
      cases hg : o.guard with
      | none => exact absurd (by unfold Region.wanted; rw [hg]) hw
      | some gb =>
        obtain ⟨g, b⟩ := gb
        exact hskip i o g b (u (dst g)) w ho hg (hgl g b hg).2 (fun e => hw (by
          unfold Region.wanted
          rw [hg]
          simp only
          rw [(hyd g b (hgl g b hg).1).2 e]
          simp))
  · rintro listed a w hs h0 ⟨hbw, hWw, u, rfl, h1⟩
    have hall := ready_allB hac1 hs h0
    exact hend u w (fun j hj => h1 j hj (hall j (by omega))) hbw hWw
  · exact ⟨⟨rfl, rfl, rfl, Nat.le_refl _, fun _ _ => rfl⟩, Nat.le_refl _, fun j => a0.tmps.getD j undef, (sel_self a0 σ).symm, fun j _ h => by simp [Array.getD] at h⟩
end Go.Proofs.YtbppdalfcldodaaGreat
set_option maxRecDepth 100000
namespace Go.Proofs.YtbppdalfcldodaaGreat
open Go.RowKit Ex
set_option linter.unusedSimpArgs false
set_option linter.unusedVariables false

theorem d_rmA {w : World} {B b : Nat} {y : C2} {c : CT} (hb : w.heap[b]? = some (.cells y.cells 71 (0, 0))) (h : RC w B y c) (hB : B ≤ b + 1) : RM w (b + 1) (dM b) (dT c) := by
  refine ⟨⟨by show 0 ≤ maxLen; unfold maxLen; omega, Nat.le_refl _, by show 0 ≤ maxLen; unfold maxLen; omega, fun v hv => by simp [dT] at hv⟩, ⟨rfl, fun h => absurd h (by show ¬ 0 < 0; omega)⟩, leaf_ex _ _ _ _, leaf_ex _ _ _ _, ?_, nil_rows _ _ _ _, nil_rows _ _ _ _, nil_rows _ _ _ _, nil_rows _ _ _ _⟩
  refine ⟨rfl, Nat.le_refl _, by show 1 ≤ maxLen; unfold maxLen; omega, fun _ => ⟨b, 0, rfl, by omega, fun k x hx => ?_⟩, fun h => by cases h⟩
  obtain ⟨hk, e⟩ := List.getElem?_eq_some_iff.1 hx
  simp [dT] at hk
  subst hk
  simp [dT] at e
  subst e
  have h2 := h.more hB
  obtain ⟨⟨co, cn, cA, cl, cc⟩, ⟨tA, tn, tc⟩⟩ := y
  simp only [C2.cells] at hb
  exact ⟨⟨⟨co, cn, cA, cl, cc⟩, ⟨blk hb rfl, blk hb rfl, blk hb rfl⟩, h2.1⟩, ⟨tA, tn, tc⟩, blk hb rfl, h2.2⟩
theorem hv6_bd (m : MT) : 0 ≤ hv6 m ∧ hv6 m ≤ 1000000 := by
  have := hvM_bd m
  unfold hv6
  split
  · omega
  · split <;> omega
theorem lt33Q {i : Nat} (h : i < 33) : i = 0 ∨ i = 1 ∨ i = 2 ∨ i = 3 ∨ i = 4 ∨ i = 5 ∨ i = 6 ∨ i = 7 ∨ i = 8 ∨ i = 9 ∨ i = 10 ∨ i = 11 ∨ i = 12 ∨ i = 13 ∨ i = 14 ∨ i = 15 ∨ i = 16 ∨ i = 17 ∨ i = 18 ∨ i = 19 ∨ i = 20 ∨ i = 21 ∨ i = 22 ∨ i = 23 ∨ i = 24 ∨ i = 25 ∨ i = 26 ∨ i = 27 ∨ i = 28 ∨ i = 29 ∨ i = 30 ∨ i = 31 ∨ i = 32 := by omega
section
variable {a : Act} {w : World} {K : Act → World → Prop} {Q : Exit → Act → World → Prop} {d ty : Nat} {pos : String} {af : Array Edge} {gd : Option (Nat × Bool)}
theorem sq_move {t : Nat} {v : Value} (he : a.eval (.tmp t) = v) (hK : K (a.put (some d) v) w) : Oper.wp Tryz.prog ⟨some d, .move (.tmp t), ty, pos, af, gd⟩ a w K Q := by
  have he' : a.tmps[t]?.getD undef = v := by simpa [Act.eval] using he
  refine wp_val ?_ hK
  simp only [execOp]
  go_simp
theorem sq_pick {c t : Nat} {p q : Bool} (hc : a.eval (.tmp c) = .bool p) (hx : p = false → a.eval (.tmp t) = .bool q) (hK : K (a.put (some d) (.bool (p || q))) w) : Oper.wp Tryz.prog ⟨some d, .pick (.tmp c) (.const (.bool true)) (.tmp t), ty, pos, af, gd⟩ a w K Q := by
  have hc' : a.tmps[c]?.getD undef = .bool p := by simpa [Act.eval] using hc
  refine wp_val ?_ hK
  cases p
  · have hx' : a.tmps[t]?.getD undef = .bool q := by simpa [Act.eval] using hx rfl
    simp only [execOp]
    go_simp
  · simp only [execOp]
    go_simp
theorem sq_load28 {t b : Nat} {x : M8} (he : a.eval (.tmp t) = .pointer (some ⟨b, 0, none⟩)) (hc : BoxM w b x)
    (hK : K (a.put (some d) (.agg x.cells)) w) : Oper.wp Tryz.prog ⟨some d, .load 28 (.tmp t), ty, pos, af, gd⟩ a w K Q := by
  obtain ⟨c0, c1, c2, c3, c4, c5, c6, c7, c8, c9, c10, c11⟩ := box12 hc
  obtain ⟨⟨vA, vn, vc⟩, ⟨io, im, iA, il, ic⟩, ⟨jo, jm, jA, jl, jc⟩, ⟨eA, en, ec⟩, ⟨sA, sn, sc⟩, ⟨aA, an, ac⟩, ⟨nA, nn, nc⟩, ⟨pA, pn, pc⟩⟩ := x
  simp only [M8.cells, SL.v] at *
  refine wp_val ?_ hK
  simp only [execOp, he]
  go_simp
theorem sq_load71 {t b : Nat} {y : C2} (he : a.eval (.tmp t) = .pointer (some ⟨b, 0, none⟩)) (hc : w.heap[b]? = some (.cells y.cells 71 (0, 0)))
    (hK : K (a.put (some d) (.agg y.cells)) w) : Oper.wp Tryz.prog ⟨some d, .load 71 (.tmp t), ty, pos, af, gd⟩ a w K Q := by
  obtain ⟨⟨co, cn, cA, cl, cc⟩, ⟨tA, tn, tc⟩⟩ := y
  simp only [C2.cells, SL.v] at *
  have c0 : w.cell? ⟨b, 0, none⟩ = some (.int .i64 co) := blk hc rfl
  have c1 : w.cell? ⟨b, 1, none⟩ = some (.int .i64 cn) := blk hc rfl
  have c2 : w.cell? ⟨b, 2, none⟩ = some (.slice cA cl cc) := blk hc rfl
  have c3 : w.cell? ⟨b, 3, none⟩ = some (.slice tA tn tc) := blk hc rfl
  refine wp_val ?_ hK
  simp only [execOp, he]
  go_simp
theorem sq_one26 {t : Nat} {y : C2} (he : a.eval (.tmp t) = .agg y.cells) (hK : K (a.put (some d) (.slice (some ⟨w.heap.size, 0, none⟩) 1 1)) (w.alloc (.cells y.cells 71))) : Oper.wp Tryz.prog ⟨some d, .buildSlice 26 1 #[(0, .tmp t)], ty, pos, af, gd⟩ a w K Q := by
  have he' : a.tmps[t]?.getD undef = .agg y.cells := by simpa [Act.eval] using he
  obtain ⟨⟨co, cn, cA, cl, cc⟩, ⟨tA, tn, tc⟩⟩ := y
  simp only [C2.cells, SL.v] at *
  refine wp_val ?_ hK
  simp only [execOp]
  go_simp
theorem sq_build28 {t b : Nat} (he : a.eval (.tmp t) = .slice (some ⟨b, 0, none⟩) 1 1) (hK : K (a.put (some d) (.agg (dM b).cells)) w) : Oper.wp Tryz.prog ⟨some d, .build 28 #[(3, .tmp t)], ty, pos, af, gd⟩ a w K Q := by
  have he' : a.tmps[t]?.getD undef = .slice (some ⟨b, 0, none⟩) 1 1 := by simpa [Act.eval] using he
  simp only [dM, M8.cells, SL.v] at *
  refine wp_val ?_ hK
  simp only [execOp]
  go_simp
theorem sq_call1 {t f ty1 : Nat} {u v : Value} (hf : f = 8 ∨ f = 23) (he : a.eval (.tmp t) = u) (hc : Calls Tryz.prog f #[u] w fun e w' => e = .returned v ∧ Below w.heap.size w w') (hK : ∀ w', Below w.heap.size w w' → K (a.put (some d) v) w') : Oper.wp Tryz.prog ⟨some d, .call { callee := .value (.func f), args := #[.tmp t], argTypes := #[ty1] }, ty, pos, af, gd⟩ a w K Q := by
  have he' : a.tmps[t]?.getD undef = u := by simpa [Act.eval] using he
  rcases hf with rfl | rfl
  all_goals
    unfold Oper.wp
    simp only [execOp]
    go_simp
    refine hc.mono ?_
    rintro e w' ⟨rfl, hb⟩
    exact hK w' hb
theorem sq_call3 {t1 t2 t3 ty1 ty2 ty3 : Nat} {u1 u2 u3 v : Value} (h1 : a.eval (.tmp t1) = u1) (h2 : a.eval (.tmp t2) = u2) (h3 : a.eval (.tmp t3) = u3) (hc : Calls Tryz.prog 33 #[u1, u2, u3] w fun e w' => e = .returned v ∧ Below w.heap.size w w') (hK : ∀ w', Below w.heap.size w w' → K (a.put (some d) v) w') : Oper.wp Tryz.prog ⟨some d, .call { callee := .value (.func 33), args := #[.tmp t1, .tmp t2, .tmp t3], argTypes := #[ty1, ty2, ty3] }, ty, pos, af, gd⟩ a w K Q := by
  have h1' : a.tmps[t1]?.getD undef = u1 := by simpa [Act.eval] using h1
  have h2' : a.tmps[t2]?.getD undef = u2 := by simpa [Act.eval] using h2
  have h3' : a.tmps[t3]?.getD undef = u3 := by simpa [Act.eval] using h3
  unfold Oper.wp
  simp only [execOp]
  go_simp
  refine hc.mono ?_
  rintro e w' ⟨rfl, hb⟩
  exact hK w' hb
theorem sq_add {t s : Nat} {x y : Int} (hx : a.eval (.tmp t) = .int .i64 x) (hy : a.eval (.tmp s) = .int .i64 y) (hw : IntKind.i64.wrap (x + y) = x + y) (hK : K (a.put (some d) (.int .i64 (x + y))) w) : Oper.wp Tryz.prog ⟨some d, .binOp .add 3 (.tmp t) (.tmp s) 3, ty, pos, af, gd⟩ a w K Q := by
  have hx' : a.tmps[t]?.getD undef = .int .i64 x := by simpa [Act.eval] using hx
  have hy' : a.tmps[s]?.getD undef = .int .i64 y := by simpa [Act.eval] using hy
  refine wp_val ?_ hK
  simp only [execOp]
  go_simp
theorem sq_gtr {t : Nat} {x : Int} (hx : a.eval (.tmp t) = .int .i64 x) (hK : K (a.put (some d) (.bool (decide (0 < x)))) w) : Oper.wp Tryz.prog ⟨some d, .binOp .gtr 3 (.tmp t) (.const (.int .i64 0)) 3, ty, pos, af, gd⟩ a w K Q := by
  have hx' : a.tmps[t]?.getD undef = .int .i64 x := by simpa [Act.eval] using hx
  refine wp_val ?_ hK
  simp only [execOp]
  go_simp
theorem sq_neq {t : Nat} {x : Int} (hx : a.eval (.tmp t) = .int .i64 x) (hK : K (a.put (some d) (.bool (x != 0))) w) : Oper.wp Tryz.prog ⟨some d, .binOp .neq 39 (.tmp t) (.const (.int .i64 0)) 39, ty, pos, af, gd⟩ a w K Q := by
  have hx' : a.tmps[t]?.getD undef = .int .i64 x := by simpa [Act.eval] using hx
  refine wp_val ?_ hK
  simp only [execOp]
  go_simp
theorem sq_geq {t n : Nat} (hx : a.eval (.tmp t) = .int .i64 n) (hK : K (a.put (some d) (.bool (decide (12 ≤ n)))) w) : Oper.wp Tryz.prog ⟨some d, .binOp .geq 3 (.tmp t) (.const (.int .i64 12)) 3, ty, pos, af, gd⟩ a w K Q := by
  have hx' : a.tmps[t]?.getD undef = .int .i64 n := by simpa [Act.eval] using hx
  have hd : decide (12 ≤ n) = decide ((12 : Int) ≤ n) := by simp only [decide_eq_decide]; omega
  rw [hd] at hK
  refine wp_val ?_ hK
  simp only [execOp]
  go_simp
theorem sq_len {t n c : Nat} {A : Option Addr} (hx : a.eval (.tmp t) = .slice A n c) (hK : K (a.put (some d) (.int .i64 n)) w) : Oper.wp Tryz.prog ⟨some d, .call { callee := .builtin .len, args := #[.tmp t], argTypes := #[26] }, ty, pos, af, gd⟩ a w K Q := by
  have hx' : a.tmps[t]?.getD undef = .slice A n c := by simpa [Act.eval] using hx
  refine wp_val ?_ hK
  simp only [execOp]
  go_simp
theorem sq_field {t b k i : Nat} (he : a.eval (.tmp t) = .pointer (some ⟨b, 0, none⟩)) (hk : (k = 0 ∧ i = 0) ∨ (k = 3 ∧ i = 7) ∨ (k = 4 ∧ i = 8)) (hK : K (a.put (some d) (.pointer (some ⟨b, i, none⟩))) w) : Oper.wp Tryz.prog ⟨some d, .fieldAddr 28 (.tmp t) k, ty, pos, af, gd⟩ a w K Q := by
  have he' : a.tmps[t]?.getD undef = .pointer (some ⟨b, 0, none⟩) := by simpa [Act.eval] using he
  refine wp_val ?_ hK
  rcases hk with ⟨rfl, rfl⟩ | ⟨rfl, rfl⟩ | ⟨rfl, rfl⟩
  all_goals (simp only [execOp]; go_simp)
theorem sq_load {t b i k n c : Nat} {A : Option Addr} (hk : k = 22 ∨ k = 26) (he : a.eval (.tmp t) = .pointer (some ⟨b, i, none⟩)) (hc : w.cell? ⟨b, i, none⟩ = some (.slice A n c)) (hK : K (a.put (some d) (.slice A n c)) w) : Oper.wp Tryz.prog ⟨some d, .load k (.tmp t), ty, pos, af, gd⟩ a w K Q := by
  have he' : a.tmps[t]?.getD undef = .pointer (some ⟨b, i, none⟩) := by simpa [Act.eval] using he
  refine wp_val ?_ hK
  rcases hk with rfl | rfl
  all_goals (simp only [execOp]; go_simp)
end

end Go.Proofs.YtbppdalfcldodaaGreat
set_option maxRecDepth 100000
namespace Go.Proofs.YtbppdalfcldodaaGreat
open Go.RowKit Ex
set_option linter.unusedSimpArgs false
set_option linter.unusedVariables false

def depsQ (i : Nat) : List Nat := [[], [0], [], [2], [3], [4], [1, 5], [6], [7], [8], [8, 9], [8, 10], [8, 11], [12], [13], [13, 14], [13], [13], [13, 15, 16, 17], [13, 18], [13, 19], [20], [21], [21, 22], [21, 23], [21, 24], [21, 25], [26], [27], [27, 28], [27, 29], [27, 30], [27, 31]].getD i []
def dstQ (i : Nat) : Nat := i + 17
def OpIs (ops : Array Oper) (i : Nat) (o : Op) (g : Option (Nat × Bool)) : Prop := ∃ ty pos af, ops[i]? = some ⟨some (i + 17), o, ty, pos, af, g⟩
def SQ (N z : Nat) (x : M8) (y : C2) (env : Bool) (s1 s2 e2 e3 : Int) (b1 b2 b3 b4 b5 : Bool) (i : Nat) (v : Value) (w : World) : Prop := (List.getD (α := Value → World → Prop) [
  fun v w => v = .agg x.cells,
  fun v w => v = .int .i64 s1,
  fun v w => v = .agg y.cells,
  fun v w => ∃ b, z ≤ b ∧ v = .slice (some ⟨b, 0, none⟩) 1 1 ∧ w.heap[b]? = some (.cells y.cells 71 (0, 0)),
  fun v w => ∃ b, z ≤ b ∧ v = .agg (dM b).cells ∧ w.heap[b]? = some (.cells y.cells 71 (0, 0)),
  fun v w => v = .int .i64 s2,
  fun v w => v = .int .i64 (s1 + s2),
  fun v w => v = .bool b1,
  fun v w => v = .bool b1,
  fun v w => b1 = false → v = .agg x.cells,
  fun v w => b1 = false → v = .int .i64 e2,
  fun v w => b1 = false → v = .bool b2,
  fun v w => v = .bool (b1 || b2),
  fun v w => v = .bool (b1 || b2),
  fun v w => (b1 || b2) = false → v = .pointer (some ⟨N, 0, none⟩),
  fun v w => (b1 || b2) = false → v = x.vars.v,
  fun v w => (b1 || b2) = false → v = .agg y.cells,
  fun v w => (b1 || b2) = false → v = .bool env,
  fun v w => (b1 || b2) = false → v = .int .i64 e3,
  fun v w => (b1 || b2) = false → v = .bool b3,
  fun v w => v = .bool (b1 || b2 || b3),
  fun v w => v = .bool (b1 || b2 || b3),
  fun v w => (b1 || b2 || b3) = false → v = .pointer (some ⟨N, 7, none⟩),
  fun v w => (b1 || b2 || b3) = false → v = x.env.v,
  fun v w => (b1 || b2 || b3) = false → v = .int .i64 x.env.n,
  fun v w => (b1 || b2 || b3) = false → v = .bool b4,
  fun v w => v = .bool (b1 || b2 || b3 || b4),
  fun v w => v = .bool (b1 || b2 || b3 || b4),
  fun v w => (b1 || b2 || b3 || b4) = false → v = .pointer (some ⟨N, 8, none⟩),
  fun v w => (b1 || b2 || b3 || b4) = false → v = x.sys.v,
  fun v w => (b1 || b2 || b3 || b4) = false → v = .int .i64 x.sys.n,
  fun v w => (b1 || b2 || b3 || b4) = false → v = .bool b5,
  fun v w => v = .bool (b1 || b2 || b3 || b4 || b5)
  ] i (fun _ _ => True)) v w
set_option maxHeartbeats 8000000 in
theorem amore_region1 {id N B : Nat} {ops : Array Oper} {Q : Exit → Act → World → Prop} {a0 : Act} {W : World} {x : M8} {m : MT} {y : C2} {c : CT} {env : Bool}
    (hm : Tryz.prog.follows .mixedOrders = true) (hsz : ops.size = 33) (hac : growAc ops depsQ = true) (hdep : ownDeps ops depsQ = true)
    (o0 : OpIs ops 0 (.load 28 (.tmp 3)) none)
    (o1 : OpIs ops 1 (.call { callee := .value (.func 8), args := #[.tmp 17], argTypes := #[28] }) none)
    (o2 : OpIs ops 2 (.load 71 (.tmp 4)) none)
    (o3 : OpIs ops 3 (.buildSlice 26 1 #[(0, .tmp 19)]) none)
    (o4 : OpIs ops 4 (.build 28 #[(3, .tmp 20)]) none)
    (o5 : OpIs ops 5 (.call { callee := .value (.func 8), args := #[.tmp 21], argTypes := #[28] }) none)
    (o6 : OpIs ops 6 (.binOp .add 3 (.tmp 18) (.tmp 22) 3) none)
    (o7 : OpIs ops 7 (.binOp .gtr 3 (.tmp 23) (.const (.int .i64 0)) 3) none)
    (o8 : OpIs ops 8 (.move (.tmp 24)) none)
    (o9 : OpIs ops 9 (.load 28 (.tmp 3)) (some (8, false)))
    (o10 : OpIs ops 10 (.call { callee := .value (.func 23), args := #[.tmp 26], argTypes := #[28] }) (some (8, false)))
    (o11 : OpIs ops 11 (.binOp .neq 39 (.tmp 27) (.const (.int .i64 0)) 39) (some (8, false)))
    (o12 : OpIs ops 12 (.pick (.tmp 25) (.const (.bool true)) (.tmp 28)) none)
    (o13 : OpIs ops 13 (.move (.tmp 29)) none)
    (o14 : OpIs ops 14 (.fieldAddr 28 (.tmp 3) 0) (some (13, false)))
    (o15 : OpIs ops 15 (.load 22 (.tmp 31)) (some (13, false)))
    (o16 : OpIs ops 16 (.load 71 (.tmp 4)) (some (13, false)))
    (o17 : OpIs ops 17 (.move (.tmp 2)) (some (13, false)))
    (o18 : OpIs ops 18 (.call { callee := .value (.func 33), args := #[.tmp 32, .tmp 33, .tmp 34], argTypes := #[22, 71, 4] }) (some (13, false)))
    (o19 : OpIs ops 19 (.binOp .neq 39 (.tmp 35) (.const (.int .i64 0)) 39) (some (13, false)))
    (o20 : OpIs ops 20 (.pick (.tmp 30) (.const (.bool true)) (.tmp 36)) none)
    (o21 : OpIs ops 21 (.move (.tmp 37)) none)
    (o22 : OpIs ops 22 (.fieldAddr 28 (.tmp 3) 3) (some (21, false)))
    (o23 : OpIs ops 23 (.load 26 (.tmp 39)) (some (21, false)))
    (o24 : OpIs ops 24 (.call { callee := .builtin .len, args := #[.tmp 40], argTypes := #[26] }) (some (21, false)))
    (o25 : OpIs ops 25 (.binOp .geq 3 (.tmp 41) (.const (.int .i64 12)) 3) (some (21, false)))
    (o26 : OpIs ops 26 (.pick (.tmp 38) (.const (.bool true)) (.tmp 42)) none)
    (o27 : OpIs ops 27 (.move (.tmp 43)) none)
    (o28 : OpIs ops 28 (.fieldAddr 28 (.tmp 3) 4) (some (27, false)))
    (o29 : OpIs ops 29 (.load 26 (.tmp 45)) (some (27, false)))
    (o30 : OpIs ops 30 (.call { callee := .builtin .len, args := #[.tmp 46], argTypes := #[26] }) (some (27, false)))
    (o31 : OpIs ops 31 (.binOp .geq 3 (.tmp 47) (.const (.int .i64 12)) 3) (some (27, false)))
    (o32 : OpIs ops 32 (.pick (.tmp 44) (.const (.bool true)) (.tmp 48)) none)
    (hts : 50 ≤ a0.tmps.size) (h2 : a0.eval (.tmp 2) = .bool env) (h3 : a0.eval (.tmp 3) = .pointer (some ⟨N, 0, none⟩)) (h4 : a0.eval (.tmp 4) = .pointer (some ⟨N + 1, 0, none⟩))
    (hB : B ≤ W.heap.size) (hrm : RM W B x m) (hrc : RC W B y c) (hbm : BoxM W N x) (hbc : W.heap[N + 1]? = some (.cells y.cells 71 (0, 0))) (hN : N + 2 ≤ W.heap.size)
    (hend : ∀ (u : Nat → Value) (w : World), u 49 = .bool (decide (0 < hv6 m + hv6 (dT c)) || (modE m != 0) || (cmdE m.vars c env != 0) || decide (12 ≤ x.env.n) || decide (12 ≤ x.sys.n)) → Below W.heap.size W w → Q .normal (sel [17, 18, 19, 20, 21, 22, 23, 24, 25, 26, 27, 28, 29, 30, 31, 32, 33, 34, 35, 36, 37, 38, 39, 40, 41, 42, 43, 44, 45, 46, 47, 48, 49] a0 u) w) :
    (Code.region id ops true).wp Tryz.prog Q a0 W := by
  obtain ⟨h1a, h1b⟩ := hv6_bd m
  obtain ⟨h2a, h2b⟩ := hv6_bd (dT c)
  have hws : IntKind.i64.wrap (hv6 m + hv6 (dT c)) = hv6 m + hv6 (dT c) := by rw [IntKind.wrap_i64]; omega
  generalize hs1 : hv6 m = s1 at *
  generalize hs2 : hv6 (dT c) = s2 at *
  generalize he2 : modE m = e2 at *
  generalize he3 : cmdE m.vars c env = e3 at *
  generalize hb1 : decide (0 < s1 + s2) = b1 at *
  generalize hb2 : (e2 != 0) = b2 at *
  generalize hb3 : (e3 != 0) = b3 at *
  generalize hb4 : decide (12 ≤ x.env.n) = b4 at *
  generalize hb5 : decide (12 ≤ x.sys.n) = b5 at *
  refine region_grow (n := 33) [17, 18, 19, 20, 21, 22, 23, 24, 25, 26, 27, 28, 29, 30, 31, 32, 33, 34, 35, 36, 37, 38, 39, 40, 41, 42, 43, 44, 45, 46, 47, 48, 49] dstQ depsQ (SQ N W.heap.size x y env s1 s2 e2 e3 b1 b2 b3 b4 b5) hm hsz hac hdep ?_ ?_ ?_ ?_ ?_ ?_
  · intro i o ho
    have hi : i < 33 := by rw [← hsz]; exact (Array.getElem?_eq_some_iff.1 ho).1
    refine ⟨?_, ?_, by show i + 17 < _; omega⟩
    · rcases lt33Q hi with rfl | rfl | rfl | rfl | rfl | rfl | rfl | rfl | rfl | rfl | rfl | rfl | rfl | rfl | rfl | rfl | rfl | rfl | rfl | rfl | rfl | rfl | rfl | rfl | rfl | rfl | rfl | rfl | rfl | rfl | rfl | rfl | rfl
      · obtain ⟨ty, pos, af, e⟩ := o0; rw [ho] at e; obtain rfl := Option.some.inj e; rfl
      · obtain ⟨ty, pos, af, e⟩ := o1; rw [ho] at e; obtain rfl := Option.some.inj e; rfl
      · obtain ⟨ty, pos, af, e⟩ := o2; rw [ho] at e; obtain rfl := Option.some.inj e; rfl
      · obtain ⟨ty, pos, af, e⟩ := o3; rw [ho] at e; obtain rfl := Option.some.inj e; rfl
      · obtain ⟨ty, pos, af, e⟩ := o4; rw [ho] at e; obtain rfl := Option.some.inj e; rfl
      · obtain ⟨ty, pos, af, e⟩ := o5; rw [ho] at e; obtain rfl := Option.some.inj e; rfl
      · obtain ⟨ty, pos, af, e⟩ := o6; rw [ho] at e; obtain rfl := Option.some.inj e; rfl
      · obtain ⟨ty, pos, af, e⟩ := o7; rw [ho] at e; obtain rfl := Option.some.inj e; rfl
      · obtain ⟨ty, pos, af, e⟩ := o8; rw [ho] at e; obtain rfl := Option.some.inj e; rfl
      · obtain ⟨ty, pos, af, e⟩ := o9; rw [ho] at e; obtain rfl := Option.some.inj e; rfl
      · obtain ⟨ty, pos, af, e⟩ := o10; rw [ho] at e; obtain rfl := Option.some.inj e; rfl
      · obtain ⟨ty, pos, af, e⟩ := o11; rw [ho] at e; obtain rfl := Option.some.inj e; rfl
      · obtain ⟨ty, pos, af, e⟩ := o12; rw [ho] at e; obtain rfl := Option.some.inj e; rfl
      · obtain ⟨ty, pos, af, e⟩ := o13; rw [ho] at e; obtain rfl := Option.some.inj e; rfl
      · obtain ⟨ty, pos, af, e⟩ := o14; rw [ho] at e; obtain rfl := Option.some.inj e; rfl
      · obtain ⟨ty, pos, af, e⟩ := o15; rw [ho] at e; obtain rfl := Option.some.inj e; rfl
      · obtain ⟨ty, pos, af, e⟩ := o16; rw [ho] at e; obtain rfl := Option.some.inj e; rfl
      · obtain ⟨ty, pos, af, e⟩ := o17; rw [ho] at e; obtain rfl := Option.some.inj e; rfl
      · obtain ⟨ty, pos, af, e⟩ := o18; rw [ho] at e; obtain rfl := Option.some.inj e; rfl
      · obtain ⟨ty, pos, af, e⟩ := o19; rw [ho] at e; obtain rfl := Option.some.inj e; rfl
      · obtain ⟨ty, pos, af, e⟩ := o20; rw [ho] at e; obtain rfl := Option.some.inj e; rfl
      · obtain ⟨ty, pos, af, e⟩ := o21; rw [ho] at e; obtain rfl := Option.some.inj e; rfl
      · obtain ⟨ty, pos, af, e⟩ := o22; rw [ho] at e; obtain rfl := Option.some.inj e; rfl
      · obtain ⟨ty, pos, af, e⟩ := o23; rw [ho] at e; obtain rfl := Option.some.inj e; rfl
      · obtain ⟨ty, pos, af, e⟩ := o24; rw [ho] at e; obtain rfl := Option.some.inj e; rfl
      · obtain ⟨ty, pos, af, e⟩ := o25; rw [ho] at e; obtain rfl := Option.some.inj e; rfl
      · obtain ⟨ty, pos, af, e⟩ := o26; rw [ho] at e; obtain rfl := Option.some.inj e; rfl
      · obtain ⟨ty, pos, af, e⟩ := o27; rw [ho] at e; obtain rfl := Option.some.inj e; rfl
      · obtain ⟨ty, pos, af, e⟩ := o28; rw [ho] at e; obtain rfl := Option.some.inj e; rfl
      · obtain ⟨ty, pos, af, e⟩ := o29; rw [ho] at e; obtain rfl := Option.some.inj e; rfl
      · obtain ⟨ty, pos, af, e⟩ := o30; rw [ho] at e; obtain rfl := Option.some.inj e; rfl
      · obtain ⟨ty, pos, af, e⟩ := o31; rw [ho] at e; obtain rfl := Option.some.inj e; rfl
      · obtain ⟨ty, pos, af, e⟩ := o32; rw [ho] at e; obtain rfl := Option.some.inj e; rfl
    · have hall : ∀ i, i < 33 → dstQ i ∈ [17, 18, 19, 20, 21, 22, 23, 24, 25, 26, 27, 28, 29, 30, 31, 32, 33, 34, 35, 36, 37, 38, 39, 40, 41, 42, 43, 44, 45, 46, 47, 48, 49] := by decide +kernel
      exact hall i hi
  · intro i j hi hj h
    unfold dstQ at h; omega
  · intro j v w w' hj h hbw hWw hb
    rcases lt33Q hj with rfl | rfl | rfl | rfl | rfl | rfl | rfl | rfl | rfl | rfl | rfl | rfl | rfl | rfl | rfl | rfl | rfl | rfl | rfl | rfl | rfl | rfl | rfl | rfl | rfl | rfl | rfl | rfl | rfl | rfl | rfl | rfl | rfl
    · exact h
    · exact h
    · exact h
    · obtain ⟨b, q1, q2, q3⟩ := h; exact ⟨b, q1, q2, (hb.block b (Array.getElem?_eq_some_iff.1 q3).1).trans q3⟩
    · obtain ⟨b, q1, q2, q3⟩ := h; exact ⟨b, q1, q2, (hb.block b (Array.getElem?_eq_some_iff.1 q3).1).trans q3⟩
    · exact h
    · exact h
    · exact h
    · exact h
    · exact h
    · exact h
    · exact h
    · exact h
    · exact h
    · exact h
    · exact h
    · exact h
    · exact h
    · exact h
    · exact h
    · exact h
    · exact h
    · exact h
    · exact h
    · exact h
    · exact h
    · exact h
    · exact h
    · exact h
    · exact h
    · exact h
    · exact h
    · exact h
  · intro i o g b v w ho hg hS hne
    have hi : i < 33 := by rw [← hsz]; exact (Array.getElem?_eq_some_iff.1 ho).1
    rcases lt33Q hi with rfl | rfl | rfl | rfl | rfl | rfl | rfl | rfl | rfl | rfl | rfl | rfl | rfl | rfl | rfl | rfl | rfl | rfl | rfl | rfl | rfl | rfl | rfl | rfl | rfl | rfl | rfl | rfl | rfl | rfl | rfl | rfl | rfl
    · obtain ⟨ty, pos, af, e⟩ := o0; rw [ho] at e; obtain rfl := Option.some.inj e
      cases hg
    · obtain ⟨ty, pos, af, e⟩ := o1; rw [ho] at e; obtain rfl := Option.some.inj e
      cases hg
    · obtain ⟨ty, pos, af, e⟩ := o2; rw [ho] at e; obtain rfl := Option.some.inj e
      cases hg
    · obtain ⟨ty, pos, af, e⟩ := o3; rw [ho] at e; obtain rfl := Option.some.inj e
      cases hg
    · obtain ⟨ty, pos, af, e⟩ := o4; rw [ho] at e; obtain rfl := Option.some.inj e
      cases hg
    · obtain ⟨ty, pos, af, e⟩ := o5; rw [ho] at e; obtain rfl := Option.some.inj e
      cases hg
    · obtain ⟨ty, pos, af, e⟩ := o6; rw [ho] at e; obtain rfl := Option.some.inj e
      cases hg
    · obtain ⟨ty, pos, af, e⟩ := o7; rw [ho] at e; obtain rfl := Option.some.inj e
      cases hg
    · obtain ⟨ty, pos, af, e⟩ := o8; rw [ho] at e; obtain rfl := Option.some.inj e
      cases hg
    · obtain ⟨ty, pos, af, e⟩ := o9; rw [ho] at e; obtain rfl := Option.some.inj e
      injection hg with hg; injection hg with hg hg2; subst hg; subst hg2
      intro hf; exact absurd (hS.trans (congrArg Value.bool hf)) hne
    · obtain ⟨ty, pos, af, e⟩ := o10; rw [ho] at e; obtain rfl := Option.some.inj e
      injection hg with hg; injection hg with hg hg2; subst hg; subst hg2
      intro hf; exact absurd (hS.trans (congrArg Value.bool hf)) hne
    · obtain ⟨ty, pos, af, e⟩ := o11; rw [ho] at e; obtain rfl := Option.some.inj e
      injection hg with hg; injection hg with hg hg2; subst hg; subst hg2
      intro hf; exact absurd (hS.trans (congrArg Value.bool hf)) hne
    · obtain ⟨ty, pos, af, e⟩ := o12; rw [ho] at e; obtain rfl := Option.some.inj e
      cases hg
    · obtain ⟨ty, pos, af, e⟩ := o13; rw [ho] at e; obtain rfl := Option.some.inj e
      cases hg
    · obtain ⟨ty, pos, af, e⟩ := o14; rw [ho] at e; obtain rfl := Option.some.inj e
      injection hg with hg; injection hg with hg hg2; subst hg; subst hg2
      intro hf; exact absurd (hS.trans (congrArg Value.bool hf)) hne
    · obtain ⟨ty, pos, af, e⟩ := o15; rw [ho] at e; obtain rfl := Option.some.inj e
      injection hg with hg; injection hg with hg hg2; subst hg; subst hg2
      intro hf; exact absurd (hS.trans (congrArg Value.bool hf)) hne
    · obtain ⟨ty, pos, af, e⟩ := o16; rw [ho] at e; obtain rfl := Option.some.inj e
      injection hg with hg; injection hg with hg hg2; subst hg; subst hg2
      intro hf; exact absurd (hS.trans (congrArg Value.bool hf)) hne
    · obtain ⟨ty, pos, af, e⟩ := o17; rw [ho] at e; obtain rfl := Option.some.inj e
      injection hg with hg; injection hg with hg hg2; subst hg; subst hg2
      intro hf; exact absurd (hS.trans (congrArg Value.bool hf)) hne
    · obtain ⟨ty, pos, af, e⟩ := o18; rw [ho] at e; obtain rfl := Option.some.inj e
      injection hg with hg; injection hg with hg hg2; subst hg; subst hg2
      intro hf; exact absurd (hS.trans (congrArg Value.bool hf)) hne
    · obtain ⟨ty, pos, af, e⟩ := o19; rw [ho] at e; obtain rfl := Option.some.inj e
      injection hg with hg; injection hg with hg hg2; subst hg; subst hg2
      intro hf; exact absurd (hS.trans (congrArg Value.bool hf)) hne
    · obtain ⟨ty, pos, af, e⟩ := o20; rw [ho] at e; obtain rfl := Option.some.inj e
      cases hg
    · obtain ⟨ty, pos, af, e⟩ := o21; rw [ho] at e; obtain rfl := Option.some.inj e
      cases hg
    · obtain ⟨ty, pos, af, e⟩ := o22; rw [ho] at e; obtain rfl := Option.some.inj e
      injection hg with hg; injection hg with hg hg2; subst hg; subst hg2
      intro hf; exact absurd (hS.trans (congrArg Value.bool hf)) hne
    · obtain ⟨ty, pos, af, e⟩ := o23; rw [ho] at e; obtain rfl := Option.some.inj e
      injection hg with hg; injection hg with hg hg2; subst hg; subst hg2
      intro hf; exact absurd (hS.trans (congrArg Value.bool hf)) hne
    · obtain ⟨ty, pos, af, e⟩ := o24; rw [ho] at e; obtain rfl := Option.some.inj e
      injection hg with hg; injection hg with hg hg2; subst hg; subst hg2
      intro hf; exact absurd (hS.trans (congrArg Value.bool hf)) hne
    · obtain ⟨ty, pos, af, e⟩ := o25; rw [ho] at e; obtain rfl := Option.some.inj e
      injection hg with hg; injection hg with hg hg2; subst hg; subst hg2
      intro hf; exact absurd (hS.trans (congrArg Value.bool hf)) hne
    · obtain ⟨ty, pos, af, e⟩ := o26; rw [ho] at e; obtain rfl := Option.some.inj e
      cases hg
    · obtain ⟨ty, pos, af, e⟩ := o27; rw [ho] at e; obtain rfl := Option.some.inj e
      cases hg
    · obtain ⟨ty, pos, af, e⟩ := o28; rw [ho] at e; obtain rfl := Option.some.inj e
      injection hg with hg; injection hg with hg hg2; subst hg; subst hg2
      intro hf; exact absurd (hS.trans (congrArg Value.bool hf)) hne
    · obtain ⟨ty, pos, af, e⟩ := o29; rw [ho] at e; obtain rfl := Option.some.inj e
      injection hg with hg; injection hg with hg hg2; subst hg; subst hg2
      intro hf; exact absurd (hS.trans (congrArg Value.bool hf)) hne
    · obtain ⟨ty, pos, af, e⟩ := o30; rw [ho] at e; obtain rfl := Option.some.inj e
      injection hg with hg; injection hg with hg hg2; subst hg; subst hg2
      intro hf; exact absurd (hS.trans (congrArg Value.bool hf)) hne
    · obtain ⟨ty, pos, af, e⟩ := o31; rw [ho] at e; obtain rfl := Option.some.inj e
      injection hg with hg; injection hg with hg hg2; subst hg; subst hg2
      intro hf; exact absurd (hS.trans (congrArg Value.bool hf)) hne
    · obtain ⟨ty, pos, af, e⟩ := o32; rw [ho] at e; obtain rfl := Option.some.inj e
      cases hg
  · intro i o a w v K hi ho hs hd hg hbw hWw hK
    have b0 : BoxM w N x := hbm.below hbw (by omega)
    have b1' : w.heap[N + 1]? = some (.cells y.cells 71 (0, 0)) := (hbw.block (N + 1) (by omega)).trans hbc
    have k3 : a.eval (.tmp 3) = .pointer (some ⟨N, 0, none⟩) := (hs 3 (by decide)).trans h3
    have k4 : a.eval (.tmp 4) = .pointer (some ⟨N + 1, 0, none⟩) := (hs 4 (by decide)).trans h4
    have k2 : a.eval (.tmp 2) = .bool env := (hs 2 (by decide)).trans h2
    have hrm' : RM w B x m := hrm.below (hbw.mono hB)
    have hrc' : RC w B y c := hrc.below (hbw.mono hB)
    rcases lt33Q hi with rfl | rfl | rfl | rfl | rfl | rfl | rfl | rfl | rfl | rfl | rfl | rfl | rfl | rfl | rfl | rfl | rfl | rfl | rfl | rfl | rfl | rfl | rfl | rfl | rfl | rfl | rfl | rfl | rfl | rfl | rfl | rfl | rfl
    · obtain ⟨ty, pos, af, e⟩ := o0; rw [ho] at e; obtain rfl := Option.some.inj e
      exact sq_load28 k3 b0 (hK _ _ rfl (Below.refl _ _))
    · obtain ⟨ty, pos, af, e⟩ := o1; rw [ho] at e; obtain rfl := Option.some.inj e
      obtain ⟨d0, s100⟩ := hd 0 (by simp [depsQ])
      have d0 : a.eval (.tmp 17) = v 0 := d0
      exact sq_call1 (by decide) (d0.trans s100) (hs1 ▸ hv6_any B x m w (by omega) hrm') (fun w' hb => hK _ _ rfl hb)
    · obtain ⟨ty, pos, af, e⟩ := o2; rw [ho] at e; obtain rfl := Option.some.inj e
      exact sq_load71 k4 b1' (hK _ _ rfl (Below.refl _ _))
    · obtain ⟨ty, pos, af, e⟩ := o3; rw [ho] at e; obtain rfl := Option.some.inj e
      obtain ⟨d2, s102⟩ := hd 2 (by simp [depsQ])
      have d2 : a.eval (.tmp 19) = v 2 := d2
      exact sq_one26 (d2.trans s102) (hK _ _ ⟨_, hWw, rfl, new_at rfl⟩ ((Below.refl _ _).alloc (Nat.le_refl _) _))
    · obtain ⟨ty, pos, af, e⟩ := o4; rw [ho] at e; obtain rfl := Option.some.inj e
      obtain ⟨d3, s103⟩ := hd 3 (by simp [depsQ])
      have d3 : a.eval (.tmp 20) = v 3 := d3
      obtain ⟨b, q1, q2, q3⟩ := s103
      exact sq_build28 (d3.trans q2) (hK _ _ ⟨b, q1, rfl, q3⟩ (Below.refl _ _))
    · obtain ⟨ty, pos, af, e⟩ := o5; rw [ho] at e; obtain rfl := Option.some.inj e
      obtain ⟨d4, s104⟩ := hd 4 (by simp [depsQ])
      have d4 : a.eval (.tmp 21) = v 4 := d4
      obtain ⟨b, q1, q2, q3⟩ := s104
      have hzb : b + 1 ≤ w.heap.size := (Array.getElem?_eq_some_iff.1 q3).1
      exact sq_call1 (by decide) (d4.trans q2) (hs2 ▸ hv6_any (b + 1) (dM b) (dT c) w hzb (d_rmA q3 hrc' (by omega))) (fun w' hb => hK _ _ rfl hb)
    · obtain ⟨ty, pos, af, e⟩ := o6; rw [ho] at e; obtain rfl := Option.some.inj e
      obtain ⟨d1, s101⟩ := hd 1 (by simp [depsQ])
      have d1 : a.eval (.tmp 18) = v 1 := d1
      obtain ⟨d5, s105⟩ := hd 5 (by simp [depsQ])
      have d5 : a.eval (.tmp 22) = v 5 := d5
      exact sq_add (d1.trans s101) (d5.trans s105) hws (hK _ _ rfl (Below.refl _ _))
    · obtain ⟨ty, pos, af, e⟩ := o7; rw [ho] at e; obtain rfl := Option.some.inj e
      obtain ⟨d6, s106⟩ := hd 6 (by simp [depsQ])
      have d6 : a.eval (.tmp 23) = v 6 := d6
      exact sq_gtr (d6.trans s106) (hK _ _ (congrArg Value.bool hb1) (Below.refl _ _))
    · obtain ⟨ty, pos, af, e⟩ := o8; rw [ho] at e; obtain rfl := Option.some.inj e
      obtain ⟨d7, s107⟩ := hd 7 (by simp [depsQ])
      have d7 : a.eval (.tmp 24) = v 7 := d7
      exact sq_move (d7.trans s107) (hK _ _ rfl (Below.refl _ _))
    · obtain ⟨ty, pos, af, e⟩ := o9; rw [ho] at e; obtain rfl := Option.some.inj e
      obtain ⟨g1, g2⟩ := hg 8 false rfl
      have gf : b1 = false := by have e := Eq.trans (Eq.symm g2) g1; injection e
      exact sq_load28 k3 b0 (hK _ _ (fun _ => rfl) (Below.refl _ _))
    · obtain ⟨ty, pos, af, e⟩ := o10; rw [ho] at e; obtain rfl := Option.some.inj e
      obtain ⟨g1, g2⟩ := hg 8 false rfl
      have gf : b1 = false := by have e := Eq.trans (Eq.symm g2) g1; injection e
      obtain ⟨d9, s109⟩ := hd 9 (by simp [depsQ])
      have d9 : a.eval (.tmp 26) = v 9 := d9
      exact sq_call1 (by decide) (d9.trans (s109 gf)) (he2 ▸ rmod_any B x m w (by omega) hrm') (fun w' hb => hK _ _ (fun _ => rfl) hb)
    · obtain ⟨ty, pos, af, e⟩ := o11; rw [ho] at e; obtain rfl := Option.some.inj e
      obtain ⟨g1, g2⟩ := hg 8 false rfl
      have gf : b1 = false := by have e := Eq.trans (Eq.symm g2) g1; injection e
      obtain ⟨d10, s110⟩ := hd 10 (by simp [depsQ])
      have d10 : a.eval (.tmp 27) = v 10 := d10
      exact sq_neq (d10.trans (s110 gf)) (hK _ _ (fun _ => congrArg Value.bool hb2) (Below.refl _ _))
    · obtain ⟨ty, pos, af, e⟩ := o12; rw [ho] at e; obtain rfl := Option.some.inj e
      obtain ⟨d8, s108⟩ := hd 8 (by simp [depsQ])
      have d8 : a.eval (.tmp 25) = v 8 := d8
      obtain ⟨d11, s111⟩ := hd 11 (by simp [depsQ])
      have d11 : a.eval (.tmp 28) = v 11 := d11
      exact sq_pick (d8.trans s108) (fun gf => d11.trans (s111 gf)) (hK _ _ rfl (Below.refl _ _))
    · obtain ⟨ty, pos, af, e⟩ := o13; rw [ho] at e; obtain rfl := Option.some.inj e
      obtain ⟨d12, s112⟩ := hd 12 (by simp [depsQ])
      have d12 : a.eval (.tmp 29) = v 12 := d12
      exact sq_move (d12.trans s112) (hK _ _ rfl (Below.refl _ _))
    · obtain ⟨ty, pos, af, e⟩ := o14; rw [ho] at e; obtain rfl := Option.some.inj e
      obtain ⟨g1, g2⟩ := hg 13 false rfl
      have gf : (b1 || b2) = false := by have e := Eq.trans (Eq.symm g2) g1; injection e
      exact sq_field k3 (by simp) (hK _ _ (fun _ => rfl) (Below.refl _ _))
    · obtain ⟨ty, pos, af, e⟩ := o15; rw [ho] at e; obtain rfl := Option.some.inj e
      obtain ⟨g1, g2⟩ := hg 13 false rfl
      have gf : (b1 || b2) = false := by have e := Eq.trans (Eq.symm g2) g1; injection e
      obtain ⟨d14, s114⟩ := hd 14 (by simp [depsQ])
      have d14 : a.eval (.tmp 31) = v 14 := d14
      exact sq_load (.inl rfl) (d14.trans (s114 gf)) (box12 b0).1 (hK _ _ (fun _ => rfl) (Below.refl _ _))
    · obtain ⟨ty, pos, af, e⟩ := o16; rw [ho] at e; obtain rfl := Option.some.inj e
      obtain ⟨g1, g2⟩ := hg 13 false rfl
      have gf : (b1 || b2) = false := by have e := Eq.trans (Eq.symm g2) g1; injection e
      exact sq_load71 k4 b1' (hK _ _ (fun _ => rfl) (Below.refl _ _))
    · obtain ⟨ty, pos, af, e⟩ := o17; rw [ho] at e; obtain rfl := Option.some.inj e
      obtain ⟨g1, g2⟩ := hg 13 false rfl
      have gf : (b1 || b2) = false := by have e := Eq.trans (Eq.symm g2) g1; injection e
      exact sq_move k2 (hK _ _ (fun _ => rfl) (Below.refl _ _))
    · obtain ⟨ty, pos, af, e⟩ := o18; rw [ho] at e; obtain rfl := Option.some.inj e
      obtain ⟨g1, g2⟩ := hg 13 false rfl
      have gf : (b1 || b2) = false := by have e := Eq.trans (Eq.symm g2) g1; injection e
      obtain ⟨d15, s115⟩ := hd 15 (by simp [depsQ])
      have d15 : a.eval (.tmp 32) = v 15 := d15
      obtain ⟨d16, s116⟩ := hd 16 (by simp [depsQ])
      have d16 : a.eval (.tmp 33) = v 16 := d16
      obtain ⟨d17, s117⟩ := hd 17 (by simp [depsQ])
      have d17 : a.eval (.tmp 34) = v 17 := d17
      exact sq_call3 (d15.trans (s115 gf)) (d16.trans (s116 gf)) (d17.trans (s117 gf)) (he3 ▸ rcmd_any B x.vars.A x.vars.n x.vars.c m.vars y c env w hrm'.1 (by omega) hrc' hrm'.2.1) (fun w' hb => hK _ _ (fun _ => rfl) hb)
    · obtain ⟨ty, pos, af, e⟩ := o19; rw [ho] at e; obtain rfl := Option.some.inj e
      obtain ⟨g1, g2⟩ := hg 13 false rfl
      have gf : (b1 || b2) = false := by have e := Eq.trans (Eq.symm g2) g1; injection e
      obtain ⟨d18, s118⟩ := hd 18 (by simp [depsQ])
      have d18 : a.eval (.tmp 35) = v 18 := d18
      exact sq_neq (d18.trans (s118 gf)) (hK _ _ (fun _ => congrArg Value.bool hb3) (Below.refl _ _))
    · obtain ⟨ty, pos, af, e⟩ := o20; rw [ho] at e; obtain rfl := Option.some.inj e
      obtain ⟨d13, s113⟩ := hd 13 (by simp [depsQ])
      have d13 : a.eval (.tmp 30) = v 13 := d13
      obtain ⟨d19, s119⟩ := hd 19 (by simp [depsQ])
      have d19 : a.eval (.tmp 36) = v 19 := d19
      exact sq_pick (d13.trans s113) (fun gf => d19.trans (s119 gf)) (hK _ _ rfl (Below.refl _ _))
    · obtain ⟨ty, pos, af, e⟩ := o21; rw [ho] at e; obtain rfl := Option.some.inj e
      obtain ⟨d20, s120⟩ := hd 20 (by simp [depsQ])
      have d20 : a.eval (.tmp 37) = v 20 := d20
      exact sq_move (d20.trans s120) (hK _ _ rfl (Below.refl _ _))
    · obtain ⟨ty, pos, af, e⟩ := o22; rw [ho] at e; obtain rfl := Option.some.inj e
      obtain ⟨g1, g2⟩ := hg 21 false rfl
      have gf : (b1 || b2 || b3) = false := by have e := Eq.trans (Eq.symm g2) g1; injection e
      exact sq_field k3 (by simp) (hK _ _ (fun _ => rfl) (Below.refl _ _))
    · obtain ⟨ty, pos, af, e⟩ := o23; rw [ho] at e; obtain rfl := Option.some.inj e
      obtain ⟨g1, g2⟩ := hg 21 false rfl
      have gf : (b1 || b2 || b3) = false := by have e := Eq.trans (Eq.symm g2) g1; injection e
      obtain ⟨d22, s122⟩ := hd 22 (by simp [depsQ])
      have d22 : a.eval (.tmp 39) = v 22 := d22
      exact sq_load (.inr rfl) (d22.trans (s122 gf)) (box12 b0).2.2.2.2.2.2.2.1 (hK _ _ (fun _ => rfl) (Below.refl _ _))
    · obtain ⟨ty, pos, af, e⟩ := o24; rw [ho] at e; obtain rfl := Option.some.inj e
      obtain ⟨g1, g2⟩ := hg 21 false rfl
      have gf : (b1 || b2 || b3) = false := by have e := Eq.trans (Eq.symm g2) g1; injection e
      obtain ⟨d23, s123⟩ := hd 23 (by simp [depsQ])
      have d23 : a.eval (.tmp 40) = v 23 := d23
      exact sq_len (d23.trans (s123 gf)) (hK _ _ (fun _ => rfl) (Below.refl _ _))
    · obtain ⟨ty, pos, af, e⟩ := o25; rw [ho] at e; obtain rfl := Option.some.inj e
      obtain ⟨g1, g2⟩ := hg 21 false rfl
      have gf : (b1 || b2 || b3) = false := by have e := Eq.trans (Eq.symm g2) g1; injection e
      obtain ⟨d24, s124⟩ := hd 24 (by simp [depsQ])
      have d24 : a.eval (.tmp 41) = v 24 := d24
      exact sq_geq (d24.trans (s124 gf)) (hK _ _ (fun _ => congrArg Value.bool hb4) (Below.refl _ _))
    · obtain ⟨ty, pos, af, e⟩ := o26; rw [ho] at e; obtain rfl := Option.some.inj e
      obtain ⟨d21, s121⟩ := hd 21 (by simp [depsQ])
      have d21 : a.eval (.tmp 38) = v 21 := d21
      obtain ⟨d25, s125⟩ := hd 25 (by simp [depsQ])
      have d25 : a.eval (.tmp 42) = v 25 := d25
      exact sq_pick (d21.trans s121) (fun gf => d25.trans (s125 gf)) (hK _ _ rfl (Below.refl _ _))
    · obtain ⟨ty, pos, af, e⟩ := o27; rw [ho] at e; obtain rfl := Option.some.inj e
      obtain ⟨d26, s126⟩ := hd 26 (by simp [depsQ])
      have d26 : a.eval (.tmp 43) = v 26 := d26
      exact sq_move (d26.trans s126) (hK _ _ rfl (Below.refl _ _))
    · obtain ⟨ty, pos, af, e⟩ := o28; rw [ho] at e; obtain rfl := Option.some.inj e
      obtain ⟨g1, g2⟩ := hg 27 false rfl
      have gf : (b1 || b2 || b3 || b4) = false := by have e := Eq.trans (Eq.symm g2) g1; injection e
      exact sq_field k3 (by simp) (hK _ _ (fun _ => rfl) (Below.refl _ _))
    · obtain ⟨ty, pos, af, e⟩ := o29; rw [ho] at e; obtain rfl := Option.some.inj e
      obtain ⟨g1, g2⟩ := hg 27 false rfl
      have gf : (b1 || b2 || b3 || b4) = false := by have e := Eq.trans (Eq.symm g2) g1; injection e
      obtain ⟨d28, s128⟩ := hd 28 (by simp [depsQ])
      have d28 : a.eval (.tmp 45) = v 28 := d28
      exact sq_load (.inr rfl) (d28.trans (s128 gf)) (box12 b0).2.2.2.2.2.2.2.2.1 (hK _ _ (fun _ => rfl) (Below.refl _ _))
    · obtain ⟨ty, pos, af, e⟩ := o30; rw [ho] at e; obtain rfl := Option.some.inj e
      obtain ⟨g1, g2⟩ := hg 27 false rfl
      have gf : (b1 || b2 || b3 || b4) = false := by have e := Eq.trans (Eq.symm g2) g1; injection e
      obtain ⟨d29, s129⟩ := hd 29 (by simp [depsQ])
      have d29 : a.eval (.tmp 46) = v 29 := d29
      exact sq_len (d29.trans (s129 gf)) (hK _ _ (fun _ => rfl) (Below.refl _ _))
    · obtain ⟨ty, pos, af, e⟩ := o31; rw [ho] at e; obtain rfl := Option.some.inj e
      obtain ⟨g1, g2⟩ := hg 27 false rfl
      have gf : (b1 || b2 || b3 || b4) = false := by have e := Eq.trans (Eq.symm g2) g1; injection e
      obtain ⟨d30, s130⟩ := hd 30 (by simp [depsQ])
      have d30 : a.eval (.tmp 47) = v 30 := d30
      exact sq_geq (d30.trans (s130 gf)) (hK _ _ (fun _ => congrArg Value.bool hb5) (Below.refl _ _))
    · obtain ⟨ty, pos, af, e⟩ := o32; rw [ho] at e; obtain rfl := Option.some.inj e
      obtain ⟨d27, s127⟩ := hd 27 (by simp [depsQ])
      have d27 : a.eval (.tmp 44) = v 27 := d27
      obtain ⟨d31, s131⟩ := hd 31 (by simp [depsQ])
      have d31 : a.eval (.tmp 48) = v 31 := d31
      exact sq_pick (d27.trans s127) (fun gf => d31.trans (s131 gf)) (hK _ _ rfl (Below.refl _ _))
  · intro u w hS hbw hWw
    exact hend u w (hS 32 (by omega)) hbw
end Go.Proofs.YtbppdalfcldodaaGreat
set_option maxRecDepth 100000
namespace Go.Proofs.YtbppdalfcldodaaGreat
open Go.RowKit Ex
set_option linter.unusedSimpArgs false
set_option linter.unusedVariables false

theorem infoC6 : (Tryz.prog.info? 71).map (fun i => (i.zero, i.size, i.bytes)) = some (some (.agg #[.int .i64 0, .int .i64 0, .slice none 0 0, .slice none 0 0]), 4, 64) := by kernel_rfl
theorem lt9A {i : Nat} (h : i < 9) : i = 0 ∨ i = 1 ∨ i = 2 ∨ i = 3 ∨ i = 4 ∨ i = 5 ∨ i = 6 ∨ i = 7 ∨ i = 8 := by omega
theorem lt12A {i : Nat} (h : i < 12) : i = 0 ∨ i = 1 ∨ i = 2 ∨ i = 3 ∨ i = 4 ∨ i = 5 ∨ i = 6 ∨ i = 7 ∨ i = 8 ∨ i = 9 ∨ i = 10 ∨ i = 11 := by omega
theorem add_blockA (ad : Addr) (j : Nat) : (ad.add j).block = ad.block := by unfold Addr.add; split <;> rfl
theorem own_atA {w w' : World} {base e size n : Nat} {v : Value} {xs : List Value} (h : w.ownsRow base e size v n xs) (hk : ∀ b, v.ownBlock = some b → w'.heap[b]? = w.heap[b]?) : w'.ownsRow base e size v n xs := by
  refine ⟨h.1, ?_⟩
  rcases h.2 with h4 | ⟨g, cap, cur, e, h4, h5, h6⟩
  · exact .inl h4
  · exact .inr ⟨g, cap, cur, e, h4, (hk g (by rw [e]; rfl)).trans h5, h6⟩
theorem mcell_env {w : World} {g : Nat} {x : M8} {A : Option Addr} {n c : Nat} (h : w.rowIs g 28 12 (mV x)) (hx : x.env = ⟨A, n, c⟩) : w.cell? ⟨g, 7, none⟩ = some (.slice A n c) := by
  have := (row12 (mV_box h)).2.2.2.2.2.2.2.1
  rw [hx] at this; exact this
theorem mcell_sys {w : World} {g : Nat} {x : M8} {A : Option Addr} {n c : Nat} (h : w.rowIs g 28 12 (mV x)) (hx : x.sys = ⟨A, n, c⟩) : w.cell? ⟨g, 8, none⟩ = some (.slice A n c) := by
  have := (row12 (mV_box h)).2.2.2.2.2.2.2.2.1
  rw [hx] at this; exact this
section
variable {a : Act} {w : World} {K : Act → World → Prop} {Q : Exit → Act → World → Prop} {d ty : Nat} {pos : String} {af : Array Edge} {op nn : Int} {A : Option Addr} {len cap : Nat} {tA : Option Addr} {tn tc : Nat}
theorem st_field3 {t b : Nat} (he : a.eval (.tmp t) = .pointer (some ⟨b, 0, none⟩)) (hK : K (a.put (some d) (.pointer (some ⟨b, 7, none⟩))) w) : Oper.wp Tryz.prog ⟨some d, .fieldAddr 28 (.tmp t) 3, ty, pos, af, none⟩ a w K Q := by
  have he' : a.tmps[t]?.getD undef = .pointer (some ⟨b, 0, none⟩) := by simpa [Act.eval] using he
  refine wp_val ?_ hK
  simp only [execOp]
  go_simp
theorem st_field4 {t b : Nat} (he : a.eval (.tmp t) = .pointer (some ⟨b, 0, none⟩)) (hK : K (a.put (some d) (.pointer (some ⟨b, 8, none⟩))) w) : Oper.wp Tryz.prog ⟨some d, .fieldAddr 28 (.tmp t) 4, ty, pos, af, none⟩ a w K Q := by
  have he' : a.tmps[t]?.getD undef = .pointer (some ⟨b, 0, none⟩) := by simpa [Act.eval] using he
  refine wp_val ?_ hK
  simp only [execOp]
  go_simp
theorem st_store26 {t s b i : Nat} {A : Option Addr} {n c : Nat} {f : Nat → Value} (he : a.eval (.tmp t) = .pointer (some ⟨b, i, none⟩)) (hs : a.eval (.tmp s) = .slice A n c) (hr : w.rowIs b 28 12 f) (hi : i < 12) (hK : K a (w.setCell ⟨b, i, none⟩ (.slice A n c))) : Oper.wp Tryz.prog ⟨none, .store 26 (.tmp t) (.tmp s), ty, pos, af, none⟩ a w K Q := by
  have he' : a.tmps[t]?.getD undef = .pointer (some ⟨b, i, none⟩) := by simpa [Act.eval] using he
  have hs' : a.tmps[s]?.getD undef = .slice A n c := by simpa [Act.eval] using hs
  have c0 := hr.cell (i := i) hi
  have z0 := hr.frozen i
  unfold Oper.wp
  go_simp
  exact hK
theorem st_none26A (hK : K (a.put (some d) (.slice (some ⟨w.heap.size, 0, none⟩) 0 0)) (w.alloc (.cells #[] 71))) : Oper.wp Tryz.prog ⟨some d, .buildSlice 26 0 #[], ty, pos, af, none⟩ a w K Q := by
  refine wp_val ?_ hK
  simp only [execOp]
  go_simp
theorem st_load26A {t b i : Nat} (he : a.eval (.tmp t) = .pointer (some ⟨b, i, none⟩)) (hc : w.cell? ⟨b, i, none⟩ = some (.slice A len cap)) (hK : K (a.put (some d) (.slice A len cap)) w) : Oper.wp Tryz.prog ⟨some d, .load 26 (.tmp t), ty, pos, af, none⟩ a w K Q := by
  have he' : a.tmps[t]?.getD undef = .pointer (some ⟨b, i, none⟩) := by simpa [Act.eval] using he
  refine wp_val ?_ hK
  simp only [execOp]
  go_simp
theorem st_loadC6A {t b : Nat} (he : a.eval (.tmp t) = .pointer (some ⟨b, 0, none⟩)) (hc : BoxC w b op nn A len cap tA tn tc) (hK : K (a.put (some d) (.agg #[.int .i64 op, .int .i64 nn, .slice A len cap, .slice tA tn tc])) w) : Oper.wp Tryz.prog ⟨some d, .load 71 (.tmp t), ty, pos, af, none⟩ a w K Q := by
  have he' : a.tmps[t]?.getD undef = .pointer (some ⟨b, 0, none⟩) := by simpa [Act.eval] using he
  obtain ⟨c0, c1, c2, c3⟩ := hc
  refine wp_val ?_ hK
  simp only [execOp]
  go_simp
theorem st_one26A {t : Nat} (he : a.eval (.tmp t) = .agg #[.int .i64 op, .int .i64 nn, .slice A len cap, .slice tA tn tc]) (hK : K (a.put (some d) (.slice (some ⟨w.heap.size, 0, none⟩) 1 1)) (w.alloc (.cells #[.int .i64 op, .int .i64 nn, .slice A len cap, .slice tA tn tc] 71))) : Oper.wp Tryz.prog ⟨some d, .buildSlice 26 1 #[(0, .tmp t)], ty, pos, af, none⟩ a w K Q := by
  have he' : a.tmps[t]?.getD undef = .agg #[.int .i64 op, .int .i64 nn, .slice A len cap, .slice tA tn tc] := by simpa [Act.eval] using he
  refine wp_val ?_ hK
  simp only [execOp]
  go_simp
end
def depsA : Nat → List Nat
  | 2 => [1]
  | 3 => [0, 2]
  | 5 => [4]
  | 6 => [3, 5]
  | 8 => [7, 6]
  | _ => []
def eatsA : Nat → List Nat
  | 3 => [0]
  | 6 => [3]
  | 8 => [6, 11]
  | _ => []
def readsA : Nat → List Nat
  | 2 => [9]
  | 4 => [10]
  | 6 => [5]
  | _ => []
def dstAE : Nat → Nat
  | 0 => 53
  | 1 => 54
  | 2 => 55
  | 3 => 56
  | 4 => 57
  | 5 => 58
  | 6 => 59
  | 7 => 60
  | 8 => 1008
  | k + 9 => 1009 + k
def SAE (nb p0 : Nat) (op nn : Int) (A : Option Addr) (len cap : Nat) (tA : Option Addr) (tn tc : Nat) (lA : Option Addr) (ln lc : Nat) : Nat → Value → Prop
  | 1, v => v = .pointer (some ⟨nb, 7, none⟩)
  | 2, v => v = .slice lA ln lc
  | 4, v => v = .agg #[.int .i64 op, .int .i64 nn, .slice A len cap, .slice tA tn tc]
  | 7, v => v = .pointer (some ⟨p0, 7, none⟩)
  | _, _ => True
def RAE (base nb cb p0 : Nat) (x : M8) (op nn : Int) (A : Option Addr) (len cap : Nat) (tA : Option Addr) (tn tc : Nat) (ln : Nat) (xs : List Value) : Nat → Value → World → List Nat → Prop
  | 0, v, w, gi => ∃ g, gi = [g] ∧ v = .slice (some ⟨g, 0, none⟩) 0 0 ∧ w.ownsRow base 71 4 (.slice (some ⟨g, 0, none⟩) 0 0) 0 []
  | 3, v, w, gi => ∃ g cp, gi = [g] ∧ v = .slice (some ⟨g, 0, none⟩) ln cp ∧ w.ownsRow base 71 4 (.slice (some ⟨g, 0, none⟩) ln cp) ln xs
  | 5, v, w, gi => ∃ g, gi = [g] ∧ v = .slice (some ⟨g, 0, none⟩) 1 1 ∧ w.heap[g]? = some (.cells #[.int .i64 op, .int .i64 nn, .slice A len cap, .slice tA tn tc] 71 (0, 0))
  | 6, v, w, gi => ∃ g cp, gi = [g] ∧ v = .slice (some ⟨g, 0, none⟩) (ln + 1) cp ∧ w.ownsRow base 71 4 (.slice (some ⟨g, 0, none⟩) (ln + 1) cp) (ln + 1) (xs ++ [.int .i64 op, .int .i64 nn, .slice A len cap, .slice tA tn tc])
  | 8, _, w, gi => ∃ g cp, gi = [p0, g] ∧ w.rowIs p0 28 12 (fun i => if i = 7 then .slice (some ⟨g, 0, none⟩) (ln + 1) cp else mV x i) ∧ w.ownsRow base 71 4 (.slice (some ⟨g, 0, none⟩) (ln + 1) cp) (ln + 1) (xs ++ [.int .i64 op, .int .i64 nn, .slice A len cap, .slice tA tn tc])
  | 9, _, w, gi => gi = [nb] ∧ w.rowIs nb 28 12 (mV x)
  | 10, _, w, gi => gi = [cb] ∧ BoxC w cb op nn A len cap tA tn tc
  | 11, _, w, gi => gi = [p0] ∧ w.rowIs p0 28 12 (mV x)
  | _, _, _, gi => gi = []
set_option maxHeartbeats 4000000 in
theorem amore_regionE {id nb cb p0 base ln lc : Nat} {ops : Array Oper} {Q : Exit → Act → World → Prop} {a0 : Act} {W : World} {x : M8} {op nn : Int} {A : Option Addr} {len cap : Nat} {tA : Option Addr} {tn tc : Nat} {lA : Option Addr} {xs : List Value}
    (hm : Tryz.prog.follows .mixedOrders = true) (hsz : ops.size = 9) (hac : ownAc ops = true) (hdep : ownDeps ops depsA = true)
    (o0 : ∃ ty pos af, ops[0]? = some ⟨some 53, .buildSlice 26 0 #[], ty, pos, af, none⟩)
    (o1 : ∃ ty pos af, ops[1]? = some ⟨some 54, .fieldAddr 28 (.tmp 3) 3, ty, pos, af, none⟩)
    (o2 : ∃ ty pos af, ops[2]? = some ⟨some 55, .load 26 (.tmp 54), ty, pos, af, none⟩)
    (o3 : ∃ ty pos af, ops[3]? = some ⟨some 56, .call { callee := .builtin .append, args := #[.tmp 53, .tmp 55], argTypes := #[26, 26] }, ty, pos, af, none⟩)
    (o4 : ∃ ty pos af, ops[4]? = some ⟨some 57, .load 71 (.tmp 4), ty, pos, af, none⟩)
    (o5 : ∃ ty pos af, ops[5]? = some ⟨some 58, .buildSlice 26 1 #[(0, .tmp 57)], ty, pos, af, none⟩)
    (o6 : ∃ ty pos af, ops[6]? = some ⟨some 59, .call { callee := .builtin .append, args := #[.tmp 56, .tmp 58], argTypes := #[26, 26] }, ty, pos, af, none⟩)
    (o7 : ∃ ty pos af, ops[7]? = some ⟨some 60, .fieldAddr 28 (.tmp 7) 3, ty, pos, af, none⟩)
    (o8 : ∃ ty pos af, ops[8]? = some ⟨none, .store 26 (.tmp 60) (.tmp 59), ty, pos, af, none⟩)
    (hts : 61 ≤ a0.tmps.size) (h3 : a0.eval (.tmp 3) = .pointer (some ⟨nb, 0, none⟩)) (h4 : a0.eval (.tmp 4) = .pointer (some ⟨cb, 0, none⟩)) (h7 : a0.eval (.tmp 7) = .pointer (some ⟨p0, 0, none⟩))
    (hx : x.env = ⟨lA, ln, lc⟩) (hbc : BoxC W cb op nn A len cap tA tn tc) (hrow : W.rowIs nb 28 12 (mV x)) (hr0 : W.rowIs p0 28 12 (mV x)) (hnb : base ≤ nb ∧ nb < W.heap.size) (hcb : nb < cb ∧ cb < W.heap.size) (hp0 : cb < p0 ∧ p0 < W.heap.size) (hbase : base ≤ W.heap.size)
    (hlen : xs.length = ln * 4) (hnil : lA = none → ln = 0 ∧ lc = 0) (hcl : ∀ ad, lA = some ad → ∀ (j : Nat) u, xs[j]? = some u → ad.block < base ∧ W.cell? (ad.add j) = some u) (h1 : ∀ u ∈ xs, u.oneCell' = true) (hl : ln ≤ 100)
    (hend : ∀ (u : Nat → Value) (ga cpa : Nat) (w : World), w.rowIs p0 28 12 (fun i => if i = 7 then .slice (some ⟨ga, 0, none⟩) (ln + 1) cpa else mV x i) → w.ownsRow base 71 4 (.slice (some ⟨ga, 0, none⟩) (ln + 1) cpa) (ln + 1) (xs ++ [.int .i64 op, .int .i64 nn, .slice A len cap, .slice tA tn tc]) → w.rowIs nb 28 12 (mV x) → BoxC w cb op nn A len cap tA tn tc → Below base W w → W.heap.size ≤ w.heap.size → Q .normal (sel [53, 54, 55, 56, 57, 58, 59, 60] a0 u) w) :
    (Code.region id ops true).wp Tryz.prog Q a0 W := by
  obtain ⟨i0, hi0, hi1, hi2, hi3⟩ := info_parts infoC6
  refine region_res (n := 9) (N := 12) (base := base) [53, 54, 55, 56, 57, 58, 59, 60] dstAE depsA eatsA readsA (fun j => if j = 9 then [nb] else if j = 10 then [cb] else [p0]) (SAE nb p0 op nn A len cap tA tn tc lA ln lc) (RAE base nb cb p0 x op nn A len cap tA tn tc ln xs) hm hsz (by omega) hac hdep hbase ?_ ?_ ?_ ?_ ?_ ?_ ?_ ?_ ?_ ?_ ?_
  · intro i j hi h
    have hall : ∀ i, i < 9 → ∀ j ∈ eatsA i ++ readsA i, (j ∈ depsA i ∨ 9 ≤ j) ∧ j < 12 := by decide +kernel
    exact hall i hi j (List.mem_append.2 h)
  · intro i i' j hi hi' h h'
    have hall : ∀ i, i < 9 → ∀ i', i' < 9 → ∀ j ∈ eatsA i, j ∈ eatsA i' → i = i' := by decide +kernel
    exact hall i hi i' hi' j h h'
  · intro i e j hi he h h'
    have hall : ∀ i, i < 9 → ∀ e, e < 9 → ∀ j ∈ readsA i, j ∈ eatsA e → i ∈ depsA e := by decide +kernel
    exact hall i hi e he j h h'
  · intro i j hi h
    have hall : ∀ i, i < 9 → ∀ j ∈ depsA i, j < i := by decide +kernel
    exact hall i hi j h
  · intro i o ho
    have hi : i < 9 := by rw [← hsz]; exact (Array.getElem?_eq_some_iff.1 ho).1
    rcases lt9A hi with rfl | rfl | rfl | rfl | rfl | rfl | rfl | rfl | rfl
    · obtain ⟨ty, pos, af, e⟩ := o0; rw [ho] at e; obtain rfl := Option.some.inj e; exact .inl ⟨rfl, by decide, by show 53 < _; omega⟩
    · obtain ⟨ty, pos, af, e⟩ := o1; rw [ho] at e; obtain rfl := Option.some.inj e; exact .inl ⟨rfl, by decide, by show 54 < _; omega⟩
    · obtain ⟨ty, pos, af, e⟩ := o2; rw [ho] at e; obtain rfl := Option.some.inj e; exact .inl ⟨rfl, by decide, by show 55 < _; omega⟩
    · obtain ⟨ty, pos, af, e⟩ := o3; rw [ho] at e; obtain rfl := Option.some.inj e; exact .inl ⟨rfl, by decide, by show 56 < _; omega⟩
    · obtain ⟨ty, pos, af, e⟩ := o4; rw [ho] at e; obtain rfl := Option.some.inj e; exact .inl ⟨rfl, by decide, by show 57 < _; omega⟩
    · obtain ⟨ty, pos, af, e⟩ := o5; rw [ho] at e; obtain rfl := Option.some.inj e; exact .inl ⟨rfl, by decide, by show 58 < _; omega⟩
    · obtain ⟨ty, pos, af, e⟩ := o6; rw [ho] at e; obtain rfl := Option.some.inj e; exact .inl ⟨rfl, by decide, by show 59 < _; omega⟩
    · obtain ⟨ty, pos, af, e⟩ := o7; rw [ho] at e; obtain rfl := Option.some.inj e; exact .inl ⟨rfl, by decide, by show 60 < _; omega⟩
    · obtain ⟨ty, pos, af, e⟩ := o8; rw [ho] at e; obtain rfl := Option.some.inj e; exact .inr ⟨rfl, by decide⟩
  · intro i j hi hj h
    have hall : ∀ i, i < 12 → ∀ j, j < 12 → dstAE i = dstAE j → i = j := by decide +kernel
    exact hall i hi j hj h
  · intro j y w w' g hj hr hbw hbw' hk
    rcases lt12A hj with rfl | rfl | rfl | rfl | rfl | rfl | rfl | rfl | rfl | rfl | rfl | rfl
    · obtain ⟨g1, rfl, h, h'⟩ := hr; exact ⟨g1, rfl, h, own_atA h' (fun b hb => hk b (by injection hb with hb; subst hb; simp))⟩
    · exact hr
    · exact hr
    · obtain ⟨g1, cp, rfl, h, h'⟩ := hr; exact ⟨g1, cp, rfl, h, own_atA h' (fun b hb => hk b (by injection hb with hb; subst hb; simp))⟩
    · exact hr
    · obtain ⟨g1, rfl, h, h'⟩ := hr; exact ⟨g1, rfl, h, (hk _ (by simp)).trans h'⟩
    · obtain ⟨g1, cp, rfl, h, h'⟩ := hr; exact ⟨g1, cp, rfl, h, own_atA h' (fun b hb => hk b (by injection hb with hb; subst hb; simp))⟩
    · exact hr
    · obtain ⟨g1, cp, rfl, h, h'⟩ := hr; exact ⟨g1, cp, rfl, h.of_block (hk _ (by simp)), own_atA h' (fun b hb => hk b (by injection hb with hb; subst hb; simp))⟩
    · obtain ⟨rfl, h⟩ := hr; exact ⟨rfl, h.of_block (hk _ (by simp))⟩
    · obtain ⟨rfl, h1, h2, h3, h4⟩ := hr; exact ⟨rfl, (World.cell?_of_block (hk _ (by simp))).trans h1, (World.cell?_of_block (hk _ (by simp))).trans h2, (World.cell?_of_block (hk _ (by simp))).trans h3, (World.cell?_of_block (hk _ (by simp))).trans h4⟩
    · obtain ⟨rfl, h⟩ := hr; exact ⟨rfl, h.of_block (hk _ (by simp))⟩
  · intro j y hj hj2
    have h : j = 9 ∨ j = 10 ∨ j = 11 := by omega
    rcases h with rfl | rfl | rfl
    · exact ⟨trivial, ⟨rfl, hrow⟩, fun b hb => by simp at hb; subst hb; exact hnb⟩
    · exact ⟨trivial, ⟨rfl, hbc⟩, fun b hb => by simp at hb; subst hb; omega⟩
    · exact ⟨trivial, ⟨rfl, hr0⟩, fun b hb => by simp at hb; subst hb; omega⟩
  · intro i j b hi hi2 hj hj2 hne2 hb hb'
    have h : i = 9 ∨ i = 10 ∨ i = 11 := by omega
    have h' : j = 9 ∨ j = 10 ∨ j = 11 := by omega
    rcases h with rfl | rfl | rfl <;> rcases h' with rfl | rfl | rfl <;> simp at hb hb' <;> omega
  · intro i o a w v g K hi ho hs hd hr hdj hbw hWw hK
    have hz : base ≤ w.heap.size := by omega
    have hsz' : ∀ (b i : Nat) (u : Value), (w.setCell ⟨b, i, none⟩ u).heap.size = w.heap.size := fun b i u => by simp [World.setCell]
    rcases lt9A hi with rfl | rfl | rfl | rfl | rfl | rfl | rfl | rfl | rfl
    · obtain ⟨ty, pos, af, e⟩ := o0; rw [ho] at e; obtain rfl := Option.some.inj e
      exact st_none26A (hK _ [w.heap.size] _ trivial ⟨_, rfl, rfl, own_empty (new_at rfl) hz⟩ (hbw.alloc hz _) (by simp) (fun b hb => by simp at hb; subst hb; exact ⟨.inr (Nat.le_refl _), by simp⟩) (fun b hb _ => Below.heap_alloc _ _ _ hb))
    · obtain ⟨ty, pos, af, e⟩ := o1; rw [ho] at e; obtain rfl := Option.some.inj e
      exact st_field3 ((hs 3 (by decide)).trans h3) (hK _ [] _ rfl rfl hbw (Nat.le_refl _) (fun b hb => by simp at hb) (fun b hb _ => rfl))
    · obtain ⟨ty, pos, af, e⟩ := o2; rw [ho] at e; obtain rfl := Option.some.inj e
      obtain ⟨d1, s1⟩ := hd 1 (by simp [depsA])
      have d1 : a.eval (.tmp 54) = v 1 := d1 (by decide)
      obtain ⟨⟨_, hrw⟩, _⟩ := hr 9 (.inr (by simp [readsA]))
      exact st_load26A (d1.trans s1) (mcell_env hrw hx) (hK _ [] _ rfl rfl hbw (Nat.le_refl _) (fun b hb => by simp at hb) (fun b hb _ => rfl))
    · obtain ⟨ty, pos, af, e⟩ := o3; rw [ho] at e; obtain rfl := Option.some.inj e
      obtain ⟨d0, s0⟩ := hd 0 (by simp [depsA])
      have d0 : a.eval (.tmp 53) = v 0 := d0 (by decide)
      obtain ⟨d2, s2⟩ := hd 2 (by simp [depsA])
      have d2 : a.eval (.tmp 55) = v 2 := d2 (by decide)
      obtain ⟨⟨g1, eg, e1, ow⟩, q2⟩ := hr 0 (.inl (by simp [eatsA]))
      obtain ⟨q3, q4⟩ := q2 g1 (by rw [eg]; simp)
      refine wp_append_row (.tmp 53) (.tmp 55) 26 rfl base 71 i0 _ 4 64 Tryz.underlying26 hi0 hi1 hi2 hi3 rfl (by omega) g1 0 0 [] (d0.trans e1) ow lA ln lc xs (d2.trans s2) hlen hnil (fun ad h j u hu => (World.cell?_of_block (by rw [add_blockA]; exact hbw.block _ (hcl ad h j u hu).1)).trans (hcl ad h j u hu).2) h1 (by unfold maxLen; omega) (by omega) hz (fun g' cap' w' ow' hg hor hlt => ?_)
      rw [Nat.zero_add, List.nil_append] at ow'
      rw [Nat.zero_add]
      refine hK _ [g'] w' trivial ⟨g', cap', rfl, rfl, ow'⟩ (hbw.grown hg hz (fun k hk => by injection hk with hk; omega)) hg.size (fun b hb => ?_) (fun b hb hne => hg.block b hb (fun e => by injection e with e; exact hne 0 (by simp [eatsA]) (by rw [eg, e]; simp)))
      simp at hb; subst hb
      refine ⟨?_, hlt⟩
      rcases hor with h | h
      · exact .inl ⟨0, by simp [eatsA], by rw [eg, h]; simp⟩
      · exact .inr (by omega)
    · obtain ⟨ty, pos, af, e⟩ := o4; rw [ho] at e; obtain rfl := Option.some.inj e
      obtain ⟨⟨_, hbx1⟩, _⟩ := hr 10 (.inr (by simp [readsA]))
      exact st_loadC6A ((hs 4 (by decide)).trans h4) hbx1 (hK _ [] _ rfl rfl hbw (Nat.le_refl _) (fun b hb => by simp at hb) (fun b hb _ => rfl))
    · obtain ⟨ty, pos, af, e⟩ := o5; rw [ho] at e; obtain rfl := Option.some.inj e
      obtain ⟨d4, s4⟩ := hd 4 (by simp [depsA])
      have d4 : a.eval (.tmp 57) = v 4 := d4 (by decide)
      exact st_one26A (d4.trans s4) (hK _ [w.heap.size] _ trivial ⟨_, rfl, rfl, new_at rfl⟩ (hbw.alloc hz _) (by simp) (fun b hb => by simp at hb; subst hb; exact ⟨.inr (Nat.le_refl _), by simp⟩) (fun b hb _ => Below.heap_alloc _ _ _ hb))
    · obtain ⟨ty, pos, af, e⟩ := o6; rw [ho] at e; obtain rfl := Option.some.inj e
      obtain ⟨d3, s3⟩ := hd 3 (by simp [depsA])
      have d3 : a.eval (.tmp 56) = v 3 := d3 (by decide)
      obtain ⟨d5, s5⟩ := hd 5 (by simp [depsA])
      have d5 : a.eval (.tmp 58) = v 5 := d5 (by decide)
      obtain ⟨⟨g1, cp1, eg, e1, ow⟩, q2⟩ := hr 3 (.inl (by simp [eatsA]))
      obtain ⟨⟨g5, eg5, e5, hg5⟩, q5⟩ := hr 5 (.inr (by simp [readsA]))
      obtain ⟨q3, q4⟩ := q2 g1 (by rw [eg]; simp)
      refine wp_append_row (.tmp 56) (.tmp 58) 26 rfl base 71 i0 _ 4 64 Tryz.underlying26 hi0 hi1 hi2 hi3 rfl (by omega) g1 ln cp1 xs (d3.trans e1) ow (some ⟨g5, 0, none⟩) 1 1 [.int .i64 op, .int .i64 nn, .slice A len cap, .slice tA tn tc] (d5.trans e5) rfl (fun h => by cases h) (fun ad h j u hu => by
        injection h with h
        subst h
        exact World.news_of_block hg5 j u hu) (by simp [Value.oneCell']) (by unfold maxLen; omega) (by omega) hz (fun g' cap' w' ow' hg hor hlt => ?_)
      refine hK _ [g'] w' trivial ⟨g', cap', rfl, rfl, ow'⟩ (hbw.grown hg hz (fun k hk => by injection hk with hk; omega)) hg.size (fun b hb => ?_) (fun b hb hne => hg.block b hb (fun e => by injection e with e; exact hne 3 (by simp [eatsA]) (by rw [eg, e]; simp)))
      simp at hb; subst hb
      refine ⟨?_, hlt⟩
      rcases hor with h | h
      · exact .inl ⟨3, by simp [eatsA], by rw [eg, h]; simp⟩
      · exact .inr (by omega)
    · obtain ⟨ty, pos, af, e⟩ := o7; rw [ho] at e; obtain rfl := Option.some.inj e
      exact st_field3 ((hs 7 (by decide)).trans h7) (hK _ [] _ rfl rfl hbw (Nat.le_refl _) (fun b hb => by simp at hb) (fun b hb _ => rfl))
    · obtain ⟨ty, pos, af, e⟩ := o8; rw [ho] at e; obtain rfl := Option.some.inj e
      obtain ⟨d9, s9⟩ := hd 7 (by simp [depsA])
      have d9 : a.eval (.tmp 60) = v 7 := d9 (by decide)
      obtain ⟨d6, s6⟩ := hd 6 (by simp [depsA])
      have d6 : a.eval (.tmp 59) = v 6 := d6 (by decide)
      obtain ⟨⟨g1, cp, eg, e1, ow⟩, q2⟩ := hr 6 (.inl (by simp [eatsA]))
      obtain ⟨⟨er, hrw⟩, q5⟩ := hr 11 (.inl (by simp [eatsA]))
      have hne : g1 ≠ p0 := fun h => by
        have := hdj 6 11 g1 (.inl (by simp [eatsA])) (.inl (by simp [eatsA])) (by omega) (by rw [eg]; simp)
        rw [er, h] at this
        exact this (by simp)
      obtain ⟨q6, q7⟩ := q5 p0 (by rw [er]; simp)
      refine st_store26 (b := p0) (i := 7) (f := mV x) (d9.trans s9) (d6.trans e1) hrw (by omega) (hK undef [p0, g1] _ trivial ⟨g1, cp, rfl, hrw.set 7 _, own_atA ow (fun b hb => Below.heap_setCell _ _ _ _ (by injection hb with hb; subst hb; exact hne))⟩ (hbw.setCell (by exact q6) _) (Nat.le_of_eq (hsz' _ _ _).symm) (fun b hb => ?_) (fun b hb hne => Below.heap_setCell _ _ _ _ (by show b ≠ p0; exact fun h => hne 11 (by simp [eatsA]) (by rw [er, h]; simp))))
      rw [hsz']
      rcases List.mem_cons.1 hb with rfl | hb
      · exact ⟨.inl ⟨11, by simp [eatsA], by rw [er]; simp⟩, q7⟩
      · exact ⟨.inl ⟨6, by simp [eatsA], by rw [eg]; exact hb⟩, (q2 b (by rw [eg]; exact hb)).2⟩
  · intro u g w hS hR hD hbw hWw
    have hall : ∀ j ∈ [8, 9, 10], ∀ e, e < 9 → j ∉ eatsA e := by decide +kernel
    have hnf : ∀ j, j ∈ [8, 9, 10] → ∀ e, e < 9 → j ∉ eatsA e := fun j hj e he => hall j hj e he
    obtain ⟨⟨ga, cpa, e1, hrow0, ow⟩, _⟩ := hR 8 (by omega) (hnf _ (by simp))
    exact hend u ga cpa w hrow0 ow (hR 9 (by omega) (hnf _ (by simp))).1.2 (hR 10 (by omega) (hnf _ (by simp))).1.2 hbw hWw
def dstAS : Nat → Nat
  | 0 => 61
  | 1 => 62
  | 2 => 63
  | 3 => 64
  | 4 => 65
  | 5 => 66
  | 6 => 67
  | 7 => 68
  | 8 => 1008
  | k + 9 => 1009 + k
def SAS (nb p0 : Nat) (op nn : Int) (A : Option Addr) (len cap : Nat) (tA : Option Addr) (tn tc : Nat) (lA : Option Addr) (ln lc : Nat) : Nat → Value → Prop
  | 1, v => v = .pointer (some ⟨nb, 8, none⟩)
  | 2, v => v = .slice lA ln lc
  | 4, v => v = .agg #[.int .i64 op, .int .i64 nn, .slice A len cap, .slice tA tn tc]
  | 7, v => v = .pointer (some ⟨p0, 8, none⟩)
  | _, _ => True
def RAS (base nb cb p0 : Nat) (x : M8) (op nn : Int) (A : Option Addr) (len cap : Nat) (tA : Option Addr) (tn tc : Nat) (ln : Nat) (xs : List Value) : Nat → Value → World → List Nat → Prop
  | 0, v, w, gi => ∃ g, gi = [g] ∧ v = .slice (some ⟨g, 0, none⟩) 0 0 ∧ w.ownsRow base 71 4 (.slice (some ⟨g, 0, none⟩) 0 0) 0 []
  | 3, v, w, gi => ∃ g cp, gi = [g] ∧ v = .slice (some ⟨g, 0, none⟩) ln cp ∧ w.ownsRow base 71 4 (.slice (some ⟨g, 0, none⟩) ln cp) ln xs
  | 5, v, w, gi => ∃ g, gi = [g] ∧ v = .slice (some ⟨g, 0, none⟩) 1 1 ∧ w.heap[g]? = some (.cells #[.int .i64 op, .int .i64 nn, .slice A len cap, .slice tA tn tc] 71 (0, 0))
  | 6, v, w, gi => ∃ g cp, gi = [g] ∧ v = .slice (some ⟨g, 0, none⟩) (ln + 1) cp ∧ w.ownsRow base 71 4 (.slice (some ⟨g, 0, none⟩) (ln + 1) cp) (ln + 1) (xs ++ [.int .i64 op, .int .i64 nn, .slice A len cap, .slice tA tn tc])
  | 8, _, w, gi => ∃ g cp, gi = [p0, g] ∧ w.rowIs p0 28 12 (fun i => if i = 8 then .slice (some ⟨g, 0, none⟩) (ln + 1) cp else mV x i) ∧ w.ownsRow base 71 4 (.slice (some ⟨g, 0, none⟩) (ln + 1) cp) (ln + 1) (xs ++ [.int .i64 op, .int .i64 nn, .slice A len cap, .slice tA tn tc])
  | 9, _, w, gi => gi = [nb] ∧ w.rowIs nb 28 12 (mV x)
  | 10, _, w, gi => gi = [cb] ∧ BoxC w cb op nn A len cap tA tn tc
  | 11, _, w, gi => gi = [p0] ∧ w.rowIs p0 28 12 (mV x)
  | _, _, _, gi => gi = []
set_option maxHeartbeats 4000000 in
theorem amore_regionS {id nb cb p0 base ln lc : Nat} {ops : Array Oper} {Q : Exit → Act → World → Prop} {a0 : Act} {W : World} {x : M8} {op nn : Int} {A : Option Addr} {len cap : Nat} {tA : Option Addr} {tn tc : Nat} {lA : Option Addr} {xs : List Value}
    (hm : Tryz.prog.follows .mixedOrders = true) (hsz : ops.size = 9) (hac : ownAc ops = true) (hdep : ownDeps ops depsA = true)
    (o0 : ∃ ty pos af, ops[0]? = some ⟨some 61, .buildSlice 26 0 #[], ty, pos, af, none⟩)
    (o1 : ∃ ty pos af, ops[1]? = some ⟨some 62, .fieldAddr 28 (.tmp 3) 4, ty, pos, af, none⟩)
    (o2 : ∃ ty pos af, ops[2]? = some ⟨some 63, .load 26 (.tmp 62), ty, pos, af, none⟩)
    (o3 : ∃ ty pos af, ops[3]? = some ⟨some 64, .call { callee := .builtin .append, args := #[.tmp 61, .tmp 63], argTypes := #[26, 26] }, ty, pos, af, none⟩)
    (o4 : ∃ ty pos af, ops[4]? = some ⟨some 65, .load 71 (.tmp 4), ty, pos, af, none⟩)
    (o5 : ∃ ty pos af, ops[5]? = some ⟨some 66, .buildSlice 26 1 #[(0, .tmp 65)], ty, pos, af, none⟩)
    (o6 : ∃ ty pos af, ops[6]? = some ⟨some 67, .call { callee := .builtin .append, args := #[.tmp 64, .tmp 66], argTypes := #[26, 26] }, ty, pos, af, none⟩)
    (o7 : ∃ ty pos af, ops[7]? = some ⟨some 68, .fieldAddr 28 (.tmp 7) 4, ty, pos, af, none⟩)
    (o8 : ∃ ty pos af, ops[8]? = some ⟨none, .store 26 (.tmp 68) (.tmp 67), ty, pos, af, none⟩)
    (hts : 69 ≤ a0.tmps.size) (h3 : a0.eval (.tmp 3) = .pointer (some ⟨nb, 0, none⟩)) (h4 : a0.eval (.tmp 4) = .pointer (some ⟨cb, 0, none⟩)) (h7 : a0.eval (.tmp 7) = .pointer (some ⟨p0, 0, none⟩))
    (hx : x.sys = ⟨lA, ln, lc⟩) (hbc : BoxC W cb op nn A len cap tA tn tc) (hrow : W.rowIs nb 28 12 (mV x)) (hr0 : W.rowIs p0 28 12 (mV x)) (hnb : base ≤ nb ∧ nb < W.heap.size) (hcb : nb < cb ∧ cb < W.heap.size) (hp0 : cb < p0 ∧ p0 < W.heap.size) (hbase : base ≤ W.heap.size)
    (hlen : xs.length = ln * 4) (hnil : lA = none → ln = 0 ∧ lc = 0) (hcl : ∀ ad, lA = some ad → ∀ (j : Nat) u, xs[j]? = some u → ad.block < base ∧ W.cell? (ad.add j) = some u) (h1 : ∀ u ∈ xs, u.oneCell' = true) (hl : ln ≤ 100)
    (hend : ∀ (u : Nat → Value) (ga cpa : Nat) (w : World), w.rowIs p0 28 12 (fun i => if i = 8 then .slice (some ⟨ga, 0, none⟩) (ln + 1) cpa else mV x i) → w.ownsRow base 71 4 (.slice (some ⟨ga, 0, none⟩) (ln + 1) cpa) (ln + 1) (xs ++ [.int .i64 op, .int .i64 nn, .slice A len cap, .slice tA tn tc]) → w.rowIs nb 28 12 (mV x) → BoxC w cb op nn A len cap tA tn tc → Below base W w → W.heap.size ≤ w.heap.size → Q .normal (sel [61, 62, 63, 64, 65, 66, 67, 68] a0 u) w) :
    (Code.region id ops true).wp Tryz.prog Q a0 W := by
  obtain ⟨i0, hi0, hi1, hi2, hi3⟩ := info_parts infoC6
  refine region_res (n := 9) (N := 12) (base := base) [61, 62, 63, 64, 65, 66, 67, 68] dstAS depsA eatsA readsA (fun j => if j = 9 then [nb] else if j = 10 then [cb] else [p0]) (SAS nb p0 op nn A len cap tA tn tc lA ln lc) (RAS base nb cb p0 x op nn A len cap tA tn tc ln xs) hm hsz (by omega) hac hdep hbase ?_ ?_ ?_ ?_ ?_ ?_ ?_ ?_ ?_ ?_ ?_
  · intro i j hi h
    have hall : ∀ i, i < 9 → ∀ j ∈ eatsA i ++ readsA i, (j ∈ depsA i ∨ 9 ≤ j) ∧ j < 12 := by decide +kernel
    exact hall i hi j (List.mem_append.2 h)
  · intro i i' j hi hi' h h'
    have hall : ∀ i, i < 9 → ∀ i', i' < 9 → ∀ j ∈ eatsA i, j ∈ eatsA i' → i = i' := by decide +kernel
    exact hall i hi i' hi' j h h'
  · intro i e j hi he h h'
    have hall : ∀ i, i < 9 → ∀ e, e < 9 → ∀ j ∈ readsA i, j ∈ eatsA e → i ∈ depsA e := by decide +kernel
    exact hall i hi e he j h h'
  · intro i j hi h
    have hall : ∀ i, i < 9 → ∀ j ∈ depsA i, j < i := by decide +kernel
    exact hall i hi j h
  · intro i o ho
    have hi : i < 9 := by rw [← hsz]; exact (Array.getElem?_eq_some_iff.1 ho).1
    rcases lt9A hi with rfl | rfl | rfl | rfl | rfl | rfl | rfl | rfl | rfl
    · obtain ⟨ty, pos, af, e⟩ := o0; rw [ho] at e; obtain rfl := Option.some.inj e; exact .inl ⟨rfl, by decide, by show 61 < _; omega⟩
    · obtain ⟨ty, pos, af, e⟩ := o1; rw [ho] at e; obtain rfl := Option.some.inj e; exact .inl ⟨rfl, by decide, by show 62 < _; omega⟩
    · obtain ⟨ty, pos, af, e⟩ := o2; rw [ho] at e; obtain rfl := Option.some.inj e; exact .inl ⟨rfl, by decide, by show 63 < _; omega⟩
    · obtain ⟨ty, pos, af, e⟩ := o3; rw [ho] at e; obtain rfl := Option.some.inj e; exact .inl ⟨rfl, by decide, by show 64 < _; omega⟩
    · obtain ⟨ty, pos, af, e⟩ := o4; rw [ho] at e; obtain rfl := Option.some.inj e; exact .inl ⟨rfl, by decide, by show 65 < _; omega⟩
    · obtain ⟨ty, pos, af, e⟩ := o5; rw [ho] at e; obtain rfl := Option.some.inj e; exact .inl ⟨rfl, by decide, by show 66 < _; omega⟩
    · obtain ⟨ty, pos, af, e⟩ := o6; rw [ho] at e; obtain rfl := Option.some.inj e; exact .inl ⟨rfl, by decide, by show 67 < _; omega⟩
    · obtain ⟨ty, pos, af, e⟩ := o7; rw [ho] at e; obtain rfl := Option.some.inj e; exact .inl ⟨rfl, by decide, by show 68 < _; omega⟩
    · obtain ⟨ty, pos, af, e⟩ := o8; rw [ho] at e; obtain rfl := Option.some.inj e; exact .inr ⟨rfl, by decide⟩
  · intro i j hi hj h
    have hall : ∀ i, i < 12 → ∀ j, j < 12 → dstAS i = dstAS j → i = j := by decide +kernel
    exact hall i hi j hj h
  · intro j y w w' g hj hr hbw hbw' hk
    rcases lt12A hj with rfl | rfl | rfl | rfl | rfl | rfl | rfl | rfl | rfl | rfl | rfl | rfl
    · obtain ⟨g1, rfl, h, h'⟩ := hr; exact ⟨g1, rfl, h, own_atA h' (fun b hb => hk b (by injection hb with hb; subst hb; simp))⟩
    · exact hr
    · exact hr
    · obtain ⟨g1, cp, rfl, h, h'⟩ := hr; exact ⟨g1, cp, rfl, h, own_atA h' (fun b hb => hk b (by injection hb with hb; subst hb; simp))⟩
    · exact hr
    · obtain ⟨g1, rfl, h, h'⟩ := hr; exact ⟨g1, rfl, h, (hk _ (by simp)).trans h'⟩
    · obtain ⟨g1, cp, rfl, h, h'⟩ := hr; exact ⟨g1, cp, rfl, h, own_atA h' (fun b hb => hk b (by injection hb with hb; subst hb; simp))⟩
    · exact hr
    · obtain ⟨g1, cp, rfl, h, h'⟩ := hr; exact ⟨g1, cp, rfl, h.of_block (hk _ (by simp)), own_atA h' (fun b hb => hk b (by injection hb with hb; subst hb; simp))⟩
    · obtain ⟨rfl, h⟩ := hr; exact ⟨rfl, h.of_block (hk _ (by simp))⟩
    · obtain ⟨rfl, h1, h2, h3, h4⟩ := hr; exact ⟨rfl, (World.cell?_of_block (hk _ (by simp))).trans h1, (World.cell?_of_block (hk _ (by simp))).trans h2, (World.cell?_of_block (hk _ (by simp))).trans h3, (World.cell?_of_block (hk _ (by simp))).trans h4⟩
    · obtain ⟨rfl, h⟩ := hr; exact ⟨rfl, h.of_block (hk _ (by simp))⟩
  · intro j y hj hj2
    have h : j = 9 ∨ j = 10 ∨ j = 11 := by omega
    rcases h with rfl | rfl | rfl
    · exact ⟨trivial, ⟨rfl, hrow⟩, fun b hb => by simp at hb; subst hb; exact hnb⟩
    · exact ⟨trivial, ⟨rfl, hbc⟩, fun b hb => by simp at hb; subst hb; omega⟩
    · exact ⟨trivial, ⟨rfl, hr0⟩, fun b hb => by simp at hb; subst hb; omega⟩
  · intro i j b hi hi2 hj hj2 hne2 hb hb'
    have h : i = 9 ∨ i = 10 ∨ i = 11 := by omega
    have h' : j = 9 ∨ j = 10 ∨ j = 11 := by omega
    rcases h with rfl | rfl | rfl <;> rcases h' with rfl | rfl | rfl <;> simp at hb hb' <;> omega
  · intro i o a w v g K hi ho hs hd hr hdj hbw hWw hK
    have hz : base ≤ w.heap.size := by omega
    have hsz' : ∀ (b i : Nat) (u : Value), (w.setCell ⟨b, i, none⟩ u).heap.size = w.heap.size := fun b i u => by simp [World.setCell]
    rcases lt9A hi with rfl | rfl | rfl | rfl | rfl | rfl | rfl | rfl | rfl
    · obtain ⟨ty, pos, af, e⟩ := o0; rw [ho] at e; obtain rfl := Option.some.inj e
      exact st_none26A (hK _ [w.heap.size] _ trivial ⟨_, rfl, rfl, own_empty (new_at rfl) hz⟩ (hbw.alloc hz _) (by simp) (fun b hb => by simp at hb; subst hb; exact ⟨.inr (Nat.le_refl _), by simp⟩) (fun b hb _ => Below.heap_alloc _ _ _ hb))
    · obtain ⟨ty, pos, af, e⟩ := o1; rw [ho] at e; obtain rfl := Option.some.inj e
      exact st_field4 ((hs 3 (by decide)).trans h3) (hK _ [] _ rfl rfl hbw (Nat.le_refl _) (fun b hb => by simp at hb) (fun b hb _ => rfl))
    · obtain ⟨ty, pos, af, e⟩ := o2; rw [ho] at e; obtain rfl := Option.some.inj e
      obtain ⟨d1, s1⟩ := hd 1 (by simp [depsA])
      have d1 : a.eval (.tmp 62) = v 1 := d1 (by decide)
      obtain ⟨⟨_, hrw⟩, _⟩ := hr 9 (.inr (by simp [readsA]))
      exact st_load26A (d1.trans s1) (mcell_sys hrw hx) (hK _ [] _ rfl rfl hbw (Nat.le_refl _) (fun b hb => by simp at hb) (fun b hb _ => rfl))
    · obtain ⟨ty, pos, af, e⟩ := o3; rw [ho] at e; obtain rfl := Option.some.inj e
      obtain ⟨d0, s0⟩ := hd 0 (by simp [depsA])
      have d0 : a.eval (.tmp 61) = v 0 := d0 (by decide)
      obtain ⟨d2, s2⟩ := hd 2 (by simp [depsA])
      have d2 : a.eval (.tmp 63) = v 2 := d2 (by decide)
      obtain ⟨⟨g1, eg, e1, ow⟩, q2⟩ := hr 0 (.inl (by simp [eatsA]))
      obtain ⟨q3, q4⟩ := q2 g1 (by rw [eg]; simp)
      refine wp_append_row (.tmp 61) (.tmp 63) 26 rfl base 71 i0 _ 4 64 Tryz.underlying26 hi0 hi1 hi2 hi3 rfl (by omega) g1 0 0 [] (d0.trans e1) ow lA ln lc xs (d2.trans s2) hlen hnil (fun ad h j u hu => (World.cell?_of_block (by rw [add_blockA]; exact hbw.block _ (hcl ad h j u hu).1)).trans (hcl ad h j u hu).2) h1 (by unfold maxLen; omega) (by omega) hz (fun g' cap' w' ow' hg hor hlt => ?_)
      rw [Nat.zero_add, List.nil_append] at ow'
      rw [Nat.zero_add]
      refine hK _ [g'] w' trivial ⟨g', cap', rfl, rfl, ow'⟩ (hbw.grown hg hz (fun k hk => by injection hk with hk; omega)) hg.size (fun b hb => ?_) (fun b hb hne => hg.block b hb (fun e => by injection e with e; exact hne 0 (by simp [eatsA]) (by rw [eg, e]; simp)))
      simp at hb; subst hb
      refine ⟨?_, hlt⟩
      rcases hor with h | h
      · exact .inl ⟨0, by simp [eatsA], by rw [eg, h]; simp⟩
      · exact .inr (by omega)
    · obtain ⟨ty, pos, af, e⟩ := o4; rw [ho] at e; obtain rfl := Option.some.inj e
      obtain ⟨⟨_, hbx1⟩, _⟩ := hr 10 (.inr (by simp [readsA]))
      exact st_loadC6A ((hs 4 (by decide)).trans h4) hbx1 (hK _ [] _ rfl rfl hbw (Nat.le_refl _) (fun b hb => by simp at hb) (fun b hb _ => rfl))
    · obtain ⟨ty, pos, af, e⟩ := o5; rw [ho] at e; obtain rfl := Option.some.inj e
      obtain ⟨d4, s4⟩ := hd 4 (by simp [depsA])
      have d4 : a.eval (.tmp 65) = v 4 := d4 (by decide)
      exact st_one26A (d4.trans s4) (hK _ [w.heap.size] _ trivial ⟨_, rfl, rfl, new_at rfl⟩ (hbw.alloc hz _) (by simp) (fun b hb => by simp at hb; subst hb; exact ⟨.inr (Nat.le_refl _), by simp⟩) (fun b hb _ => Below.heap_alloc _ _ _ hb))
    · obtain ⟨ty, pos, af, e⟩ := o6; rw [ho] at e; obtain rfl := Option.some.inj e
      obtain ⟨d3, s3⟩ := hd 3 (by simp [depsA])
      have d3 : a.eval (.tmp 64) = v 3 := d3 (by decide)
      obtain ⟨d5, s5⟩ := hd 5 (by simp [depsA])
      have d5 : a.eval (.tmp 66) = v 5 := d5 (by decide)
      obtain ⟨⟨g1, cp1, eg, e1, ow⟩, q2⟩ := hr 3 (.inl (by simp [eatsA]))
      obtain ⟨⟨g5, eg5, e5, hg5⟩, q5⟩ := hr 5 (.inr (by simp [readsA]))
      obtain ⟨q3, q4⟩ := q2 g1 (by rw [eg]; simp)
      refine wp_append_row (.tmp 64) (.tmp 66) 26 rfl base 71 i0 _ 4 64 Tryz.underlying26 hi0 hi1 hi2 hi3 rfl (by omega) g1 ln cp1 xs (d3.trans e1) ow (some ⟨g5, 0, none⟩) 1 1 [.int .i64 op, .int .i64 nn, .slice A len cap, .slice tA tn tc] (d5.trans e5) rfl (fun h => by cases h) (fun ad h j u hu => by
        injection h with h
        subst h
        exact World.news_of_block hg5 j u hu) (by simp [Value.oneCell']) (by unfold maxLen; omega) (by omega) hz (fun g' cap' w' ow' hg hor hlt => ?_)
      refine hK _ [g'] w' trivial ⟨g', cap', rfl, rfl, ow'⟩ (hbw.grown hg hz (fun k hk => by injection hk with hk; omega)) hg.size (fun b hb => ?_) (fun b hb hne => hg.block b hb (fun e => by injection e with e; exact hne 3 (by simp [eatsA]) (by rw [eg, e]; simp)))
      simp at hb; subst hb
      refine ⟨?_, hlt⟩
      rcases hor with h | h
      · exact .inl ⟨3, by simp [eatsA], by rw [eg, h]; simp⟩
      · exact .inr (by omega)
    · obtain ⟨ty, pos, af, e⟩ := o7; rw [ho] at e; obtain rfl := Option.some.inj e
      exact st_field4 ((hs 7 (by decide)).trans h7) (hK _ [] _ rfl rfl hbw (Nat.le_refl _) (fun b hb => by simp at hb) (fun b hb _ => rfl))
    · obtain ⟨ty, pos, af, e⟩ := o8; rw [ho] at e; obtain rfl := Option.some.inj e
      obtain ⟨d9, s9⟩ := hd 7 (by simp [depsA])
      have d9 : a.eval (.tmp 68) = v 7 := d9 (by decide)
      obtain ⟨d6, s6⟩ := hd 6 (by simp [depsA])
      have d6 : a.eval (.tmp 67) = v 6 := d6 (by decide)
      obtain ⟨⟨g1, cp, eg, e1, ow⟩, q2⟩ := hr 6 (.inl (by simp [eatsA]))
      obtain ⟨⟨er, hrw⟩, q5⟩ := hr 11 (.inl (by simp [eatsA]))
      have hne : g1 ≠ p0 := fun h => by
        have := hdj 6 11 g1 (.inl (by simp [eatsA])) (.inl (by simp [eatsA])) (by omega) (by rw [eg]; simp)
        rw [er, h] at this
        exact this (by simp)
      obtain ⟨q6, q7⟩ := q5 p0 (by rw [er]; simp)
      refine st_store26 (b := p0) (i := 8) (f := mV x) (d9.trans s9) (d6.trans e1) hrw (by omega) (hK undef [p0, g1] _ trivial ⟨g1, cp, rfl, hrw.set 8 _, own_atA ow (fun b hb => Below.heap_setCell _ _ _ _ (by injection hb with hb; subst hb; exact hne))⟩ (hbw.setCell (by exact q6) _) (Nat.le_of_eq (hsz' _ _ _).symm) (fun b hb => ?_) (fun b hb hne => Below.heap_setCell _ _ _ _ (by show b ≠ p0; exact fun h => hne 11 (by simp [eatsA]) (by rw [er, h]; simp))))
      rw [hsz']
      rcases List.mem_cons.1 hb with rfl | hb
      · exact ⟨.inl ⟨11, by simp [eatsA], by rw [er]; simp⟩, q7⟩
      · exact ⟨.inl ⟨6, by simp [eatsA], by rw [eg]; exact hb⟩, (q2 b (by rw [eg]; exact hb)).2⟩
  · intro u g w hS hR hD hbw hWw
    have hall : ∀ j ∈ [8, 9, 10], ∀ e, e < 9 → j ∉ eatsA e := by decide +kernel
    have hnf : ∀ j, j ∈ [8, 9, 10] → ∀ e, e < 9 → j ∉ eatsA e := fun j hj e he => hall j hj e he
    obtain ⟨⟨ga, cpa, e1, hrow0, ow⟩, _⟩ := hR 8 (by omega) (hnf _ (by simp))
    exact hend u ga cpa w hrow0 ow (hR 9 (by omega) (hnf _ (by simp))).1.2 (hR 10 (by omega) (hnf _ (by simp))).1.2 hbw hWw
end Go.Proofs.YtbppdalfcldodaaGreat
