/- A region that draws its order, with calls, guarded operations and new memory, and no store: each result is what a fact says of it, in whatever order they come up. -/
import Derived.Test.YtbppdalfcldodaaGreatMRes
namespace Go.Proofs.YtbppdalfcldodaaGreat
open Go.RowKit Ex
set_option linter.unusedSimpArgs false
set_option linter.unusedVariables false

def growAc (ops : Array Oper) (deps : Nat → List Nat) : Bool := (List.range ops.size).all (fun j => match ops[j]? with
  | some o => o.after.all (fun e => !(Region.binds .any e) || decide (e.on < j)) && (match o.guard with
    | some (g, _) => decide (g ∈ deps j)
    | none => true)
  | none => true)
theorem growAc_spec {ops : Array Oper} {deps : Nat → List Nat} (h : growAc ops deps = true) : ∀ (j : Nat) (o : Oper), ops[j]? = some o → (∀ e ∈ o.after, Region.binds .any e = true → e.on < j) ∧ (∀ g b, o.guard = some (g, b) → g ∈ deps j) := fun j o ho => by
  unfold growAc at h
  rw [List.all_eq_true] at h
  have hj : j < ops.size := (Array.getElem?_eq_some_iff.1 ho).1
  have := h j (List.mem_range.2 hj)
  rw [ho] at this
  simp only [Bool.and_eq_true] at this
  refine ⟨fun e he hb => ?_, fun g b hg => ?_⟩
  · have h2 := Array.all_eq_true'.1 this.1 e he
    simp [hb] at h2
    exact h2
  · have h2 := this.2
    rw [hg] at h2
    simpa using h2
theorem region_grow {id n : Nat} {ops : Array Oper} {Q : Exit → Act → World → Prop} {a0 : Act} {W : World} (σ : List Nat) (dst : Nat → Nat) (deps : Nat → List Nat) (S : Nat → Value → World → Prop)
    (hm : Tryz.prog.follows .mixedOrders = true) (hsz : ops.size = n) (hac : growAc ops deps = true) (hdep : ownDeps ops deps = true)
    (hdst : ∀ i o, ops[i]? = some o → o.dst = some (dst i) ∧ dst i ∈ σ ∧ dst i < a0.tmps.size)
    (hinj : ∀ i j, i < n → j < n → dst i = dst j → i = j)
    (hS : ∀ j x w w', j < n → S j x w → Below W.heap.size W w → W.heap.size ≤ w.heap.size → Below w.heap.size w w' → S j x w')
    (hskip : ∀ i o g b x w, ops[i]? = some o → o.guard = some (g, b) → S g x w → x ≠ .bool b → S i undef w)
    (hstep : ∀ i o (a : Act) (w : World) (v : Nat → Value) (K : Act → World → Prop), i < n → ops[i]? = some o →
      (∀ s, s ∉ σ → a.eval (.tmp s) = a0.eval (.tmp s)) →
      (∀ j ∈ deps i, a.eval (.tmp (dst j)) = v j ∧ S j (v j) w) →
      (∀ g b, o.guard = some (g, b) → v g = .bool b ∧ S g (v g) w) →
      Below W.heap.size W w → W.heap.size ≤ w.heap.size →
      (∀ x w', S i x w' → Below w.heap.size w w' → K (a.put (some (dst i)) x) w') →
      Oper.wp Tryz.prog o a w K Q)
    (hend : ∀ (u : Nat → Value) (w : World), (∀ j, j < n → S j (u (dst j)) w) → Below W.heap.size W w → W.heap.size ≤ w.heap.size → Q .normal (sel σ a0 u) w) :
    (Code.region id ops true).wp Tryz.prog Q a0 W := by
  have hac1 : ∀ (j : Nat) (o : Oper), ops[j]? = some o → ∀ e ∈ o.after, Region.binds .any e = true → e.on < j := fun j o ho => (growAc_spec hac j o ho).1
  have hdp := ownDeps_spec hdep
  refine wp_region_any hm (wpAny_inv (I := fun listed a w => Below W.heap.size W w ∧ W.heap.size ≤ w.heap.size ∧ ∃ u : Nat → Value, a = sel σ a0 u ∧ ∀ j, j < n → listed.getD j false = true → S j (u (dst j)) w) ?_ ?_ _ _ _ _ (by simp) (by rw [Array.countP_replicate]; simp) ?_)
  · rintro listed a w i hs ⟨hbw, hWw, u, rfl, h1⟩ hi
    obtain ⟨hl0, o, ho, hd⟩ := mem_ready.1 hi
    have hio : i < ops.size := (Array.getElem?_eq_some_iff.1 ho).1
    have hin : i < n := by omega
    have hilt : i < listed.size := by omega
    have hdl : ∀ j ∈ deps i, listed.getD j false = true ∧ j < n := fun j hj => by
      obtain ⟨e, he, rfl, hb⟩ := hdp i o ho j hj
      exact ⟨hd e he hb, by have := hac1 i o ho e he hb; omega⟩
    have hset : ∀ k, k ≠ i → (listed.setIfInBounds i true).getD k false = listed.getD k false := fun k hk => by
      have hk' : ¬ i = k := fun e => hk e.symm
      by_cases hks : k < listed.size
      · simp [Array.getD, hks, Array.getElem_setIfInBounds, hk']
      · simp [Array.getD, hks]
    have hval : ∀ j, j < n → (sel σ a0 u).eval (.tmp (dst j)) = u (dst j) := fun j hj => by
      have hoj := Array.getElem?_eq_getElem (xs := ops) (i := j) (by omega)
      obtain ⟨_, q1, q2⟩ := hdst j _ hoj
      exact sel_in q1 q2
    have hyd : ∀ j b, j < n → (yielded ops (sel σ a0 u).tmps j = some b ↔ u (dst j) = .bool b) := fun j b hj => by
      have hoj := Array.getElem?_eq_getElem (xs := ops) (i := j) (by omega)
      obtain ⟨q0, q1, q2⟩ := hdst j _ hoj
      have e : (sel σ a0 u).tmps[dst j]? = some (u (dst j)) := by
        unfold sel
        rw [Array.getElem?_mapIdx, Array.getElem?_eq_getElem q2]
        simp [q1]
      have e2 : ((ops[j]?).bind (·.dst)).bind ((sel σ a0 u).tmps[·]?) = some (u (dst j)) := by
        rw [hoj]; simp only [Option.bind_some, q0]; exact e
      unfold yielded
      rw [e2]
      cases u (dst j) <;> simp
    obtain ⟨hd0, hd1, hd2⟩ := hdst i o ho
    have hgl : ∀ g b, o.guard = some (g, b) → g < n ∧ S g (u (dst g)) w := fun g b hg => by
      have := hdl g ((growAc_spec hac i o ho).2 g b hg)
      exact ⟨this.2, h1 g this.2 this.1⟩
    have fin : ∀ x w', S i x w' → Below w.heap.size w w' → Below W.heap.size W w' ∧ W.heap.size ≤ w'.heap.size ∧ ∃ u' : Nat → Value, (sel σ a0 u).put (some (dst i)) x = sel σ a0 u' ∧ ∀ j, j < n → (listed.setIfInBounds i true).getD j false = true → S j (u' (dst j)) w' := fun x w' hx hb => by
      have hsz' := hb.size
      refine ⟨hbw.trans (hb.mono hWw), by omega, fun k => if k = dst i then x else u k, sel_put _ hd1, fun j hj hl => ?_⟩
      by_cases e : j = i
      · subst e; simpa using hx
      · show S j (if dst j = dst i then x else u (dst j)) w'
        rw [if_neg (fun h => e (hinj j i hj hin h))]
        rw [hset j e] at hl
        exact hS j _ w w' hj (h1 j hj hl) hbw hWw hb
    unfold wpOp
    rw [ho]
    simp only []
    split
    · rename_i hw
      refine .inl (hstep i o _ w (fun j => u (dst j)) _ hin ho (fun s hs => sel_out hs) (fun j hj => ⟨hval j (hdl j hj).2, h1 j (hdl j hj).2 (hdl j hj).1⟩) (fun g b hg => ⟨?_, (hgl g b hg).2⟩) hbw hWw fin)
      unfold Region.wanted at hw
      rw [hg] at hw
      exact (hyd g b (hgl g b hg).1).1 (by simpa using hw)
    · rename_i hw
      rw [hd0]
      refine fin undef w ?_ (Below.refl _ _)
      cases hg : o.guard with
      | none => exact absurd (by unfold Region.wanted; rw [hg]) hw
      | some gb =>
        obtain ⟨g, b⟩ := gb
        exact hskip i o g b (u (dst g)) w ho hg (hgl g b hg).2 (fun e => hw (by
          unfold Region.wanted
          rw [hg]
          simp only
          rw [(hyd g b (hgl g b hg).1).2 e]
          simp))
  · rintro listed a w hs h0 ⟨hbw, hWw, u, rfl, h1⟩
    have hall := ready_allB hac1 hs h0
    exact hend u w (fun j hj => h1 j hj (hall j (by omega))) hbw hWw
  · exact ⟨⟨rfl, rfl, rfl, Nat.le_refl _, fun _ _ => rfl⟩, Nat.le_refl _, fun j => a0.tmps.getD j undef, (sel_self a0 σ).symm, fun j _ h => by simp [Array.getD] at h⟩
end Go.Proofs.YtbppdalfcldodaaGreat
