/- A region that draws its order and lays memory: each operation's result is held by a fact about a block of its own; whatever the order, at the end all facts hold that no later operation has used up. -/
import Derived.Test.YtbppdalfcldodaaGreatGSm
namespace Go.Proofs.YtbppdalfcldodaaGreat
open Go.RowKit Ex
set_option linter.unusedSimpArgs false
set_option linter.unusedVariables false

def ownAc (ops : Array Oper) : Bool := (List.range ops.size).all (fun j => match ops[j]? with
  | some o => o.after.all (fun e => !(Region.binds .any e) || decide (e.on < j)) && o.guard.isNone
  | none => true)
theorem ownAc_spec {ops : Array Oper} (h : ownAc ops = true) : ∀ (j : Nat) (o : Oper), ops[j]? = some o → (∀ e ∈ o.after, Region.binds .any e = true → e.on < j) ∧ o.guard = none := fun j o ho => by
  unfold ownAc at h
  rw [List.all_eq_true] at h
  have hj : j < ops.size := (Array.getElem?_eq_some_iff.1 ho).1
  have := h j (List.mem_range.2 hj)
  rw [ho] at this
  simp only [Bool.and_eq_true] at this
  refine ⟨fun e he hb => ?_, by simpa using this.2⟩
  have h2 := Array.all_eq_true'.1 this.1 e he
  simp [hb] at h2
  exact h2
def ownDeps (ops : Array Oper) (deps : Nat → List Nat) : Bool := (List.range ops.size).all (fun i => match ops[i]? with
  | some o => (deps i).all (fun j => o.after.any (fun e => decide (e.on = j) && Region.binds .any e))
  | none => true)
theorem ownDeps_spec {ops : Array Oper} {deps : Nat → List Nat} (h : ownDeps ops deps = true) : ∀ (i : Nat) (o : Oper), ops[i]? = some o → ∀ j ∈ deps i, ∃ e ∈ o.after, e.on = j ∧ Region.binds .any e = true := fun i o ho j hj => by
  unfold ownDeps at h
  rw [List.all_eq_true] at h
  have hi : i < ops.size := (Array.getElem?_eq_some_iff.1 ho).1
  have := h i (List.mem_range.2 hi)
  rw [ho] at this
  simp only at this
  have h2 := List.all_eq_true.1 this j hj
  obtain ⟨e, he, h3⟩ := Array.any_eq_true'.1 h2
  simp at h3
  exact ⟨e, he, h3⟩
theorem sel_far {σ : List Nat} {a : Act} {u : Nat → Value} {j : Nat} (x : Value) (hj : j ∉ σ) : sel σ a u = sel σ a (fun k => if k = j then x else u k) := by
  unfold sel
  refine act_eq _ _ _ (Array.ext_getElem? fun i => ?_)
  rw [Array.getElem?_mapIdx, Array.getElem?_mapIdx]
  cases a.tmps[i]? with
  | none => rfl
  | some y =>
    simp only [Option.map_some]
    by_cases h : i ∈ σ
    · rw [if_pos h, if_pos h, if_neg (fun e : i = j => hj (e ▸ h))]
    · rw [if_neg h, if_neg h]

theorem wp_append_row {o : Oper} {a : Act} {K : Act → World → Prop} {Q : Exit → Act → World → Prop} {w : World} (s x : Operand) (t : TypeId)
    (ho : o.op = .call { callee := .builtin .append, args := #[s, x], argTypes := #[t, t] })
    (base : Nat) (e : TypeId) (i : TypeInfo) (z : Value) (size bytes : Nat) (ht : Tryz.prog.underlying t = some (.slice e)) (hi : Tryz.prog.info? e = some i) (hz : i.zero = some z)
    (hsize : i.size = size) (hby : i.bytes = bytes) (hzs : z.cells.size = size) (hsz : 0 < size)
    (g k cap0 : Nat) (xs : List Value) (hs : a.eval s = .slice (some ⟨g, 0, none⟩) k cap0) (hown : w.ownsRow base e size (.slice (some ⟨g, 0, none⟩) k cap0) k xs)
    (A : Option Addr) (n c : Nat) (news : List Value) (hx : a.eval x = .slice A n c) (hl : news.length = n * size) (hnil : A = none → n = 0 ∧ c = 0) (hnews : ∀ ad, A = some ad → ∀ j u, news[j]? = some u → w.cell? (ad.add j) = some u) (h1 : ∀ u ∈ news, u.oneCell' = true)
    (h63 : k + n ≤ maxLen) (hbytes : (k + n) * bytes ≤ 140737488355328) (hbase : base ≤ w.heap.size)
    (h : ∀ g' cap w', w'.ownsRow base e size (.slice (some ⟨g', 0, none⟩) (k + n) cap) (k + n) (xs ++ news) → w.grownBy w' (some g) → (g' = g ∨ g' = w.heap.size) → g' < w'.heap.size → K (a.put o.dst (.slice (some ⟨g', 0, none⟩) (k + n) cap)) w') : Oper.wp Tryz.prog o a w K Q := by
  have hcap : k ≤ cap0 ∧ g < w.heap.size := by
    rcases hown.2 with ⟨e1, _⟩ | ⟨g2, cap, cur, e1, _, e5, h2, _⟩
    · cases e1
    · injection e1 with e2 _ e3
      subst e3
      injection e2 with e2
      injection e2 with e2
      subst e2
      exact ⟨h2, (Array.getElem?_eq_some_iff.1 e5).1⟩
  cases A with
  | some ad =>
    by_cases hn : 0 < n
    · exact wp_append_lies w s x t ho base e i z size bytes ht hi hz hsize hby hzs hsz _ k xs hs hown ad n c news hx hl (hnews ad rfl) h1 hn h63 hbytes hbase w.heap.size rfl (fun g' cap w' q1 q2 q3 q4 => h g' cap w' q1 q2 (by
        rcases q3 with q3 | q3
        · injection q3 with q3; exact .inl q3.symm
        · exact .inr q3) q4)
    · have hn0 : n = 0 := by omega
      subst hn0
      obtain ⟨w', hrun, r1, r2⟩ := run_append_fits (P := Tryz.prog) w base t o.type e i size ht hi hsize g k cap0 xs hown ad 0 c news hl (hnews ad rfl) h1 (by omega)
      unfold Oper.wp
      simp [execOp, ho, resolve, invoke, builtin, hs, hx, hrun, Result.andThen]
      exact h g cap0 w' r1 r2 (.inl rfl) (Nat.lt_of_lt_of_le hcap.2 r2.size)
  | none =>
    obtain ⟨rfl, rfl⟩ := hnil rfl
    have hnews : news = [] := List.eq_nil_of_length_eq_zero (by simpa using hl)
    subst hnews
    have hrun := run_append_owned_none (P := Tryz.prog) w base t o.type e i size ht hi _ k xs hown
    unfold Oper.wp
    simp [execOp, ho, resolve, invoke, builtin, hs, hx, hrun, Result.andThen]
    exact h g cap0 w (by simpa using hown) (World.grownBy.refl _ _) (.inl rfl) hcap.2
end Go.Proofs.YtbppdalfcldodaaGreat
