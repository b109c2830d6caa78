/- Expressions in new memory: which blocks they lie in; a row of children that one appends to. -/
import Derived.Test.YtkjclofkfmkbdaaMLaws
import Derived.Deep.AppendLies
namespace Go.Proofs.Ytkjclofkfmkbdaa
open Go.RowKit Ex
set_option linter.unusedSimpArgs false
set_option linter.unusedVariables false

def RQ (w : World) (Q : Nat → Prop) : Nat → Int → Int → Option Addr → Nat → Nat → T → Prop
  | 0, _, _, _, _, _, _ => False
  | d + 1, op, n, A, len, cap, t => t.op = op ∧ t.n = n ∧ t.kids.length = len ∧ len ≤ cap ∧ cap ≤ maxLen ∧
      (0 < len → ∃ b off, A = some ⟨b, off, none⟩ ∧ Q b ∧ ∀ k u, t.kids[k]? = some u → ∃ op2 n2 A2 l2 c2, CellE w b (off + k * 3) op2 n2 A2 l2 c2 ∧ RQ w Q d op2 n2 A2 l2 c2 u)
theorem RQ.re {w : World} {Q : Nat → Prop} {B : Nat} (hQ : ∀ b, Q b → b < B) : ∀ (d : Nat) (op n : Int) (A : Option Addr) (len cap : Nat) (t : T), RQ w Q d op n A len cap t → RE w B d op n A len cap t
  | 0, _, _, _, _, _, _, h => h
  | d + 1, op, n, A, len, cap, t, ⟨h1, h2, h3, h4, h5, h6⟩ => ⟨h1, h2, h3, h4, h5, fun hl => by
      obtain ⟨b, off, e, hb, hc⟩ := h6 hl
      refine ⟨b, off, e, hQ b hb, fun k u hu => ?_⟩
      obtain ⟨op2, n2, A2, l2, c2, hce, hre⟩ := hc k u hu
      exact ⟨op2, n2, A2, l2, c2, hce, RQ.re hQ d op2 n2 A2 l2 c2 u hre⟩⟩
theorem RQ.of_re {w : World} {Q : Nat → Prop} {B : Nat} (hQ : ∀ b, b < B → Q b) : ∀ (d : Nat) (op n : Int) (A : Option Addr) (len cap : Nat) (t : T), RE w B d op n A len cap t → RQ w Q d op n A len cap t
  | 0, _, _, _, _, _, _, h => h
  | d + 1, op, n, A, len, cap, t, ⟨h1, h2, h3, h4, h5, h6⟩ => ⟨h1, h2, h3, h4, h5, fun hl => by
      obtain ⟨b, off, e, hb, hc⟩ := h6 hl
      refine ⟨b, off, e, hQ b hb, fun k u hu => ?_⟩
      obtain ⟨op2, n2, A2, l2, c2, hce, hre⟩ := hc k u hu
      exact ⟨op2, n2, A2, l2, c2, hce, RQ.of_re hQ d op2 n2 A2 l2 c2 u hre⟩⟩
theorem RQ.keep {w w' : World} {Q Q' : Nat → Prop} (hQ : ∀ b, Q b → Q' b) (hk : ∀ p : Addr, Q p.block → w'.cell? p = w.cell? p) : ∀ (d : Nat) (op n : Int) (A : Option Addr) (len cap : Nat) (t : T), RQ w Q d op n A len cap t → RQ w' Q' d op n A len cap t
  | 0, _, _, _, _, _, _, h => h
  | d + 1, op, n, A, len, cap, t, ⟨h1, h2, h3, h4, h5, h6⟩ => ⟨h1, h2, h3, h4, h5, fun hl => by
      obtain ⟨b, off, e, hb, hc⟩ := h6 hl
      refine ⟨b, off, e, hQ b hb, fun k u hu => ?_⟩
      obtain ⟨op2, n2, A2, l2, c2, hce, hre⟩ := hc k u hu
      exact ⟨op2, n2, A2, l2, c2, hce.keep (fun p hp => hk p (by rw [hp]; exact hb)), RQ.keep hQ hk d op2 n2 A2 l2 c2 u hre⟩⟩
theorem RQ.up {w : World} {Q : Nat → Prop} : ∀ (d : Nat) (op n : Int) (A : Option Addr) (len cap : Nat) (t : T), RQ w Q d op n A len cap t → RQ w Q (d + 1) op n A len cap t
  | 0, _, _, _, _, _, _, h => absurd h id
  | d + 1, op, n, A, len, cap, t, ⟨h1, h2, h3, h4, h5, h6⟩ => ⟨h1, h2, h3, h4, h5, fun hl => by
      obtain ⟨b, off, e, hb, hc⟩ := h6 hl
      refine ⟨b, off, e, hb, fun k u hu => ?_⟩
      obtain ⟨op2, n2, A2, l2, c2, hce, hre⟩ := hc k u hu
      exact ⟨op2, n2, A2, l2, c2, hce, RQ.up d op2 n2 A2 l2 c2 u hre⟩⟩
theorem RQ.leaf (w : World) (Q : Nat → Prop) (d : Nat) (op n : Int) : RQ w Q (d + 1) op n none 0 0 (.mk op n []) :=
  ⟨rfl, rfl, rfl, Nat.le_refl _, by unfold maxLen; omega, fun h => absurd h (by omega)⟩

/- a child as it lies in its row -/
structure K5 where
  op : Int
  n : Int
  A : Option Addr
  len : Nat
  cap : Nat
def kc (x : K5) : List Value := [.int .i64 x.op, .int .i64 x.n, .slice x.A x.len x.cap]
def flat : List K5 → List Value
  | [] => []
  | x :: r => kc x ++ flat r
theorem flat_len : ∀ ks, (flat ks).length = ks.length * 3
  | [] => rfl
  | x :: r => by rw [flat, List.length_append, flat_len r]; simp [kc]; omega
theorem flat_snoc : ∀ ks x, flat (ks ++ [x]) = flat ks ++ kc x
  | [], x => by simp [flat]
  | y :: r, x => by rw [List.cons_append, flat, flat, flat_snoc r x, List.append_assoc]
theorem flat_at : ∀ (ks : List K5) (k : Nat) (x : K5), ks[k]? = some x → (flat ks)[k * 3]? = some (.int .i64 x.op) ∧ (flat ks)[k * 3 + 1]? = some (.int .i64 x.n) ∧ (flat ks)[k * 3 + 2]? = some (.slice x.A x.len x.cap)
  | [], k, x, h => by simp at h
  | y :: r, 0, x, h => by simp at h; subst h; simp [flat, kc]
  | y :: r, k + 1, x, h => by
    have := flat_at r k x (by simpa using h)
    rw [flat]
    have e : ∀ j, (kc y ++ flat r)[(k + 1) * 3 + j]? = (flat r)[k * 3 + j]? := fun j => by
      rw [List.getElem?_append_right (by simp [kc]; omega)]
      congr 1
      simp [kc]; omega
    exact ⟨(e 0).trans this.1, (e 1).trans this.2.1, (e 2).trans this.2.2⟩
theorem kc_one (x : K5) : ∀ u ∈ kc x, u.oneCell' = true := by simp [kc, Value.oneCell']
/- all children of a row, each where Q says -/
def Kin (w : World) (Q : Nat → Prop) (d : Nat) (ks : List K5) (ts : List T) : Prop := ks.length = ts.length ∧ ∀ (i : Nat) x u, ks[i]? = some x → ts[i]? = some u → RQ w Q d x.op x.n x.A x.len x.cap u
theorem Kin.nil (w : World) (Q : Nat → Prop) (d : Nat) : Kin w Q d [] [] := ⟨rfl, fun i x u h _ => by simp at h⟩
theorem Kin.keep {w w' : World} {Q Q' : Nat → Prop} {d : Nat} {ks : List K5} {ts : List T} (h : Kin w Q d ks ts) (hQ : ∀ b, Q b → Q' b) (hk : ∀ p : Addr, Q p.block → w'.cell? p = w.cell? p) : Kin w' Q' d ks ts :=
  ⟨h.1, fun i x u hx hu => RQ.keep hQ hk _ _ _ _ _ _ _ (h.2 i x u hx hu)⟩
theorem Kin.snoc {w : World} {Q : Nat → Prop} {d : Nat} {ks : List K5} {ts : List T} {x : K5} {u : T} (h : Kin w Q d ks ts) (hx : RQ w Q d x.op x.n x.A x.len x.cap u) : Kin w Q d (ks ++ [x]) (ts ++ [u]) :=
  ⟨by simp [h.1], fun i y v hy hv => by
    by_cases hi : i < ks.length
    · rw [List.getElem?_append_left hi] at hy
      rw [List.getElem?_append_left (by rw [← h.1]; exact hi)] at hv
      exact h.2 i y v hy hv
    · rw [List.getElem?_append_right (by omega)] at hy
      rw [List.getElem?_append_right (by rw [← h.1]; omega), ← h.1] at hv
      have h0 : i - ks.length = 0 := by
        have := (List.getElem?_eq_some_iff.1 hy).1
        simp at this; omega
      rw [h0] at hy hv
      simp at hy hv
      subst hy; subst hv
      exact hx⟩
theorem node_of_own {w : World} {Q : Nat → Prop} {base n c d : Nat} {O : Option Addr} {ks : List K5} {ts : List T} (op m : Int) (h : w.ownsRow base 25 3 (.slice O n c) n (flat ks)) (hk : Kin w Q d ks ts) (hQ : ∀ g, (Value.slice O n c).ownBlock = some g → Q g) : RQ w Q (d + 1) op m O n c (.mk op m ts) := by
  have hl : ks.length = n := by have := h.1; rw [flat_len] at this; omega
  have hl2 : ts.length = n := by rw [← hk.1]; exact hl
  have hcap : n ≤ c ∧ c ≤ maxLen := by
    rcases h.2 with ⟨e, _⟩ | ⟨g, cap, cur, e, _, _, h1, h2, _⟩
    · injection e with e1 e2 e3; subst e2; subst e3; unfold maxLen; omega
    · injection e with e1 e2 e3; subst e3; exact ⟨h1, h2⟩
  refine ⟨rfl, rfl, hl2, hcap.1, hcap.2, fun hn => ?_⟩
  obtain ⟨g, cap, hv, hb, hlt⟩ := h.form hn
  have hA : O = some ⟨g, 0, none⟩ := by injection hv
  subst hA
  refine ⟨g, 0, rfl, hQ g rfl, fun k u hu => ?_⟩
  have hkn : k < n := by rw [← hl2]; exact (List.getElem?_eq_some_iff.1 hu).1
  obtain ⟨x, hx⟩ : ∃ x, ks[k]? = some x := ⟨_, List.getElem?_eq_getElem (by omega)⟩
  obtain ⟨f0, f1, f2⟩ := flat_at ks k x hx
  have cell : ∀ j v, (flat ks)[j]? = some v → w.cell? ⟨g, j, none⟩ = some v := fun j v hv => by
    have := h.cells (g := g) rfl j v hv
    by_cases hj : j = 0
    · subst hj; simpa [Addr.add] using this
    · simpa [Addr.add, hj] using this
  refine ⟨x.op, x.n, x.A, x.len, x.cap, ⟨?_, ?_, ?_⟩, hk.2 k x u hx hu⟩
  · rw [Nat.zero_add]; exact cell _ _ f0
  · rw [Nat.zero_add]; exact cell _ _ f1
  · rw [Nat.zero_add]; exact cell _ _ f2

/- what hands back an expression in memory of its own -/
def New (w w' : World) (b : Nat) : Prop := w.heap.size ≤ b ∧ b < w'.heap.size
def TreePost (d : Nat) (t : T) (w : World) (e : Ending) (w' : World) : Prop :=
  ∃ (x : K5), e = .returned (.agg #[.int .i64 x.op, .int .i64 x.n, .slice x.A x.len x.cap]) ∧ RQ w' (New w w') d x.op x.n x.A x.len x.cap t ∧ Below w.heap.size w w'
end Go.Proofs.Ytkjclofkfmkbdaa
