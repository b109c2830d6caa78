/- Expressions in new memory: which blocks they lie in; a row of children that one appends to. The walk of the reference's copied. What is folded, as trees; the walk of the reference's fold. The walk of the reference's fold. The walk of the reference's Fold. What a folded expression keeps: its sort, its values, its being folded. A folded expression: its sort, its values, its nodes; folded again it is the same. Of what has a sort: the bounds of its value, over the values of any states. The walks of the program's truth, within, decided and join: a node's value out of its children's. The walk of the program's find: the value of an expression that has a sort. The walks of the program's Value and True. -/
import Derived.Test.YtbppdalfcldodaaGreatGReads
import Derived.Deep.AppendLies
import Derived.Test.YtbppdalfcldodaaGreatGSort
import Derived.Deep.RegionHeld3
import Derived.Deep.RegionLaw
import Derived.Test.YtbppdalfcldodaaGreatGVal
import Derived.Lib.QuietBelow
import Derived.BigQuiet
namespace Go.Proofs.YtbppdalfcldodaaGreat
open Go.RowKit Ex
set_option linter.unusedSimpArgs false
set_option linter.unusedVariables false

def RQ (w : World) (Q : Nat → Prop) : Nat → Int → Int → Option Addr → Nat → Nat → T → Prop
  | 0, _, _, _, _, _, _ => False
  | d + 1, op, n, A, len, cap, t => t.op = op ∧ t.n = n ∧ t.kids.length = len ∧ len ≤ cap ∧ cap ≤ maxLen ∧
      (0 < len → ∃ b off, A = some ⟨b, off, none⟩ ∧ Q b ∧ ∀ k u, t.kids[k]? = some u → ∃ op2 n2 A2 l2 c2, CellE w b (off + k * 3) op2 n2 A2 l2 c2 ∧ RQ w Q d op2 n2 A2 l2 c2 u)
theorem RQ.re {w : World} {Q : Nat → Prop} {B : Nat} (hQ : ∀ b, Q b → b < B) : ∀ (d : Nat) (op n : Int) (A : Option Addr) (len cap : Nat) (t : T), RQ w Q d op n A len cap t → RE w B d op n A len cap t
  | 0, _, _, _, _, _, _, h => h
  | d + 1, op, n, A, len, cap, t, ⟨h1, h2, h3, h4, h5, h6⟩ => ⟨h1, h2, h3, h4, h5, fun hl => by
      obtain ⟨b, off, e, hb, hc⟩ := h6 hl
      refine ⟨b, off, e, hQ b hb, fun k u hu => ?_⟩
      obtain ⟨op2, n2, A2, l2, c2, hce, hre⟩ := hc k u hu
      exact ⟨op2, n2, A2, l2, c2, hce, RQ.re hQ d op2 n2 A2 l2 c2 u hre⟩⟩
theorem RQ.keep {w w' : World} {Q Q' : Nat → Prop} (hQ : ∀ b, Q b → Q' b) (hk : ∀ p : Addr, Q p.block → w'.cell? p = w.cell? p) : ∀ (d : Nat) (op n : Int) (A : Option Addr) (len cap : Nat) (t : T), RQ w Q d op n A len cap t → RQ w' Q' d op n A len cap t
  | 0, _, _, _, _, _, _, h => h
  | d + 1, op, n, A, len, cap, t, ⟨h1, h2, h3, h4, h5, h6⟩ => ⟨h1, h2, h3, h4, h5, fun hl => by
      obtain ⟨b, off, e, hb, hc⟩ := h6 hl
      refine ⟨b, off, e, hQ b hb, fun k u hu => ?_⟩
      obtain ⟨op2, n2, A2, l2, c2, hce, hre⟩ := hc k u hu
      exact ⟨op2, n2, A2, l2, c2, hce.keep (fun p hp => hk p (by rw [hp]; exact hb)), RQ.keep hQ hk d op2 n2 A2 l2 c2 u hre⟩⟩
theorem RQ.up {w : World} {Q : Nat → Prop} : ∀ (d : Nat) (op n : Int) (A : Option Addr) (len cap : Nat) (t : T), RQ w Q d op n A len cap t → RQ w Q (d + 1) op n A len cap t
  | 0, _, _, _, _, _, _, h => absurd h id
  | d + 1, op, n, A, len, cap, t, ⟨h1, h2, h3, h4, h5, h6⟩ => ⟨h1, h2, h3, h4, h5, fun hl => by
      obtain ⟨b, off, e, hb, hc⟩ := h6 hl
      refine ⟨b, off, e, hb, fun k u hu => ?_⟩
      obtain ⟨op2, n2, A2, l2, c2, hce, hre⟩ := hc k u hu
      exact ⟨op2, n2, A2, l2, c2, hce, RQ.up d op2 n2 A2 l2 c2 u hre⟩⟩
theorem RQ.leaf (w : World) (Q : Nat → Prop) (d : Nat) (op n : Int) : RQ w Q (d + 1) op n none 0 0 (.mk op n []) :=
  ⟨rfl, rfl, rfl, Nat.le_refl _, by unfold maxLen; omega, fun h => absurd h (by omega)⟩

/- a child as it lies in its row -/
structure K5 where
  op : Int
  n : Int
  A : Option Addr
  len : Nat
  cap : Nat
def kc (x : K5) : List Value := [.int .i64 x.op, .int .i64 x.n, .slice x.A x.len x.cap]
def flat : List K5 → List Value
  | [] => []
  | x :: r => kc x ++ flat r
theorem flat_len : ∀ ks, (flat ks).length = ks.length * 3
  | [] => rfl
  | x :: r => by rw [flat, List.length_append, flat_len r]; simp [kc]; omega
theorem flat_snoc : ∀ ks x, flat (ks ++ [x]) = flat ks ++ kc x
  | [], x => by simp [flat]
  | y :: r, x => by rw [List.cons_append, flat, flat, flat_snoc r x, List.append_assoc]
theorem flat_at : ∀ (ks : List K5) (k : Nat) (x : K5), ks[k]? = some x → (flat ks)[k * 3]? = some (.int .i64 x.op) ∧ (flat ks)[k * 3 + 1]? = some (.int .i64 x.n) ∧ (flat ks)[k * 3 + 2]? = some (.slice x.A x.len x.cap)
  | [], k, x, h => by simp at h
  | y :: r, 0, x, h => by simp at h; subst h; simp [flat, kc]
  | y :: r, k + 1, x, h => by
    have := flat_at r k x (by simpa using h)
    rw [flat]
    have e : ∀ j, (kc y ++ flat r)[(k + 1) * 3 + j]? = (flat r)[k * 3 + j]? := fun j => by
      rw [List.getElem?_append_right (by simp [kc]; omega)]
      congr 1
      simp [kc]; omega
    exact ⟨(e 0).trans this.1, (e 1).trans this.2.1, (e 2).trans this.2.2⟩
/- all children of a row, each where Q says -/
def Kin (w : World) (Q : Nat → Prop) (d : Nat) (ks : List K5) (ts : List T) : Prop := ks.length = ts.length ∧ ∀ (i : Nat) x u, ks[i]? = some x → ts[i]? = some u → RQ w Q d x.op x.n x.A x.len x.cap u
theorem Kin.nil (w : World) (Q : Nat → Prop) (d : Nat) : Kin w Q d [] [] := ⟨rfl, fun i x u h _ => by simp at h⟩
theorem Kin.keep {w w' : World} {Q Q' : Nat → Prop} {d : Nat} {ks : List K5} {ts : List T} (h : Kin w Q d ks ts) (hQ : ∀ b, Q b → Q' b) (hk : ∀ p : Addr, Q p.block → w'.cell? p = w.cell? p) : Kin w' Q' d ks ts :=
  ⟨h.1, fun i x u hx hu => RQ.keep hQ hk _ _ _ _ _ _ _ (h.2 i x u hx hu)⟩
theorem Kin.snoc {w : World} {Q : Nat → Prop} {d : Nat} {ks : List K5} {ts : List T} {x : K5} {u : T} (h : Kin w Q d ks ts) (hx : RQ w Q d x.op x.n x.A x.len x.cap u) : Kin w Q d (ks ++ [x]) (ts ++ [u]) :=
  ⟨by simp [h.1], fun i y v hy hv => by
    by_cases hi : i < ks.length
    · rw [List.getElem?_append_left hi] at hy
      rw [List.getElem?_append_left (by rw [← h.1]; exact hi)] at hv
      exact h.2 i y v hy hv
    · rw [List.getElem?_append_right (by omega)] at hy
      rw [List.getElem?_append_right (by rw [← h.1]; omega), ← h.1] at hv
      have h0 : i - ks.length = 0 := by
        have := (List.getElem?_eq_some_iff.1 hy).1
        simp at this; omega
      rw [h0] at hy hv
      simp at hy hv
      subst hy; subst hv
      exact hx⟩
theorem node_of_own {w : World} {Q : Nat → Prop} {base n c d : Nat} {O : Option Addr} {ks : List K5} {ts : List T} (op m : Int) (h : w.ownsRow base 25 3 (.slice O n c) n (flat ks)) (hk : Kin w Q d ks ts) (hQ : ∀ g, (Value.slice O n c).ownBlock = some g → Q g) : RQ w Q (d + 1) op m O n c (.mk op m ts) := by
  have hl : ks.length = n := by have := h.1; rw [flat_len] at this; omega
  have hl2 : ts.length = n := by rw [← hk.1]; exact hl
  have hcap : n ≤ c ∧ c ≤ maxLen := by
    rcases h.2 with ⟨e, _⟩ | ⟨g, cap, cur, e, _, _, h1, h2, _⟩
    · injection e with e1 e2 e3; subst e2; subst e3; unfold maxLen; omega
    · injection e with e1 e2 e3; subst e3; exact ⟨h1, h2⟩
  refine ⟨rfl, rfl, hl2, hcap.1, hcap.2, fun hn => ?_⟩
  obtain ⟨g, cap, hv, hb, hlt⟩ := h.form hn
  have hA : O = some ⟨g, 0, none⟩ := by injection hv
  subst hA
  refine ⟨g, 0, rfl, hQ g rfl, fun k u hu => ?_⟩
  have hkn : k < n := by rw [← hl2]; exact (List.getElem?_eq_some_iff.1 hu).1
  obtain ⟨x, hx⟩ : ∃ x, ks[k]? = some x := ⟨_, List.getElem?_eq_getElem (by omega)⟩
  obtain ⟨f0, f1, f2⟩ := flat_at ks k x hx
  have cell : ∀ j v, (flat ks)[j]? = some v → w.cell? ⟨g, j, none⟩ = some v := fun j v hv => by
    have := h.cells (g := g) rfl j v hv
    by_cases hj : j = 0
    · subst hj; simpa [Addr.add] using this
    · simpa [Addr.add, hj] using this
  refine ⟨x.op, x.n, x.A, x.len, x.cap, ⟨?_, ?_, ?_⟩, hk.2 k x u hx hu⟩
  · rw [Nat.zero_add]; exact cell _ _ f0
  · rw [Nat.zero_add]; exact cell _ _ f1
  · rw [Nat.zero_add]; exact cell _ _ f2

/- what hands back an expression in memory of its own -/
def New (w w' : World) (b : Nat) : Prop := w.heap.size ≤ b ∧ b < w'.heap.size
def TreePost (d : Nat) (t : T) (w : World) (e : Ending) (w' : World) : Prop :=
  ∃ (x : K5), e = .returned (.agg #[.int .i64 x.op, .int .i64 x.n, .slice x.A x.len x.cap]) ∧ RQ w' (New w w') d x.op x.n x.A x.len x.cap t ∧ Below w.heap.size w w'
end Go.Proofs.YtbppdalfcldodaaGreat
namespace Go.Proofs.YtbppdalfcldodaaGreat
open Go.RowKit Ex
set_option linter.unusedSimpArgs false
set_option linter.unusedVariables false

def bxE (op n : Int) (A : Option Addr) (len cap : Nat) : Nat → Value := fun i => if i = 0 then .int .i64 op else if i = 1 then .int .i64 n else .slice A len cap
/- the row that one appends to, its children elsewhere -/
def Grows (N d : Nat) (O : Option Addr) (k c : Nat) (ks : List K5) (ts : List T) (w : World) : Prop :=
  w.ownsRow N 25 3 (.slice O k c) k (flat ks) ∧ Kin w (fun b => N ≤ b ∧ b < w.heap.size ∧ some b ≠ (Value.slice O k c).ownBlock) d ks ts
theorem Grows.start (N d : Nat) (w : World) : Grows N d none 0 0 [] [] w := ⟨World.ownsRow_nil _ _ _ _, Kin.nil _ _ _⟩
/- a change of blocks that were there, below N, and new blocks -/
theorem Grows.kept {N d : Nat} {O : Option Addr} {k c : Nat} {ks : List K5} {ts : List T} {w w' : World} (h : Grows N d O k c ks ts w) (hz : w.heap.size ≤ w'.heap.size) (hb : ∀ b, N ≤ b → b < w.heap.size → w'.heap[b]? = w.heap[b]?) : Grows N d O k c ks ts w' := by
  refine ⟨?_, h.2.keep (fun b hq => ⟨hq.1, by omega, hq.2.2⟩) (fun p hq => World.cell?_of_block (hb _ hq.1 hq.2.1))⟩
  rcases h.1 with ⟨hl, h1 | ⟨g, cap, cur, e, hg, hc, h1, h2, h3, h4⟩⟩
  · exact ⟨hl, .inl h1⟩
  · refine ⟨hl, .inr ⟨g, cap, cur, e, hg, ?_, h1, h2, h3, h4⟩⟩
    have hlt : g < w.heap.size := by
      have := h.1.lt g (by rw [e]; rfl)
      exact this.2
    rw [hb g hg hlt]; exact hc
theorem Grows.grown {N d : Nat} {O : Option Addr} {k c g cap : Nat} {ks : List K5} {ts : List T} {w w' : World} {x : K5} {u : T} (h : Grows N d O k c ks ts w) (hx : RQ w (fun b => N ≤ b ∧ b < w.heap.size ∧ some b ≠ (Value.slice O k c).ownBlock) d x.op x.n x.A x.len x.cap u)
    (hown : w'.ownsRow N 25 3 (.slice (some ⟨g, 0, none⟩) (k + 1) cap) (k + 1) (flat ks ++ kc x)) (hg : w.grownBy w' (Value.slice O k c).ownBlock) (hat : (Value.slice O k c).ownBlock = some g ∨ w.heap.size ≤ g) : Grows N d (some ⟨g, 0, none⟩) (k + 1) cap (ks ++ [x]) (ts ++ [u]) w' := by
  refine ⟨by rw [flat_snoc]; exact hown, ?_⟩
  refine (h.2.snoc hx).keep (fun b hq => ⟨hq.1, by have := hg.size; omega, ?_⟩) (fun p hq => hg.cell_far p hq.2.1 hq.2.2)
  intro e
  have e2 : b = g := by simpa [Value.ownBlock] using e
  subst e2
  rcases hat with h1 | h1
  · exact hq.2.2 h1.symm
  · omega
theorem Grows.tree {N d : Nat} {O : Option Addr} {k c : Nat} {ks : List K5} {ts : List T} {w : World} (op n : Int) (h : Grows N d O k c ks ts w) : RQ w (fun b => N ≤ b ∧ b < w.heap.size) (d + 1) op n O k c (.mk op n ts) :=
  node_of_own op n h.1 (h.2.keep (fun b hq => ⟨hq.1, hq.2.1⟩) (fun _ _ => rfl)) (fun g hg => h.1.lt g hg)
end Go.Proofs.YtbppdalfcldodaaGreat
namespace Go.Proofs.YtbppdalfcldodaaGreat
open Go.RowKit Ex
set_option linter.unusedSimpArgs false
set_option linter.unusedVariables false

mutual
def noRd : T → Bool
  | .mk op n ks => (decide (op ≠ 3) && decide (op ≠ 4)) && noRdK ks
def noRdK : List T → Bool
  | [] => true
  | k :: r => noRd k && noRdK r
end
mutual
def foldT (l : List Dom.V) : T → T
  | .mk op n ks => if noRd (.mk op n ks) = true then (match vT [] [] (.mk op n ks) with
      | some x => .mk (if (tyT l (.mk op n ks)).1 = 1 then 2 else 1) x []
      | none => .mk op n (foldK l ks)) else .mk op n (foldK l ks)
def foldK (l : List Dom.V) : List T → List T
  | [] => []
  | k :: r => foldT l k :: foldK l r
end
mutual
theorem noRd_rd : ∀ (t : T) (op : Int) (i : Nat), op = 3 ∨ op = 4 → noRd t = true → rdT t op i = false
  | .mk o n ks, op, i, ho, h => by
    rw [noRd, Bool.and_eq_true, Bool.and_eq_true] at h
    rw [rdT, noRdK_rd ks op i ho h.2]
    have h1 := h.1.1; have h2 := h.1.2
    simp at h1 h2
    have : (o == op) = false := by simp; omega
    simp [this]
theorem noRdK_rd : ∀ (ks : List T) (op : Int) (i : Nat), op = 3 ∨ op = 4 → noRdK ks = true → rdK ks op i = false
  | [], op, i, ho, h => by rw [rdK]
  | k :: r, op, i, ho, h => by
    rw [noRdK, Bool.and_eq_true] at h
    rw [rdK, noRd_rd k op i ho h.1, noRdK_rd r op i ho h.2]; rfl
end
mutual
theorem noRd_some : ∀ (t : T), sound t = true → noRd t = false → ∃ (op : Int) (i : Nat), (op = 3 ∨ op = 4) ∧ i < 6 ∧ rdT t op i = true
  | .mk o n ks, hs, h => by
    by_cases ho : o = 3 ∨ o = 4
    · have hn := sound_n (op := o) hs ho rfl
      simp only [T.n] at hn
      refine ⟨o, n.toNat, ho, by omega, ?_⟩
      rw [rdT]
      have : (n == (n.toNat : Int)) = true := by simp; omega
      simp [this]; left; omega
    · have h1 : decide (o ≠ 3) = true := by simp; omega
      have h2 : decide (o ≠ 4) = true := by simp; omega
      rw [noRd, h1, h2] at h
      simp at h
      obtain ⟨op, i, hop, hi, hr⟩ := noRdK_some ks (sound_kids hs) h
      exact ⟨op, i, hop, hi, by rw [rdT, hr]; simp⟩
theorem noRdK_some : ∀ (ks : List T), soundK ks = true → noRdK ks = false → ∃ (op : Int) (i : Nat), (op = 3 ∨ op = 4) ∧ i < 6 ∧ rdK ks op i = true
  | [], hs, h => by rw [noRdK] at h; cases h
  | k :: r, hs, h => by
    rw [soundK, Bool.and_eq_true] at hs
    rw [noRdK] at h
    cases hk : noRd k
    · obtain ⟨op, i, hop, hi, hr⟩ := noRd_some k hs.1 hk
      exact ⟨op, i, hop, hi, by rw [rdK, hr]; rfl⟩
    · rw [hk] at h
      obtain ⟨op, i, hop, hi, hr⟩ := noRdK_some r hs.2 (by simpa using h)
      exact ⟨op, i, hop, hi, by rw [rdK, hr]; simp⟩
end
section
variable {W w' : World} {B d : Nat} {op n : Int} {A : Option Addr} {len cap : Nat} {t : T}
end
end Go.Proofs.YtbppdalfcldodaaGreat
namespace Go.Proofs.YtbppdalfcldodaaGreat
open Go.RowKit Ex
set_option linter.unusedSimpArgs false
set_option linter.unusedVariables false

end Go.Proofs.YtbppdalfcldodaaGreat
namespace Go.Proofs.YtbppdalfcldodaaGreat
open Go.RowKit Ex
set_option linter.unusedSimpArgs false
set_option linter.unusedVariables false

def foldE (l : List Dom.V) (t : T) : T := if (sortE l t).2 = 0 then foldT l t else t
def ExprPost (t : T) (w : World) (e : Ending) (w' : World) : Prop :=
  ∃ (x : K5) (d : Nat), e = .returned (.agg #[.int .i64 x.op, .int .i64 x.n, .slice x.A x.len x.cap]) ∧ RE w' w'.heap.size d x.op x.n x.A x.len x.cap t ∧ Below w.heap.size w w'
theorem sort_may {l : List Dom.V} {t : T} (h : (sortE l t).2 = 0) : Dom.mayL l = 0 ∧ mayE t = 0 := by
  unfold sortE at h
  by_cases hm : Dom.mayL l = 0
  · rw [if_pos hm] at h
    by_cases he : mayE t = 0
    · exact ⟨hm, he⟩
    · rw [if_neg he] at h; exact absurd h he
  · rw [if_neg hm] at h; exact absurd h hm
end Go.Proofs.YtbppdalfcldodaaGreat
namespace Go.Proofs.YtbppdalfcldodaaGreat
open Go.RowKit Ex
set_option linter.unusedSimpArgs false
set_option linter.unusedVariables false

mutual
theorem T.ind {P : T → Prop} (h : ∀ op n ks, (∀ u ∈ ks, P u) → P (.mk op n ks)) : ∀ t, P t
  | .mk op n ks => h op n ks (T.indK h ks)
theorem T.indK {P : T → Prop} (h : ∀ op n ks, (∀ u ∈ ks, P u) → P (.mk op n ks)) : ∀ ks : List T, ∀ u ∈ ks, P u
  | [], u, hu => absurd hu (by simp)
  | k :: r, u, hu => match List.mem_cons.1 hu with
    | .inl e => e ▸ T.ind h k
    | .inr hu => T.indK h r u hu
end
theorem soundK_mem {ks : List T} (h : soundK ks = true) {u : T} (hu : u ∈ ks) : sound u = true := by
  obtain ⟨k, hk⟩ := List.getElem?_of_mem hu
  exact soundK_at ks k u h hk
theorem tyK_mem {l : List Dom.V} : ∀ {ks : List T}, (tyK l ks).2 = 0 → ∀ u ∈ ks, (tyT l u).2 = 0
  | [], _, u, hu => absurd hu (by simp)
  | k :: r, h, u, hu => by
    rw [tyK] at h
    by_cases hk : (tyT l k).2 = 0
    · rw [if_pos hk] at h
      rcases List.mem_cons.1 hu with rfl | hu
      · exact hk
      · exact tyK_mem h u hu
    · rw [if_neg hk] at h
      exact absurd h hk
theorem ty_kids {l : List Dom.V} {op n : Int} {ks : List T} (h : (tyT l (.mk op n ks)).2 = 0) : (tyK l ks).2 = 0 ∧ tyT l (.mk op n ks) = tyN l op n (tyK l ks).1 := by
  rw [tyT] at h ⊢
  by_cases hk : (tyK l ks).2 = 0
  · rw [if_pos hk]; exact ⟨hk, rfl⟩
  · rw [if_neg hk] at h; exact absurd h hk
theorem shape {op n : Int} {ks : List T} (h : sound (.mk op n ks) = true) :
    ((op = 1 ∧ -1000 ≤ n ∧ n ≤ 1000 ∧ ks = []) ∨ (op = 2 ∧ (n = 0 ∨ n = 1) ∧ ks = []) ∨ ((op = 3 ∨ op = 4) ∧ 0 ≤ n ∧ n < 6 ∧ ks = []) ∨ (op = 5 ∧ n = 0 ∧ ∃ a, ks = [a]) ∨ (6 ≤ op ∧ op ≤ 14 ∧ n = 0 ∧ ∃ a b, ks = [a, b]) ∨ (op = 15 ∧ n = 0 ∧ ∃ a b c, ks = [a, b, c])) := by
  have hl := sound_len15' h
  have ho := sound_op h
  simp only [T.op, T.kids] at hl ho
  have hn : nodeN op n = true := by
    rw [sound_eq, nodeB_eq, Bool.and_eq_true, Bool.and_eq_true] at h
    exact h.1.2
  unfold nodeN at hn
  unfold kidsOf at hl
  rcases ks with _ | ⟨a, _ | ⟨b, _ | ⟨c, _ | ⟨e, r⟩⟩⟩⟩
  · simp at hl
    by_cases h1 : op = 1
    · simp [h1] at hn ⊢; exact hn
    · by_cases h2 : op = 2
      · simp [h2] at hn ⊢; exact hn
      · by_cases h34 : op = 3 ∨ op = 4
        · rw [if_neg h1, if_neg h2, if_pos h34] at hn
          simp at hn
          exact .inr (.inr (.inl ⟨h34, hn.1, hn.2, rfl⟩))
        · exfalso; revert hl; (repeat' split) <;> omega
  · simp at hl
    have h5 : op = 5 := by revert hl; (repeat' split) <;> omega
    subst h5
    simp at hn
    exact .inr (.inr (.inr (.inl ⟨rfl, hn, a, rfl⟩)))
  · simp at hl
    have h6 : 6 ≤ op ∧ op ≤ 14 := by revert hl; (repeat' split) <;> omega
    rw [if_neg (by omega), if_neg (by omega), if_neg (by omega)] at hn
    simp at hn
    exact .inr (.inr (.inr (.inr (.inl ⟨h6.1, h6.2, hn, a, b, rfl⟩))))
  · simp at hl
    have h15 : op = 15 := by revert hl; (repeat' split) <;> omega
    subst h15
    simp at hn
    exact .inr (.inr (.inr (.inr (.inr ⟨rfl, hn, a, b, c, rfl⟩))))
  · simp at ho
/- what reads nothing has one value, whatever the states -/
/- of what reads nothing: its sort, and the bounds of its value -/
def Fine (s : Int) (v : Option Int) : Prop := (s = 1 ∨ s = 2) ∧ ∀ x, v = some x → (s = 1 → x = 0 ∨ x = 1) ∧ (s = 2 → -1000 ≤ x ∧ x ≤ 1000)
theorem vIn_some {z x : Int} (h : vIn z = some x) : z = x ∧ -1000 ≤ x ∧ x ≤ 1000 := by
  unfold vIn at h
  split at h
  · injection h with h; subst h; exact ⟨rfl, by assumption⟩
  · cases h
theorem bit_bd (p : Bool) : bitI p = 0 ∨ bitI p = 1 := by cases p <;> simp [bitI]
theorem fine_two {l : List Dom.V} {va vb : List Int} {op : Int} {a b : T} (h6 : 6 ≤ op) (h14 : op ≤ 14) (ha : (tyT l a).2 = 0) (hb : (tyT l b).2 = 0) (hfa : Fine (tyT l a).1 (vT va vb a)) (hfb : Fine (tyT l b).1 (vT va vb b)) (hty : (tyT l (.mk op 0 [a, b])).2 = 0) : Fine (tyT l (.mk op 0 [a, b])).1 (vT va vb (.mk op 0 [a, b])) := by
  obtain ⟨_, hk2⟩ := ty_kids hty
  rw [hk2] at hty ⊢
  rw [vT, vK, vK, vK]
  rw [tyK, tyK, tyK, if_pos ha, if_pos hb] at hty ⊢
  generalize tyT l a = ta at *
  generalize tyT l b = tb at *
  obtain ⟨sa, ea⟩ := ta
  obtain ⟨sb, eb⟩ := tb
  generalize vT va vb a = xa at *
  generalize vT va vb b = xb at *
  unfold tyN at hty ⊢
  unfold vN
  simp only [List.getD_cons_zero, List.getD_cons_succ] at hty ⊢
  have hop : op = 6 ∨ op = 7 ∨ op = 8 ∨ op = 9 ∨ op = 10 ∨ op = 11 ∨ op = 12 ∨ op = 13 ∨ op = 14 := by omega
  rcases hop with rfl | rfl | rfl | rfl | rfl | rfl | rfl | rfl | rfl <;> simp at hty ⊢
  · split at hty
    · rename_i hs
      rw [if_pos hs]
      obtain ⟨rfl, rfl⟩ := hs
      refine ⟨by simp, fun x hx => ⟨fun _ => ?_, fun h => by simp at h⟩⟩
      cases xa with
      | none => simp at hx
      | some p =>
        simp only at hx
        split at hx
        · simp at hx; omega
        · cases xb with
          | none => simp at hx
          | some q =>
            have h1 := vIn_some hx
            have h2 := (hfb.2 q rfl).1 rfl
            simp [vOp] at h1
            omega
    · simp at hty
  · split at hty
    · rename_i hs
      rw [if_pos hs]
      obtain ⟨rfl, rfl⟩ := hs
      refine ⟨by simp, fun x hx => ⟨fun _ => ?_, fun h => by simp at h⟩⟩
      cases xa with
      | none => simp at hx
      | some p =>
        simp only at hx
        split at hx
        · simp at hx; omega
        · cases xb with
          | none => simp at hx
          | some q =>
            have h1 := vIn_some hx
            have h2 := (hfb.2 q rfl).1 rfl
            simp [vOp] at h1
            omega
    · simp at hty
  · split at hty
    · rename_i hs
      rw [if_pos hs]
      obtain ⟨rfl, rfl⟩ := hs
      refine ⟨by simp, fun x hx => ⟨fun _ => ?_, fun h => by simp at h⟩⟩
      cases xa with
      | none => simp at hx
      | some p =>
        simp only at hx
        split at hx
        · simp at hx; omega
        · cases xb with
          | none => simp at hx
          | some q =>
            have h1 := vIn_some hx
            have h2 := (hfb.2 q rfl).1 rfl
            simp [vOp] at h1
            omega
    · simp at hty
  · split at hty
    · rename_i hs
      rw [if_pos hs]
      refine ⟨by simp, fun x hx => ⟨fun _ => ?_, fun h => by simp at h⟩⟩
      cases xa with
      | none => simp at hx
      | some p =>
        cases xb with
        | none => simp at hx
        | some q =>
          have h1 := vIn_some hx
          rw [← h1.1]
          simp only [vOp]
          exact bit_bd _
    · simp at hty
  · split at hty
    · rename_i hs
      rw [if_pos hs]
      refine ⟨by simp, fun x hx => ⟨fun _ => ?_, fun h => by simp at h⟩⟩
      cases xa with
      | none => simp at hx
      | some p =>
        cases xb with
        | none => simp at hx
        | some q =>
          have h1 := vIn_some hx
          rw [← h1.1]
          simp only [vOp]
          exact bit_bd _
    · simp at hty
  · split at hty
    · rename_i hs
      rw [if_pos hs]
      refine ⟨by simp, fun x hx => ⟨fun _ => ?_, fun h => by simp at h⟩⟩
      cases xa with
      | none => simp at hx
      | some p =>
        cases xb with
        | none => simp at hx
        | some q =>
          have h1 := vIn_some hx
          rw [← h1.1]
          simp only [vOp]
          exact bit_bd _
    · simp at hty
  · split at hty
    · rename_i hs
      rw [if_pos hs]
      refine ⟨by simp, fun x hx => ⟨fun h => by simp at h, fun _ => ?_⟩⟩
      cases xa with
      | none => simp at hx
      | some p =>
        cases xb with
        | none => simp at hx
        | some q => exact (vIn_some hx).2
    · simp at hty
  · split at hty
    · rename_i hs
      rw [if_pos hs]
      refine ⟨by simp, fun x hx => ⟨fun h => by simp at h, fun _ => ?_⟩⟩
      cases xa with
      | none => simp at hx
      | some p =>
        cases xb with
        | none => simp at hx
        | some q => exact (vIn_some hx).2
    · simp at hty
  · split at hty
    · rename_i hs
      rw [if_pos hs]
      refine ⟨by simp, fun x hx => ⟨fun h => by simp at h, fun _ => ?_⟩⟩
      cases xa with
      | none => simp at hx
      | some p =>
        cases xb with
        | none => simp at hx
        | some q => exact (vIn_some hx).2
    · simp at hty
end Go.Proofs.YtbppdalfcldodaaGreat
namespace Go.Proofs.YtbppdalfcldodaaGreat
open Go.RowKit Ex
set_option linter.unusedSimpArgs false
set_option linter.unusedVariables false

/- the two ways of folding a node -/
/- Fold as a whole -/
theorem sort_ty {l : List Dom.V} {t : T} (h : (sortE l t).2 = 0) : sortE l t = tyT l t := by
  obtain ⟨h1, h2⟩ := sort_may h
  unfold sortE
  rw [if_pos h1, if_pos h2]
end Go.Proofs.YtbppdalfcldodaaGreat
namespace Go.Proofs.YtbppdalfcldodaaGreat
open Go.RowKit Ex
set_option linter.unusedSimpArgs false
set_option linter.unusedVariables false

theorem at_some {l : List Dom.V} {v : Nat} (h : v < l.length) : ∃ u, l[v]? = some u := ⟨_, List.getElem?_eq_getElem h⟩
theorem fine_gen (l : List Dom.V) (va vb : List Int) (hva : ∀ n u, l[n]? = some u → Fine u.srt (some (va.getD n 0))) (hvb : ∀ n u, l[n]? = some u → Fine u.srt (some (vb.getD n 0))) : ∀ t, sound t = true → (tyT l t).2 = 0 → Fine (tyT l t).1 (vT va vb t) := T.ind (fun op n ks ih hs hty => by
  have hk := (ty_kids hty).1
  have hsk := sound_kids hs
  simp only [T.kids] at hsk
  have Hk : ∀ u ∈ ks, (tyT l u).2 = 0 ∧ Fine (tyT l u).1 (vT va vb u) := fun u hu => ⟨tyK_mem hk u hu, ih u hu (soundK_mem hsk hu) (tyK_mem hk u hu)⟩
  rcases shape hs with ⟨rfl, h1, h2, rfl⟩ | ⟨rfl, h1, rfl⟩ | ⟨h34, h0, _, rfl⟩ | ⟨rfl, rfl, a, rfl⟩ | ⟨h6, h14, rfl, a, b, rfl⟩ | ⟨rfl, rfl, a, b, c, rfl⟩
  · rw [tyT, tyK, vT, vK]
    refine ⟨by simp [tyN], fun x hx => ?_⟩
    simp [vN] at hx
    subst hx
    simp [tyN]
    omega
  · rw [tyT, tyK, vT, vK]
    refine ⟨by simp [tyN], fun x hx => ?_⟩
    simp [vN] at hx
    subst hx
    simp [tyN]
    omega
  · have e := (ty_kids hty).2
    rw [e] at hty ⊢
    rw [vT, vK]
    rw [tyK] at hty ⊢
    unfold tyN at hty ⊢
    unfold vN
    rw [if_neg (by omega), if_neg (by omega), if_pos h34] at hty ⊢
    by_cases hl : (l.length : Int) ≤ n
    · rw [if_pos hl] at hty; simp at hty
    · rw [if_neg hl]
      obtain ⟨u, hu⟩ := at_some (l := l) (v := n.toNat) (by omega)
      rcases h34 with rfl | rfl
      · simp only [hu]
        exact hva _ u hu
      · simp only [hu]
        exact hvb _ u hu
  · obtain ⟨ha, hfa⟩ := Hk a (by simp)
    have e := (ty_kids hty).2
    rw [e] at hty ⊢
    rw [vT, vK, vK]
    rw [tyK, tyK, if_pos ha] at hty ⊢
    generalize tyT l a = ta at *
    obtain ⟨sa, ea⟩ := ta
    generalize vT va vb a = xa at *
    unfold tyN at hty ⊢
    unfold vN
    simp at hty ⊢
    split at hty
    · rename_i h
      rw [if_pos h]
      subst h
      refine ⟨by simp, fun x hx => ⟨fun _ => ?_, fun h => by simp at h⟩⟩
      cases xa with
      | none => simp at hx
      | some p =>
        have h2 := (hfa.2 p rfl).1 rfl
        simp at hx
        omega
    · simp at hty
  · obtain ⟨ha, hfa⟩ := Hk a (by simp)
    obtain ⟨hb, hfb⟩ := Hk b (by simp)
    exact fine_two h6 h14 ha hb hfa hfb hty
  · obtain ⟨ha, hfa⟩ := Hk a (by simp)
    obtain ⟨hb, hfb⟩ := Hk b (by simp)
    obtain ⟨hc, hfc⟩ := Hk c (by simp)
    have e := (ty_kids hty).2
    rw [e] at hty ⊢
    rw [vT, vK, vK, vK, vK]
    rw [tyK, tyK, tyK, tyK, if_pos ha, if_pos hb, if_pos hc] at hty ⊢
    generalize tyT l a = ta at *
    generalize tyT l b = tb at *
    generalize tyT l c = tc at *
    obtain ⟨sa, ea⟩ := ta
    obtain ⟨sb, eb⟩ := tb
    obtain ⟨sc, ec⟩ := tc
    generalize vT va vb a = xa at *
    generalize vT va vb b = xb at *
    generalize vT va vb c = xc at *
    unfold tyN at hty ⊢
    unfold vN
    simp at hty ⊢
    split at hty
    · rename_i h
      rw [if_pos h]
      obtain ⟨rfl, rfl⟩ := h
      refine ⟨hfb.1, fun x hx => ?_⟩
      cases xa with
      | none => simp at hx
      | some p =>
        simp only at hx
        split at hx
        · exact hfc.2 x (by simpa using hx)
        · cases xb with
          | none => simp at hx
          | some q =>
            have h1 := vIn_some hx
            simp [vOp] at h1
            obtain ⟨rfl, _⟩ := h1
            exact hfb.2 q rfl
    · simp at hty)
theorem one_fine {v : Dom.V} (h : v.may = 0) (s : Int) : Fine v.srt (some (v.lo + s % v.size)) := by
  have hb := val_one h s
  unfold Dom.V.may Dom.mayOfV at h
  unfold Dom.V.size Dom.sizeOfV at hb ⊢
  by_cases h1 : v.srt = 1
  · rw [if_pos h1] at h hb ⊢
    refine ⟨.inl h1, fun x hx => ⟨fun _ => ?_, fun h2 => by omega⟩⟩
    injection hx with hx
    split at h
    · omega
    · omega
  · rw [if_neg h1] at h
    by_cases h2 : v.srt = 2
    · refine ⟨.inr h2, fun x hx => ⟨fun h => absurd h h1, fun _ => ?_⟩⟩
      injection hx with hx
      rw [← hx]; exact hb
    · rw [if_neg h2] at h; omega
theorem vals_fine : ∀ (l : List Dom.V) (s : Int), (∀ v ∈ l, v.may = 0) → ∀ n u, l[n]? = some u → Fine u.srt (some ((Dom.valsL l s).getD n 0))
  | [], s, h, n, u, hu => by simp at hu
  | v :: r, s, h, 0, u, hu => by
    simp at hu; subst hu
    rw [Dom.valsL]
    exact one_fine (h v (by simp)) s
  | v :: r, s, h, n + 1, u, hu => by
    rw [Dom.valsL]
    exact vals_fine r (s / v.size) (fun v hv => h v (by simp [hv])) n u (by simpa using hu)
end Go.Proofs.YtbppdalfcldodaaGreat
namespace Go.Proofs.YtbppdalfcldodaaGreat
open Go.RowKit Ex
set_option linter.unusedSimpArgs false
set_option linter.unusedVariables false

theorem truth_any (p : Bool) (w : World) : Calls Tryz.prog 119 #[.bool p] w fun e w' => e = .returned (.int .i64 (bitI p)) ∧ w = w' := by
  cases p
  all_goals
    go_enter Tryz.func119, Tryz.ntmps119
    go_wp2_with fail
    go_ret
    exact ⟨rfl, rfl⟩
theorem within_any (z : Int) (w : World) : Calls Tryz.prog 120 #[.int .i64 z] w fun e w' => e = .returned (.tuple #[.int .i64 (valP (vIn z)).1, .int .i64 (valP (vIn z)).2]) ∧ w = w' := by
  by_cases h1 : z < -1000
  · have h1b : decide (z < -1000) = true := by simp; omega
    have Hf : Hid (valP (vIn z) = (0, 6)) := hide (by unfold vIn; rw [if_neg (by omega)]; rfl)
    go_enter Tryz.func120, Tryz.ntmps120
    go_wp2_with fail
    go_ret2
    exact ⟨ret_pair Hf.out, rfl⟩
  · have h1b : decide (z < -1000) = false := by simp; omega
    by_cases h2 : 1000 < z
    · have h2b : decide (1000 < z) = true := by simp; omega
      have Hf : Hid (valP (vIn z) = (0, 6)) := hide (by unfold vIn; rw [if_neg (by omega)]; rfl)
      go_enter Tryz.func120, Tryz.ntmps120
      go_wp2_with fail
      go_ret2
      exact ⟨ret_pair Hf.out, rfl⟩
    · have h2b : decide (1000 < z) = false := by simp; omega
      have Hf : Hid (valP (vIn z) = (z, 0)) := hide (by unfold vIn; rw [if_pos (by omega)]; rfl)
      go_enter Tryz.func120, Tryz.ntmps120
      go_wp2_with fail
      go_ret2
      exact ⟨ret_pair Hf.out, rfl⟩
def decO (op x : Int) : Option Int := if op = 5 then some (1 - x) else if op = 6 ∧ x = 0 then some 0 else if (op = 7 ∧ x = 1) ∨ (op = 8 ∧ x = 0) then some 1 else none
def decV (v : Option Int) : Value := match v with
  | some r => .tuple #[.int .i64 r, .bool true]
  | none => .tuple #[.int .i64 0, .bool false]
set_option maxHeartbeats 1000000 in
theorem decided_any (op x : Int) (w : World) (h1 : -1000 ≤ x) (h2 : x ≤ 1001) : Calls Tryz.prog 99 #[.int .i64 op, .int .i64 x] w fun e w' => e = .returned (decV (decO op x)) ∧ w = w' := by
  by_cases q5 : op = 5
  · have Hf : Hid (decO op x = some (1 - x)) := hide (by simp [decO, q5])
    subst q5
    go_enter Tryz.func99, Tryz.ntmps99
    go_wp2_with fail
    go_ret2
    exact ⟨by rw [Hf.out]; rfl, rfl⟩
  · by_cases q6 : op = 6
    · subst q6
      by_cases hx : x = 0
      · have hxb : (x == 0) = true := by simp [hx]
        have Hf : Hid (decO 6 x = some 0) := hide (by simp [decO, hx])
        clear hx
        go_enter Tryz.func99, Tryz.ntmps99
        go_wp2_with fail
        go_ret2
        exact ⟨by rw [Hf.out]; rfl, rfl⟩
      · have hxb : (x == 0) = false := by simp [hx]
        have Hf : Hid (decO 6 x = none) := hide (by simp [decO, hx])
        clear hx
        go_enter Tryz.func99, Tryz.ntmps99
        go_wp2_with fail
        go_ret2
        exact ⟨by rw [Hf.out]; rfl, rfl⟩
    · by_cases q7 : op = 7
      · subst q7
        by_cases hx : x = 1
        · have hxb : (x == 1) = true := by simp [hx]
          have Hf : Hid (decO 7 x = some 1) := hide (by simp [decO, hx])
          clear hx
          go_enter Tryz.func99, Tryz.ntmps99
          go_wp2_with fail
          go_ret2
          exact ⟨by rw [Hf.out]; rfl, rfl⟩
        · have hxb : (x == 1) = false := by simp [hx]
          have Hf : Hid (decO 7 x = none) := hide (by simp [decO, hx])
          clear hx
          go_enter Tryz.func99, Tryz.ntmps99
          go_wp2_with fail
          go_ret2
          exact ⟨by rw [Hf.out]; rfl, rfl⟩
      · by_cases q8 : op = 8
        · subst q8
          by_cases hx : x = 0
          · have hxb : (x == 0) = true := by simp [hx]
            have Hf : Hid (decO 8 x = some 1) := hide (by simp [decO, hx])
            clear hx
            go_enter Tryz.func99, Tryz.ntmps99
            go_wp2_with fail
            go_ret2
            exact ⟨by rw [Hf.out]; rfl, rfl⟩
          · have hxb : (x == 0) = false := by simp [hx]
            have Hf : Hid (decO 8 x = none) := hide (by simp [decO, hx])
            clear hx
            go_enter Tryz.func99, Tryz.ntmps99
            go_wp2_with fail
            go_ret2
            exact ⟨by rw [Hf.out]; rfl, rfl⟩
        · have Hf : Hid (decO op x = none) := hide (by simp [decO, q5, q6, q7, q8])
          have b5 : (op == 5) = false := by simp [q5]
          have b6 : (op == 6) = false := by simp [q6]
          have b7 : (op == 7) = false := by simp [q7]
          have b8 : (op == 8) = false := by simp [q8]
          clear q5 q6 q7 q8
          go_enter Tryz.func99, Tryz.ntmps99
          go_wp2_with fail
          go_ret2
          exact ⟨by rw [Hf.out]; rfl, rfl⟩
def joinP (op x y : Int) : Int × Int := if op = 9 then (bitI (x == y), 0) else if op = 10 then (bitI (decide (x < y)), 0) else if op = 11 then (bitI (decide (x ≤ y)), 0) else if op = 12 then valP (vIn (x + y)) else if op = 13 then valP (vIn (x - y)) else if op = 14 then valP (vIn (x * y)) else (y, 0)
theorem joinP_eq {op x y : Int} (h1 : -1000 ≤ y) (h2 : y ≤ 1000) : joinP op x y = valP (vIn (vOp op x y)) := by
  have hb : ∀ p, valP (vIn (bitI p)) = (bitI p, 0) := fun p => by cases p <;> rfl
  unfold joinP vOp
  repeat' split
  all_goals first | rfl | (rw [hb]) | (unfold vIn; rw [if_pos ⟨h1, h2⟩]; rfl)
set_option maxHeartbeats 1000000 in
theorem djoin_any (op x y : Int) (w : World) (x1 : -1000 ≤ x) (x2 : x ≤ 1001) (y1 : -1000 ≤ y) (y2 : y ≤ 1001) : Calls Tryz.prog 100 #[.int .i64 op, .int .i64 x, .int .i64 y] w fun e w' => e = .returned (.tuple #[.int .i64 (joinP op x y).1, .int .i64 (joinP op x y).2]) ∧ w = w' := by
  obtain ⟨m1, m2⟩ := mul_bd x1 x2 y1 y2
  by_cases q9 : op = 9
  · subst q9
    go_enter Tryz.func100, Tryz.ntmps100
    go_wp2_with (go_at_call 119; refine (truth_any _ w).mono ?_; rintro e w1 ⟨rfl, rfl⟩)
    go_ret2
    exact ⟨rfl, rfl⟩
  · by_cases q10 : op = 10
    · subst q10
      go_enter Tryz.func100, Tryz.ntmps100
      go_wp2_with (go_at_call 119; refine (truth_any _ w).mono ?_; rintro e w1 ⟨rfl, rfl⟩)
      go_ret2
      exact ⟨rfl, rfl⟩
    · by_cases q11 : op = 11
      · subst q11
        go_enter Tryz.func100, Tryz.ntmps100
        go_wp2_with (go_at_call 119; refine (truth_any _ w).mono ?_; rintro e w1 ⟨rfl, rfl⟩)
        go_ret2
        exact ⟨rfl, rfl⟩
      · by_cases q12 : op = 12
        · subst q12
          go_enter Tryz.func100, Tryz.ntmps100
          go_wp2_with (go_at_call 120; refine (within_any _ w).mono ?_; rintro e w1 ⟨rfl, rfl⟩)
          go_ret2
          exact ⟨rfl, rfl⟩
        · by_cases q13 : op = 13
          · subst q13
            go_enter Tryz.func100, Tryz.ntmps100
            go_wp2_with (go_at_call 120; refine (within_any _ w).mono ?_; rintro e w1 ⟨rfl, rfl⟩)
            go_ret2
            exact ⟨rfl, rfl⟩
          · by_cases q14 : op = 14
            · subst q14
              go_enter Tryz.func100, Tryz.ntmps100
              go_wp2_with (go_at_call 120; refine (within_any _ w).mono ?_; rintro e w1 ⟨rfl, rfl⟩)
              go_ret2
              exact ⟨rfl, rfl⟩
            · have Hf : Hid (joinP op x y = (y, 0)) := hide (by simp [joinP, q9, q10, q11, q12, q13, q14])
              have b9 : (op == 9) = false := by simp [q9]
              have b10 : (op == 10) = false := by simp [q10]
              have b11 : (op == 11) = false := by simp [q11]
              have b12 : (op == 12) = false := by simp [q12]
              have b13 : (op == 13) = false := by simp [q13]
              have b14 : (op == 14) = false := by simp [q14]
              clear q9 q10 q11 q12 q13 q14
              go_enter Tryz.func100, Tryz.ntmps100
              go_wp2_with fail
              go_ret2
              exact ⟨ret_pair Hf.out, rfl⟩
end Go.Proofs.YtbppdalfcldodaaGreat
namespace Go.Proofs.YtbppdalfcldodaaGreat
open Go.RowKit Ex
open Go.Sort (grow)
set_option linter.unusedSimpArgs false
set_option linter.unusedVariables false

section
variable {a b : List Int} {op n x y : Int} {vs : List (Option Int)}
theorem vN_none (h : 5 ≤ op) (h0 : vs.getD 0 none = none) : vN a b op n vs = none := by
  unfold vN; rw [if_neg (by omega), if_neg (by omega), if_neg (by omega), h0]
theorem vN_dec {r : Int} (h : 5 ≤ op) (h0 : vs.getD 0 none = some x) (hd : decO op x = some r) : vN a b op n vs = some r := by
  unfold vN; rw [if_neg (by omega), if_neg (by omega), if_neg (by omega), h0]
  unfold decO at hd
  simp only
  by_cases h5 : op = 5
  · rw [if_pos h5] at hd ⊢; exact hd
  · rw [if_neg h5] at hd ⊢
    by_cases h6 : op = 6 ∧ x = 0
    · rw [if_pos h6] at hd ⊢; exact hd
    · rw [if_neg h6] at hd ⊢
      by_cases h7 : (op = 7 ∧ x = 1) ∨ (op = 8 ∧ x = 0)
      · rw [if_pos h7] at hd ⊢; exact hd
      · rw [if_neg h7] at hd; cases hd
theorem decO_none (hd : decO op x = none) : op ≠ 5 ∧ ¬ (op = 6 ∧ x = 0) ∧ ¬ ((op = 7 ∧ x = 1) ∨ (op = 8 ∧ x = 0)) := by
  unfold decO at hd
  by_cases h5 : op = 5
  · rw [if_pos h5] at hd; cases hd
  · rw [if_neg h5] at hd
    by_cases h6 : op = 6 ∧ x = 0
    · rw [if_pos h6] at hd; cases hd
    · rw [if_neg h6] at hd
      by_cases h7 : (op = 7 ∧ x = 1) ∨ (op = 8 ∧ x = 0)
      · rw [if_pos h7] at hd; cases hd
      · exact ⟨h5, h6, h7⟩
theorem vN_two (h : 5 ≤ op) (h15 : op ≠ 15) (h0 : vs.getD 0 none = some x) (hd : decO op x = none) : vN a b op n vs = match vs.getD 1 none with
    | none => none
    | some y => vIn (vOp op x y) := by
  obtain ⟨h5, h6, h7⟩ := decO_none hd
  unfold vN; rw [if_neg (by omega), if_neg (by omega), if_neg (by omega), h0]
  simp only
  rw [if_neg h5, if_neg h6, if_neg h7, if_neg (by omega)]
  cases vs.getD 1 none <;> rfl
theorem vN_if0 (h0 : vs.getD 0 none = some 0) : vN a b 15 n vs = vs.getD 2 none := by
  unfold vN; rw [if_neg (by omega), if_neg (by omega), if_neg (by omega), h0]
  simp
theorem vN_if1 (h0 : vs.getD 0 none = some 1) (hb : ∀ y, vs.getD 1 none = some y → -1000 ≤ y ∧ y ≤ 1000) : vN a b 15 n vs = vs.getD 1 none := by
  unfold vN; rw [if_neg (by omega), if_neg (by omega), if_neg (by omega), h0]
  simp only
  rw [if_neg (by omega), if_neg (by omega), if_neg (by omega), if_neg (by omega)]
  cases h1 : vs.getD 1 none with
  | none => rfl
  | some y =>
    have := hb y h1
    show vIn (vOp 15 1 y) = some y
    unfold vOp vIn
    simp [this]
end
theorem fine_bd {s x : Int} {v : Option Int} (h : Fine s v) (hx : v = some x) : -1000 ≤ x ∧ x ≤ 1000 := by
  obtain ⟨h1, h2⟩ := h.2 x hx
  rcases h.1 with e | e
  · rcases h1 e with h | h <;> omega
  · exact h2 e
theorem ty_if {l : List Dom.V} {n : Int} {t u : T} (ho : t.op = 15) (h : (tyT l t).2 = 0) (hu : t.kids[0]? = some u) : (tyT l u).1 = 1 := by
  obtain ⟨op, n, ks⟩ := t
  simp only [T.op, T.kids] at ho hu
  subst ho
  have hk := ty_kids h
  cases ks with
  | nil => simp at hu
  | cons a r =>
    simp at hu; subst hu
    have ha : (tyT l a).2 = 0 := tyK_mem hk.1 a (by simp)
    rw [hk.2, tyK, if_pos ha] at h
    unfold tyN at h
    simp at h
    split at h
    · rename_i h1; exact h1.1
    · cases h
def Two2 (w : World) (b : Nat) (u v : Value) : Prop := w.cell? ⟨b, 0, none⟩ = some u ∧ w.cell? ⟨b, 1, none⟩ = some v
theorem two2_new (w : World) (u v : Value) (hu : u.oneCell' = true) (hv : v.oneCell' = true) (t : TypeId) : Two2 (w.alloc (.cells #[u, v] t)) w.heap.size u v := by
  unfold Two2
  simp [go_sem]
theorem Two2.below {w w' : World} {B b : Nat} {u v : Value} (h : Two2 w b u v) (hb : Below B w w') (hB : b < B) : Two2 w' b u v :=
  ⟨(hb.cell (by exact hB)).trans h.1, (hb.cell (by exact hB)).trans h.2⟩

set_option maxRecDepth 100000 in
set_option maxHeartbeats 4000000 in
theorem dfind_any (B : Nat) (Aa : Option Addr) (na ca : Nat) (la : List Int) (Ab : Option Addr) (nb cb : Nat) (lb : List Int) (lv : List Dom.V) (hna : na = lv.length) (hnb : nb = lv.length) (hl6 : lv.length ≤ 1000) (hva : ∀ n u, lv[n]? = some u → Fine u.srt (some (la.getD n 0))) (hvb : ∀ n u, lv[n]? = some u → Fine u.srt (some (lb.getD n 0))) :
    ∀ (d : Nat) (op n : Int) (A : Option Addr) (len cap : Nat) (t : T) (w : World), B ≤ w.heap.size → RE w B d op n A len cap t → sound t = true → (tyT lv t).2 = 0 → RI w B Aa na la → RI w B Ab nb lb →
    Calls Tryz.prog 68 #[.agg #[.slice Aa na ca, .slice Ab nb cb], .agg #[.int .i64 op, .int .i64 n, .slice A len cap]] w fun e w' => e = .returned (.tuple #[.int .i64 (valP (vT la lb t)).1, .int .i64 (valP (vT la lb t)).2]) ∧ Below w.heap.size w w' := by
  have Hva := hide hva
  have Hvb := hide hvb
  have Hna := hide hna
  have Hnb := hide hnb
  have ha1 : na ≤ 1000 := by omega
  have hb1' : nb ≤ 1000 := by omega
  clear hva hvb hna hnb hl6
  intro d
  induction d with
  | zero => intro op n A len cap t w hB h; exact absurd h id
  | succ d ih =>
    intro op n A len cap t w hB hre hsd hty hria hrib
    have IH := hide ih; clear ih
    obtain ⟨ho1, ho2, hl3⟩ := sound_op hsd
    have hle := sound_len15' hsd
    have Hv : Hid (vT la lb t = vN la lb op n (vK la lb t.kids)) := hide (by
      have e := hre.eq_mk
      rw [vT_eq, show t.op = op by rw [e]; rfl, show t.n = n by rw [e]; rfl])
    obtain ⟨hx1, hx2, hlen, hcap, hmx, _⟩ := id hre
    rw [hx1] at ho1 ho2 hle
    rw [hlen] at hl3 hle
    unfold maxLen at hmx
    have Hn : Hid ((op = 3 ∨ op = 4) → 0 ≤ n ∧ n < lv.length) := hide (fun ho => by
      have h := sound_n (op := op) hsd ho hx1
      rw [hx2] at h
      have hn0 : (n.toNat : Int) = n := by omega
      have := ty_reads lv t op n.toNat ho hty (by rw [rdT_eq, hx1, hx2]; simp [hn0])
      omega)
    have Hop : Hid (t.op = op) := hide hx1
    have hbx : Below w.heap.size w ((w.alloc (.cells #[.slice Aa na ca, .slice Ab nb cb] 107)).alloc (.cells #[.int .i64 op, .int .i64 n, .slice A len cap] 25)) := ((Below.refl _ _).alloc (Nat.le_refl _) _).alloc (by simp) _
    have e1 : (w.alloc (.cells #[.slice Aa na ca, .slice Ab nb cb] 107)).heap.size = w.heap.size + 1 := by simp
    have hbox := box_new (w.alloc (.cells #[.slice Aa na ca, .slice Ab nb cb] 107)) op n A len cap 25
    rw [e1] at hbox
    have htwo := (two2_new w (.slice Aa na ca) (.slice Ab nb cb) rfl rfl 107).below ((Below.refl (w.heap.size + 1) _).alloc (by omega) (.cells #[.int .i64 op, .int .i64 n, .slice A len cap] 25)) (by omega)
    have hz0 : w.heap.size + 2 ≤ ((w.alloc (.cells #[.slice Aa na ca, .slice Ab nb cb] 107)).alloc (.cells #[.int .i64 op, .int .i64 n, .slice A len cap] 25)).heap.size := by simp
    have Hre := hide (hre.below (hbx.mono hB))
    have Hria := hide (hria.below (hbx.mono hB))
    have Hrib := hide (hrib.below (hbx.mono hB))
    have Hbox := hide hbox
    have Htwo := hide htwo
    have Hbx := hide hbx
    have Hsd := hide hsd
    have Hty := hide hty
    clear hre hsd hty hria hrib hx1 hx2 hbx hlen e1 hbox htwo
    obtain ⟨f0, f1, f2⟩ := Hbox.out
    obtain ⟨t0, t1⟩ := Htwo.out
    by_cases h12 : op = 1 ∨ op = 2
    · have Hf : Hid (valP (vT la lb t) = (n, 0)) := hide (by rw [Hv.out]; unfold vN; rw [if_pos h12]; rfl)
      rcases h12 with rfl | rfl
      all_goals
        go_enter Tryz.func68, Tryz.ntmps68
        go_wp2_with fail
        go_ret2
        exact ⟨ret_pair Hf.out, Hbx.out⟩
    · by_cases h3 : op = 3
      · obtain ⟨n0, n6⟩ := Hn.out (.inl h3)
        obtain ⟨q, rfl⟩ := Int.eq_ofNat_of_zero_le n0
        have hq : q < na := by rw [Hna.out]; omega
        have hq' : (q : Int) < (na : Int) := by omega
        subst h3
        obtain ⟨bb, bo, x, rfl, hbb, hx, cx⟩ := Hria.out.at_ hq
        have Hf : Hid (valP (vT la lb t) = (x, 0)) := hide (by rw [Hv.out]; simp [vN, List.getD, hx, valP])
        clear hx h12
        go_enter Tryz.func68, Tryz.ntmps68
        go_wp2_with fail
        go_ret2
        exact ⟨ret_pair Hf.out, Hbx.out⟩
      · by_cases h4 : op = 4
        · obtain ⟨n0, n6⟩ := Hn.out (.inr h4)
          obtain ⟨q, rfl⟩ := Int.eq_ofNat_of_zero_le n0
          have hq : q < nb := by rw [Hnb.out]; omega
          have hq' : (q : Int) < (nb : Int) := by omega
          subst h4
          obtain ⟨bb, bo, x, rfl, hbb, hx, cx⟩ := Hrib.out.at_ hq
          have Hf : Hid (valP (vT la lb t) = (x, 0)) := hide (by rw [Hv.out]; simp [vN, List.getD, hx, valP])
          clear hx h12 h3
          go_enter Tryz.func68, Tryz.ntmps68
          go_wp2_with fail
          go_ret2
          exact ⟨ret_pair Hf.out, Hbx.out⟩
        · have h5 : 5 ≤ op := by omega
          have b1 : (op == 1) = false := by simp; omega
          have b2 : (op == 2) = false := by simp; omega
          have b3 : (op == 3) = false := by simp; omega
          have b4 : (op == 4) = false := by simp; omega
          have hk1 : 1 ≤ len := by unfold kidsOf at hle; revert hle; (repeat' split) <;> omega
          have Hk2 : Hid (6 ≤ op → 2 ≤ len) := hide (fun h6 => by unfold kidsOf at hle; revert hle; (repeat' split) <;> omega)
          have Hk3 : Hid (op = 15 → len = 3) := hide (fun h6 => by unfold kidsOf at hle; revert hle; (repeat' split) <;> omega)
          clear h12 h3 h4 Hn hle ho1 ho2 hl3
          go_enter Tryz.func68, Tryz.ntmps68
          go_wp2_with fail
          clear f0 f1 f2 t0 t1
          generalize (w.alloc (.cells #[.slice Aa na ca, .slice Ab nb cb] 107)).alloc (.cells #[.int .i64 op, .int .i64 n, .slice A len cap] 25) = W at *
          have Hkid : Hid (∀ (k : Nat), k < len → ∃ b off u op2 n2 A2 l2 c2, A = some ⟨b, off, none⟩ ∧ b < W.heap.size ∧ CellE W b (off + k * 3) op2 n2 A2 l2 c2 ∧ (vK la lb t.kids).getD k none = vT la lb u ∧ t.kids[k]? = some u ∧ Fine (tyT lv u).1 (vT la lb u) ∧ ∀ w', Below W.heap.size W w' → Calls Tryz.prog 68 #[.agg #[.slice Aa na ca, .slice Ab nb cb], .agg #[.int .i64 op2, .int .i64 n2, .slice A2 l2 c2]] w' fun e w'' => e = .returned (.tuple #[.int .i64 (valP (vT la lb u)).1, .int .i64 (valP (vT la lb u)).2]) ∧ Below w'.heap.size w' w'') := hide (fun k hk => by
            obtain ⟨b, off, u, op2, n2, A2, l2, c2, e, hbB, hku, hce, hre2⟩ := Hre.out.at_ hk
            have hsu := soundK_at _ k u (sound_kids Hsd.out) hku
            have htu : (tyT lv u).2 = 0 := by
              have h1 := Hty.out
              have h2 := List.mem_of_getElem? hku
              cases t with
              | mk o m ks => exact tyK_mem (ty_kids h1).1 u h2
            exact ⟨b, off, u, op2, n2, A2, l2, c2, e, by omega, hce, vK_at la lb t.kids k u hku, hku, fine_gen lv la lb Hva.out Hvb.out u hsu htu, fun w' hb => IH.out op2 n2 A2 l2 c2 u w' (by have := hb.size; omega) (hre2.below (hb.mono (by omega))) hsu htu (Hria.out.below (hb.mono (by omega))) (Hrib.out.below (hb.mono (by omega)))⟩)
          have Hif : Hid (∀ u, op = 15 → t.kids[0]? = some u → (tyT lv u).1 = 1) := hide (fun u ho hu => ty_if (n := n) (by rw [Hop.out]; exact ho) Hty.out hu)
          clear IH Hsd Hty Hre Hria Hrib Hop Hva Hvb
          obtain ⟨b, off, u, op2, n2, A2, l2, c2, rfl, hbW, ⟨c0, c1, cs⟩, hvk, hku, hfu, hcall⟩ := Hkid.out 0 (by omega)
          rw [Nat.zero_mul, Nat.add_zero] at c0 c1 cs
          have Hvk := hide hvk
          have Hfu := hide hfu
          have Hcall : Hid (∀ (dd : Nat) (os : Array Obj), Calls Tryz.prog 68 #[.agg #[.slice Aa na ca, .slice Ab nb cb], .agg #[.int .i64 op2, .int .i64 n2, .slice A2 l2 c2]] (grow (redrawn W dd) os) fun e w' => e = .returned (.tuple #[.int .i64 (valP (vT la lb u)).1, .int .i64 (valP (vT la lb u)).2]) ∧ Below (grow (redrawn W dd) os).heap.size (grow (redrawn W dd) os) w') := hide (fun dd os => hcall _ (below_regrown W dd os))
          have Hsu : Hid (op = 15 → (tyT lv u).1 = 1) := hide (fun ho => Hif.out u ho hku)
          clear hvk hfu hcall hku Hif
          obtain ⟨_, _, f2⟩ := Hbox.out
          obtain ⟨t0, t1⟩ := Htwo.out
          have C0 := cell_regrown c0
          have C1 := cell_regrown c1
          have C2 := cell_regrown cs
          have F2 := cell_regrown f2
          have T0 := cell_regrown t0
          have T1 := cell_regrown t1
          clear c0 c1 cs f2 t0 t1
          have hk1' : (0 : Int) < (len : Int) := by omega
          have hk1n : 0 < len := by omega
          refine wp_region_quiet_below (by kernel_rfl) (by kernel_rfl) ?_
          repeat (go_big_quiet_step ((go_at_call 68; exact Calls.regrown_of (Hcall.out _ _))))
          refine wpQuiet_nil ?_
          intro w1 hw1
          obtain ⟨p, hp⟩ := hw1
          have hb1 : Below W.heap.size W w1 := by rw [hp]; exact below_regrown W p.d p.os
          clear hp C0 C1 C2 F2 T0 T1 Hcall
          have hz1 := hb1.size
          have Hb1 := hide hb1
          have Hbw := hide (Hbx.out.trans (hb1.mono (by omega)))
          have Hbox1 := hide (Hbox.out.below hb1 (by omega))
          have Htwo1 := hide (Htwo.out.below hb1 (by omega))
          clear hb1 Hbox Htwo Hbx hk1' hk1n
          rcases hvu : vT la lb u with _ | x
          · have Hf : Hid (valP (vT la lb t) = (0, 6)) := hide (by rw [Hv.out, vN_none h5 (by rw [Hvk.out, hvu])]; rfl)
            clear hvu Hvk
            simp only [valP]
            go_wp2_with fail
            go_ret2
            exact ⟨ret_pair Hf.out, Hbw.out⟩
          · obtain ⟨x1, x2⟩ := fine_bd Hfu.out hvu
            have Hv0 : Hid ((vK la lb t.kids).getD 0 none = some x) := hide (by rw [Hvk.out, hvu])
            have Hx01 : Hid (op = 15 → x = 0 ∨ x = 1) := hide (fun ho => (Hfu.out.2 x hvu).1 (Hsu.out ho))
            clear hvu Hvk Hfu Hsu
            simp only [valP]
            obtain ⟨f0, f1, f2⟩ := Hbox1.out
            rcases hd : decO op x with _ | r
            · have Hdec : Hid (Calls Tryz.prog 99 #[.int .i64 op, .int .i64 x] w1 fun e w' => e = .returned (.tuple #[.int .i64 0, .bool false]) ∧ w1 = w') := hide (by
                have := decided_any op x w1 x1 (by omega)
                rw [hd] at this; exact this)
              have hd3 := decO_none hd
              have h6 : 6 ≤ op := by omega
              have Hd := hide hd
              clear hd hd3
              have hl2 : 2 ≤ len := Hk2.out h6
              by_cases h15 : op = 15
              · subst h15
                obtain rfl : len = 3 := Hk3.out rfl
                obtain ⟨_, _, f2⟩ := Hbox1.out
                obtain ⟨t0, t1⟩ := Htwo1.out
                have F2 := cell_regrown f2
                have T0 := cell_regrown t0
                have T1 := cell_regrown t1
                clear t0 t1
                rcases Hx01.out rfl with rfl | rfl
                · obtain ⟨b', off', u1, op3, n3, A3, l3, c3, e', hbW', ⟨c0, c1, cs⟩, hvk, hku, hfu, hcall⟩ := Hkid.out 2 (by omega)
                  injection e' with e'
                  injection e' with e1 e2
                  subst e1; subst e2
                  have Hf : Hid (valP (vT la lb t) = valP (vT la lb u1)) := hide (by rw [Hv.out, vN_if0 Hv0.out, hvk])
                  have C0 := cell_regrown ((Hb1.out.cell (p := ⟨b, off + 2 * 3, none⟩) (by exact hbW)).trans c0)
                  have C1 := cell_regrown ((Hb1.out.cell (p := ⟨b, off + 2 * 3 + 1, none⟩) (by exact hbW)).trans c1)
                  have C2 := cell_regrown ((Hb1.out.cell (p := ⟨b, off + 2 * 3 + 2, none⟩) (by exact hbW)).trans cs)
                  have Hcall : Hid (∀ (dd : Nat) (os : Array Obj), Calls Tryz.prog 68 #[.agg #[.slice Aa na ca, .slice Ab nb cb], .agg #[.int .i64 op3, .int .i64 n3, .slice A3 l3 c3]] (grow (redrawn w1 dd) os) fun e w' => e = .returned (.tuple #[.int .i64 (valP (vT la lb u1)).1, .int .i64 (valP (vT la lb u1)).2]) ∧ Below (grow (redrawn w1 dd) os).heap.size (grow (redrawn w1 dd) os) w') := hide (fun dd os => hcall _ (Hb1.out.trans ((below_regrown w1 dd os).mono hz1)))
                  clear c0 c1 cs hvk hku hfu hcall
                  go_wp2_with (go_at_call 99; refine Hdec.out.mono ?_; rintro e w2 ⟨rfl, rfl⟩)
                  refine wp_region_quiet_below (by kernel_rfl) (by kernel_rfl) ?_
                  repeat (go_big_quiet_step ((go_at_call 68; exact Calls.regrown_of (Hcall.out _ _))))
                  refine wpQuiet_nil ?_
                  intro w2 hw2
                  obtain ⟨p, hp⟩ := hw2
                  have hb2 : Below w.heap.size w w2 := by rw [hp]; exact Hbw.out.trans ((below_regrown w1 p.d p.os).mono (by omega))
                  clear hp C0 C1 C2 F2 T0 T1 Hcall f0 f1 f2
                  generalize valP (vT la lb u1) = r at *
                  obtain ⟨r1, r2⟩ := r
                  simp only
                  go_wp2_with fail
                  go_ret2
                  exact ⟨ret_pair Hf.out, hb2⟩
                · obtain ⟨b', off', u1, op3, n3, A3, l3, c3, e', hbW', ⟨c0, c1, cs⟩, hvk, hku, hfu, hcall⟩ := Hkid.out 1 (by omega)
                  injection e' with e'
                  injection e' with e1 e2
                  subst e1; subst e2
                  rw [Nat.one_mul] at c0 c1 cs
                  have Hf : Hid (valP (vT la lb t) = valP (vT la lb u1)) := hide (by rw [Hv.out, vN_if1 Hv0.out (fun y hy => fine_bd hfu (hvk.symm.trans hy)), hvk])
                  have C0 := cell_regrown ((Hb1.out.cell (p := ⟨b, off + 3, none⟩) (by exact hbW)).trans c0)
                  have C1 := cell_regrown ((Hb1.out.cell (p := ⟨b, off + 3 + 1, none⟩) (by exact hbW)).trans c1)
                  have C2 := cell_regrown ((Hb1.out.cell (p := ⟨b, off + 3 + 2, none⟩) (by exact hbW)).trans cs)
                  have Hcall : Hid (∀ (dd : Nat) (os : Array Obj), Calls Tryz.prog 68 #[.agg #[.slice Aa na ca, .slice Ab nb cb], .agg #[.int .i64 op3, .int .i64 n3, .slice A3 l3 c3]] (grow (redrawn w1 dd) os) fun e w' => e = .returned (.tuple #[.int .i64 (valP (vT la lb u1)).1, .int .i64 (valP (vT la lb u1)).2]) ∧ Below (grow (redrawn w1 dd) os).heap.size (grow (redrawn w1 dd) os) w') := hide (fun dd os => hcall _ (Hb1.out.trans ((below_regrown w1 dd os).mono hz1)))
                  clear c0 c1 cs hvk hku hfu hcall
                  go_wp2_with (go_at_call 99; refine Hdec.out.mono ?_; rintro e w2 ⟨rfl, rfl⟩)
                  refine wp_region_quiet_below (by kernel_rfl) (by kernel_rfl) ?_
                  repeat (go_big_quiet_step ((go_at_call 68; exact Calls.regrown_of (Hcall.out _ _))))
                  refine wpQuiet_nil ?_
                  intro w2 hw2
                  obtain ⟨p, hp⟩ := hw2
                  have hb2 : Below w.heap.size w w2 := by rw [hp]; exact Hbw.out.trans ((below_regrown w1 p.d p.os).mono (by omega))
                  clear hp C0 C1 C2 F2 T0 T1 Hcall f0 f1 f2
                  generalize valP (vT la lb u1) = r at *
                  obtain ⟨r1, r2⟩ := r
                  simp only
                  go_wp2_with fail
                  go_ret2
                  exact ⟨ret_pair Hf.out, hb2⟩
              · have b15 : (op == 15) = false := by simp [h15]
                have Hv2 := hide (vN_two (a := la) (b := lb) (n := n) h5 h15 Hv0.out Hd.out)
                clear h15 Hx01
                obtain ⟨b', off', u1, op3, n3, A3, l3, c3, e', hbW', ⟨c0, c1, cs⟩, hvk, hku, hfu, hcall⟩ := Hkid.out 1 (by omega)
                injection e' with e'
                injection e' with e1 e2
                subst e1; subst e2
                rw [Nat.one_mul] at c0 c1 cs
                obtain ⟨_, _, f2⟩ := Hbox1.out
                obtain ⟨t0, t1⟩ := Htwo1.out
                have F2 := cell_regrown f2
                have T0 := cell_regrown t0
                have T1 := cell_regrown t1
                clear t0 t1
                have C0 := cell_regrown ((Hb1.out.cell (p := ⟨b, off + 3, none⟩) (by exact hbW)).trans c0)
                have C1 := cell_regrown ((Hb1.out.cell (p := ⟨b, off + 3 + 1, none⟩) (by exact hbW)).trans c1)
                have C2 := cell_regrown ((Hb1.out.cell (p := ⟨b, off + 3 + 2, none⟩) (by exact hbW)).trans cs)
                have Hcall : Hid (∀ (dd : Nat) (os : Array Obj), Calls Tryz.prog 68 #[.agg #[.slice Aa na ca, .slice Ab nb cb], .agg #[.int .i64 op3, .int .i64 n3, .slice A3 l3 c3]] (grow (redrawn w1 dd) os) fun e w' => e = .returned (.tuple #[.int .i64 (valP (vT la lb u1)).1, .int .i64 (valP (vT la lb u1)).2]) ∧ Below (grow (redrawn w1 dd) os).heap.size (grow (redrawn w1 dd) os) w') := hide (fun dd os => hcall _ (Hb1.out.trans ((below_regrown w1 dd os).mono hz1)))
                have Hvk := hide hvk
                have Hfu := hide hfu
                clear c0 c1 cs hvk hku hfu hcall
                have hl2' : (1 : Int) < (len : Int) := by omega
                have hl2n : 1 < len := by omega
                go_wp2_with (go_at_call 99; refine Hdec.out.mono ?_; rintro e w2 ⟨rfl, rfl⟩)
                refine wp_region_quiet_below (by kernel_rfl) (by kernel_rfl) ?_
                repeat (go_big_quiet_step ((go_at_call 68; exact Calls.regrown_of (Hcall.out _ _))))
                refine wpQuiet_nil ?_
                intro w2 hw2
                obtain ⟨p, hp⟩ := hw2
                have hb12 : Below w1.heap.size w1 w2 := by rw [hp]; exact below_regrown w1 p.d p.os
                have Hb2 := hide (Hbw.out.trans (hb12.mono (by omega)))
                have Hbox2 := hide (Hbox1.out.below hb12 (by omega))
                clear hp hb12 C0 C1 C2 F2 T0 T1 Hcall f0 f1 f2 hl2' hl2n
                obtain ⟨f0, f1, f2⟩ := Hbox2.out
                rcases hvu : vT la lb u1 with _ | y
                · have Hf : Hid (valP (vT la lb t) = (0, 6)) := hide (by rw [Hv.out, Hv2.out, Hvk.out, hvu]; rfl)
                  clear hvu Hvk
                  simp only [valP]
                  go_wp2_with fail
                  go_ret2
                  exact ⟨ret_pair Hf.out, Hb2.out⟩
                · obtain ⟨y1, y2⟩ := fine_bd Hfu.out hvu
                  have Hf : Hid (valP (vT la lb t) = joinP op x y) := hide (by rw [Hv.out, Hv2.out, Hvk.out, hvu, joinP_eq y1 y2])
                  clear hvu Hvk
                  simp only [valP]
                  have hj := djoin_any op x y w2 x1 (by omega) y1 (by omega)
                  generalize joinP op x y = r at *
                  obtain ⟨r1, r2⟩ := r
                  have Hj := hide hj
                  clear hj
                  go_wp2_with (go_at_call 100; refine Hj.out.mono ?_; rintro e w3 ⟨rfl, rfl⟩)
                  go_ret2
                  exact ⟨ret_pair Hf.out, Hb2.out⟩
            · have Hf : Hid (valP (vT la lb t) = (r, 0)) := hide (by rw [Hv.out, vN_dec h5 Hv0.out hd]; rfl)
              have Hdec : Hid (Calls Tryz.prog 99 #[.int .i64 op, .int .i64 x] w1 fun e w' => e = .returned (.tuple #[.int .i64 r, .bool true]) ∧ w1 = w') := hide (by
                have := decided_any op x w1 x1 (by omega)
                rw [hd] at this; exact this)
              clear hd
              go_wp2_with (go_at_call 99; refine Hdec.out.mono ?_; rintro e w2 ⟨rfl, rfl⟩)
              go_ret2
              exact ⟨ret_pair Hf.out, Hbw.out⟩
end Go.Proofs.YtbppdalfcldodaaGreat
namespace Go.Proofs.YtbppdalfcldodaaGreat
open Go.RowKit Ex
set_option linter.unusedSimpArgs false
set_option linter.unusedVariables false

set_option maxHeartbeats 4000000 in
theorem dval_any (B : Nat) (Av : Option Addr) (nv cv : Nat) (lv : List Dom.V) (d : Nat) (op n : Int) (A : Option Addr) (len cap : Nat) (t : T) (now next : Int) (w : World) (hnv : nv ≤ maxLen) (hnc : nv ≤ cv) (hcv : cv ≤ maxLen) (hB : B ≤ w.heap.size) (hre : RE w B d op n A len cap t) (hrv : Dom.RV w B Av nv lv) (hnm : ∀ v ∈ lv, v.nm.size ≤ maxLen) :
    Calls Tryz.prog 32 #[.slice Av nv cv, .agg #[.int .i64 op, .int .i64 n, .slice A len cap], .int .i64 now, .int .i64 next] w fun e w' => e = .returned (.tuple #[.int .i64 (valE lv t now next).1, .int .i64 (valE lv t now next).2]) ∧ Below w.heap.size w w' := by
  have hbx : Below w.heap.size w (w.alloc (.cells #[.int .i64 op, .int .i64 n, .slice A len cap] 25)) := (Below.refl _ _).alloc (Nat.le_refl _) _
  have Hre := hide (hre.below (hbx.mono hB))
  have Hrv := hide (hrv.below (hbx.mono hB))
  have Hnl := hide hrv.1
  have Hbox := hide (box_new w op n A len cap 25)
  have hz0 : w.heap.size + 1 ≤ (w.alloc (.cells #[.int .i64 op, .int .i64 n, .slice A len cap] 25)).heap.size := by simp
  have Hbx := hide hbx
  have Hnm := hide hnm
  clear hre hrv hbx hnm
  have Hs : Hid (valE lv t now next = if (sortE lv t).2 = 0 then (if isSt lv now = true ∧ isSt lv next = true then valP (vT (Dom.valsL lv now) (Dom.valsL lv next) t) else (0, 1)) else (0, (sortE lv t).2)) := hide rfl
  have Hok : Hid ((sortE lv t).2 = 0 → Dom.mayL lv = 0 ∧ mayE t = 0 ∧ (tyT lv t).2 = 0) := hide (fun h => by
    unfold sortE at h
    by_cases hm : Dom.mayL lv = 0
    · rw [if_pos hm] at h
      by_cases he : mayE t = 0
      · rw [if_pos he] at h; exact ⟨hm, he, h⟩
      · rw [if_neg he] at h; exact absurd h he
    · rw [if_neg hm] at h; exact absurd h hm)
  obtain ⟨f0, f1, f2⟩ := Hbox.out
  go_enter Tryz.func32, Tryz.ntmps32
  go_wp2_with fail
  clear f0 f1 f2
  generalize w.alloc (.cells #[.int .i64 op, .int .i64 n, .slice A len cap] 25) = W at *
  refine (of_any B Av nv cv lv d op n A len cap t W hnv hnc hcv (by omega) Hre.out Hrv.out Hnm.out).mono ?_
  rintro e w1 ⟨rfl, hb1⟩
  have hz1 := hb1.size
  have Hb1 := hide (Hbx.out.trans (hb1.mono (by omega)))
  have Hre1 := hide (Hre.out.below (hb1.mono (by omega)))
  have Hrv1 := hide (Hrv.out.below (hb1.mono (by omega)))
  have Hbox1 := hide (Hbox.out.below hb1 (by omega))
  clear hb1 Hre Hrv Hbox Hbx
  generalize sortE lv t = r at *
  obtain ⟨r1, r2⟩ := r
  simp only at Hs Hok ⊢
  by_cases h2 : r2 = 0
  · have h2b : (r2 != 0) = false := by simp [h2]
    rw [if_pos h2] at Hs
    obtain ⟨hml, hmt, hty⟩ := Hok.out h2
    have Hml := hide hml
    have Hsd := hide (may_sound hmt)
    have Hty : Hid ((tyT lv t).2 = 0) := hide hty
    have H3 : Hid (∀ i, rdT t 3 i = true → i < nv) := hide (fun i hi => by rw [← Hnl.out]; exact ty_reads lv t 3 i (.inl rfl) hty hi)
    have H4 : Hid (∀ i, rdT t 4 i = true → i < nv) := hide (fun i hi => by rw [← Hnl.out]; exact ty_reads lv t 4 i (.inr rfl) hty hi)
    have hn6 : nv ≤ 6 := by have := Dom.totL_len (Dom.mayL_zero hml).2; rw [Hnl.out] at this; exact this
    have Hsm := hide (fun s => vals_small lv s (may_each hml))
    clear h2 hml hmt hty Hok
    by_cases hs1 : 0 ≤ now ∧ now < Dom.totL lv
    · have Hi1 : Hid (isSt lv now = true) := hide (by unfold isSt; exact decide_eq_true hs1)
      go_wp2_with fail
      refine (Dom.vals_good Av nv cv B lv now w1 (by omega) Hrv1.out Hnm.out Hml.out hs1.1 hs1.2).mono ?_
      rintro e w2 ⟨g1, rfl, hg1, hrow1, hb2⟩
      have hz2 := hb2.size
      have Hb2 := hide (Hb1.out.trans (hb2.mono (by omega)))
      have Hre2 := hide (Hre1.out.below (hb2.mono (by omega)))
      have Hrv2 := hide (Hrv1.out.below (hb2.mono (by omega)))
      have Hbox2 := hide (Hbox1.out.below hb2 (by omega))
      have Hr1 : Hid (RI w2 w2.heap.size (some ⟨g1, 0, none⟩) nv (Dom.valsL lv now)) := hide (row_ri (by exact hrow1) (by rw [Dom.valsL_length, Hnl.out]) hrow1.lt)
      clear hb2 hrow1 hg1 Hb1 Hre1 Hrv1 Hbox1 hs1
      by_cases hs2 : 0 ≤ next ∧ next < Dom.totL lv
      · have Hi2 : Hid (isSt lv next = true) := hide (by unfold isSt; exact decide_eq_true hs2)
        rw [if_pos ⟨Hi1.out, Hi2.out⟩] at Hs
        go_wp2_with fail
        refine (Dom.vals_good Av nv cv B lv next w2 (by omega) Hrv2.out Hnm.out Hml.out hs2.1 hs2.2).mono ?_
        rintro e w3 ⟨g2, rfl, hg2, hrow2, hb3⟩
        have hz3 := hb3.size
        have Hb3 := hide (Hb2.out.trans (hb3.mono (by omega)))
        have Hre3 := hide (RE.more (B' := w3.heap.size) (by omega) _ _ _ _ _ _ _ (Hre2.out.below (hb3.mono (by omega))))
        obtain ⟨f0, f1, f2⟩ := Hbox2.out.below hb3 (by omega)
        have Hr2 : Hid (RI w3 w3.heap.size (some ⟨g2, 0, none⟩) nv (Dom.valsL lv next)) := hide (row_ri (by exact hrow2) (by rw [Dom.valsL_length, Hnl.out]) hrow2.lt)
        have Hr13 := hide ((Hr1.out.below hb3).more (B' := w3.heap.size) (by omega))
        clear hb3 hrow2 hg2 Hb2 Hre2 Hrv2 Hbox2 hs2 Hr1
        go_wp2_with fail
        refine (dfind_any w3.heap.size (some ⟨g1, 0, none⟩) nv nv (Dom.valsL lv now) (some ⟨g2, 0, none⟩) nv nv (Dom.valsL lv next) lv Hnl.out.symm Hnl.out.symm (by have := Hnl.out; omega) (vals_fine lv now (may_each Hml.out)) (vals_fine lv next (may_each Hml.out)) d op n A len cap t w3 (Nat.le_refl _) Hre3.out Hsd.out Hty.out Hr13.out Hr2.out).mono ?_
        rintro e w4 ⟨rfl, hb4⟩
        have Hb4 := hide (Hb3.out.trans (hb4.mono (by omega)))
        clear hb4 f0 f1 f2
        generalize valP (vT (Dom.valsL lv now) (Dom.valsL lv next) t) = r at *
        obtain ⟨p1, p2⟩ := r
        simp only
        go_wp2_with fail
        go_ret2
        exact ⟨ret_pair Hs.out, Hb4.out⟩
      · rw [if_neg (fun h => hs2 (by simpa [isSt] using h.2))] at Hs
        go_wp2_with fail
        refine (Dom.vals_bad Av nv cv B lv next w2 hnv (by omega) Hrv2.out Hnm.out (.inr (by omega))).mono ?_
        rintro e w3 ⟨rfl, hb3⟩
        have Hb3 := hide (Hb2.out.trans (hb3.mono (by omega)))
        clear hb3
        go_wp2_with fail
        go_ret2
        exact ⟨ret_pair Hs.out, Hb3.out⟩
    · rw [if_neg (fun h => hs1 (by simpa [isSt] using h.1))] at Hs
      go_wp2_with fail
      refine (Dom.vals_bad Av nv cv B lv now w1 hnv (by omega) Hrv1.out Hnm.out (.inr (by omega))).mono ?_
      rintro e w2 ⟨rfl, hb2⟩
      have hz2 := hb2.size
      have Hb2 := hide (Hb1.out.trans (hb2.mono (by omega)))
      have Hrv2 := hide (Hrv1.out.below (hb2.mono (by omega)))
      clear hb2
      by_cases hs2 : 0 ≤ next ∧ next < Dom.totL lv
      · go_wp2_with fail
        refine (Dom.vals_good Av nv cv B lv next w2 (by omega) Hrv2.out Hnm.out Hml.out hs2.1 hs2.2).mono ?_
        rintro e w3 ⟨g2, rfl, hg2, hrow2, hb3⟩
        have Hb3 := hide (Hb2.out.trans (hb3.mono (by omega)))
        clear hb3 hrow2 hg2
        go_wp2_with fail
        go_ret2
        exact ⟨ret_pair Hs.out, Hb3.out⟩
      · go_wp2_with fail
        refine (Dom.vals_bad Av nv cv B lv next w2 hnv (by omega) Hrv2.out Hnm.out (.inr (by omega))).mono ?_
        rintro e w3 ⟨rfl, hb3⟩
        have Hb3 := hide (Hb2.out.trans (hb3.mono (by omega)))
        clear hb3
        go_wp2_with fail
        go_ret2
        exact ⟨ret_pair Hs.out, Hb3.out⟩
  · have h2b : (r2 != 0) = true := by simp [h2]
    rw [if_neg h2] at Hs
    clear h2
    go_wp2_with fail
    go_ret2
    exact ⟨ret_pair Hs.out, Hb1.out⟩

set_option maxHeartbeats 1000000 in
theorem dtrue_any (B : Nat) (Av : Option Addr) (nv cv : Nat) (lv : List Dom.V) (d : Nat) (op n : Int) (A : Option Addr) (len cap : Nat) (t : T) (now next : Int) (w : World) (hnv : nv ≤ maxLen) (hnc : nv ≤ cv) (hcv : cv ≤ maxLen) (hB : B ≤ w.heap.size) (hre : RE w B d op n A len cap t) (hrv : Dom.RV w B Av nv lv) (hnm : ∀ v ∈ lv, v.nm.size ≤ maxLen) :
    Calls Tryz.prog 50 #[.slice Av nv cv, .agg #[.int .i64 op, .int .i64 n, .slice A len cap], .int .i64 now, .int .i64 next] w fun e w' => e = .returned (.bool (trueE lv t now next)) ∧ Below w.heap.size w w' := by
  have hbx : Below w.heap.size w (w.alloc (.cells #[.int .i64 op, .int .i64 n, .slice A len cap] 25)) := (Below.refl _ _).alloc (Nat.le_refl _) _
  have Hre := hide (hre.below (hbx.mono hB))
  have Hrv := hide (hrv.below (hbx.mono hB))
  have Hbox := hide (box_new w op n A len cap 25)
  have hz0 : w.heap.size + 1 ≤ (w.alloc (.cells #[.int .i64 op, .int .i64 n, .slice A len cap] 25)).heap.size := by simp
  have Hbx := hide hbx
  clear hre hrv hbx
  have Ht : Hid (trueE lv t now next = (((valE lv t now next).2 == 0) && ((sortE lv t).1 == 1) && ((valE lv t now next).1 == 1))) := hide rfl
  obtain ⟨f0, f1, f2⟩ := Hbox.out
  go_enter Tryz.func50, Tryz.ntmps50
  go_wp2_with fail
  clear f0 f1 f2
  generalize w.alloc (.cells #[.int .i64 op, .int .i64 n, .slice A len cap] 25) = W at *
  refine (of_any B Av nv cv lv d op n A len cap t W hnv hnc hcv (by omega) Hre.out Hrv.out hnm).mono ?_
  rintro e w1 ⟨rfl, hb1⟩
  have hz1 := hb1.size
  have Hb1 := hide (Hbx.out.trans (hb1.mono (by omega)))
  have Hre1 := hide (Hre.out.below (hb1.mono (by omega)))
  have Hrv1 := hide (Hrv.out.below (hb1.mono (by omega)))
  obtain ⟨f0, f1, f2⟩ := Hbox.out.below hb1 (by omega)
  clear hb1 Hre Hrv Hbox Hbx
  go_wp2_with fail
  refine (dval_any B Av nv cv lv d op n A len cap t now next w1 hnv hnc hcv (by omega) Hre1.out Hrv1.out hnm).mono ?_
  rintro e w2 ⟨rfl, hb2⟩
  have Hb2 := hide (Hb1.out.trans (hb2.mono (by omega)))
  clear hb2 f0 f1 f2
  generalize valE lv t now next = r at *
  generalize (sortE lv t).1 = s at *
  obtain ⟨r1, r2⟩ := r
  simp only at Ht ⊢
  cases q1 : r2 == 0
  · have Hf : Hid (trueE lv t now next = false) := hide (by rw [Ht.out, q1]; rfl)
    go_wp2_with fail
    go_ret
    exact ⟨ret_bool Hf.out.symm, Hb2.out⟩
  · cases q2 : s == 1
    · have Hf : Hid (trueE lv t now next = false) := hide (by rw [Ht.out, q1, q2]; rfl)
      go_wp2_with fail
      go_ret
      exact ⟨ret_bool Hf.out.symm, Hb2.out⟩
    · have Hf : Hid (trueE lv t now next = (r1 == 1)) := hide (by rw [Ht.out, q1, q2]; rfl)
      go_wp2_with fail
      go_ret
      exact ⟨ret_bool Hf.out.symm, Hb2.out⟩
end Go.Proofs.YtbppdalfcldodaaGreat
