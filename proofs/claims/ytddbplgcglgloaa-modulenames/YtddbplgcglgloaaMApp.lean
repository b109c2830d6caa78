/- 'append([]E{}, l...)' and what is appended to it, whatever l is: nil, empty or not. -/
import Derived.Test.YtddbplgcglgloaaMRows
import Derived.Laws.AppendOwn
import Derived.OwnWalk
namespace Go.Proofs.Ytddbplgcglgloaa
open Go.RowKit Ex
set_option linter.unusedSimpArgs false
set_option linter.unusedVariables false

theorem own_slice {w : World} {base e size n : Nat} {v : Value} {xs : List Value} (h : w.ownsRow base e size v n xs) : ∃ O cap, v = .slice O n cap := by
  rcases h.2 with ⟨rfl, rfl⟩ | ⟨g, cap, cur, rfl, _⟩
  · exact ⟨none, 0, rfl⟩
  · exact ⟨_, _, rfl⟩
theorem own_empty {w : World} {g e size base : Nat} (h : w.heap[g]? = some (.cells #[] e (0, 0))) (hb : base ≤ g) : w.ownsRow base e size (.slice (some ⟨g, 0, none⟩) 0 0) 0 [] :=
  ⟨by simp, .inr ⟨g, 0, #[], rfl, hb, h, Nat.le_refl _, by unfold maxLen; omega, by simp, by simp⟩⟩
theorem wpList_append_row {ops : Array Oper} {rest : List Oper} {o : Oper} {a : Act} {Q : Exit → Act → World → Prop} {w : World} (hgd : o.guard = none) (s x : Operand) (t : TypeId)
    (ho : o.op = .call { callee := .builtin .append, args := #[s, x], argTypes := #[t, t] })
    (base : Nat) (e : TypeId) (i : TypeInfo) (z : Value) (size bytes : Nat) (ht : Try.prog.underlying t = some (.slice e)) (hi : Try.prog.info? e = some i) (hz : i.zero = some z)
    (hsize : i.size = size) (hby : i.bytes = bytes) (hzs : z.cells.size = size) (hsz : 0 < size)
    (g k cap0 : Nat) (xs : List Value) (hs : a.eval s = .slice (some ⟨g, 0, none⟩) k cap0) (hown : w.ownsRow base e size (.slice (some ⟨g, 0, none⟩) k cap0) k xs)
    (A : Option Addr) (n c : Nat) (news : List Value) (hx : a.eval x = .slice A n c) (hl : news.length = n * size) (hnil : A = none → n = 0 ∧ c = 0) (hnews : ∀ ad, A = some ad → ∀ j u, news[j]? = some u → w.cell? (ad.add j) = some u) (h1 : ∀ u ∈ news, u.oneCell' = true)
    (h63 : k + n ≤ maxLen) (hbytes : (k + n) * bytes ≤ 140737488355328) (hbase : base ≤ w.heap.size)
    (h : ∀ O cap w', w'.ownsRow base e size (.slice O (k + n) cap) (k + n) (xs ++ news) → w.grownBy w' (some g) → wpList Try.prog ops Q rest (a.put o.dst (.slice O (k + n) cap)) w') : wpList Try.prog ops Q (o :: rest) a w := by
  cases A with
  | some ad =>
    refine wpList_append_own w hgd s x t ho base e i z size bytes ht hi hz hsize hby hzs hsz _ k xs hs hown ad n c news hx hl (hnews ad rfl) h1 h63 hbytes hbase (fun v' w' h2 h3 _ => ?_)
    obtain ⟨O, cap, rfl⟩ := own_slice h2
    exact h O cap w' h2 h3
  | none =>
    obtain ⟨rfl, rfl⟩ := hnil rfl
    have hcap : k ≤ cap0 := by
      rcases hown.2 with ⟨e1, _⟩ | ⟨g2, cap, cur, e1, _, _, h2, _⟩
      · cases e1
      · injection e1 with _ _ e3; subst e3; exact h2
    exact wpList_append_fits_any w hgd s x t ho base e i size ht hi hsize g k cap0 xs hs hown none 0 0 news hx hl (fun _ => ⟨rfl, rfl⟩) (fun ad h => by cases h) h1 (by omega) (fun w' h2 h3 => h _ _ w' h2 h3)
end Go.Proofs.Ytddbplgcglgloaa
