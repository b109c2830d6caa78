/- ChoiceMore: marks in a map and how many there are; a command more, a command alone. -/
import Derived.Test.YtohegmnfmomjaaaCMoreB
import Derived.Test.YtohegmnfmomjaaaCFails
namespace Go.Proofs.Ytohegmnfmomjaaa
open Go.RowKit Ex Go.WideMaps Go.Maps
set_option linter.unusedSimpArgs false
set_option linter.unusedVariables false

/- a map of marks whose keys are just ks, each once -/
def MarkIs (D : DataW Unit) (ks : List Int) : Prop := OneIs D ks ∧ (∀ k : Int, Maps.has D (.int .i64 k) = decide (k ∈ ks)) ∧ Maps.size D = ks.length ∧ ks.Nodup ∧ Tidy D
theorem MarkIs.start : MarkIs (.map []) [] := ⟨OneIs.start, fun k => by simp [Maps.has], rfl, List.nodup_nil, tidy_empty⟩
theorem MarkIs.old {D : DataW Unit} {ks : List Int} (h : MarkIs D ks) {x : Int} (hx : x ∈ ks) : MarkIs (D.put (.int .i64 x) (.lit (.int .i64 1))) ks := by
  obtain ⟨h1, h2, h3, h4, h5⟩ := h
  have hk : WideAt.IsKeyLit (.int .i64 x) := by simp [WideAt.IsKeyLit]
  refine ⟨fun k => ?_, fun k => ?_, ?_, h4, h5.put hk _⟩
  · by_cases e : k = x
    · subst e
      rw [atKey_put_same h5.isMap hk, if_pos hx]
    · rw [atKey_put_other (fun hh => e (by injection hh)), h1 k]
  · by_cases e : k = x
    · subst e
      rw [has_put_same h5.isMap hk]; simp [hx]
    · rw [has_put_other (fun hh => e (by injection hh)), h2 k]
  · rw [size_put h5, h2 x, if_pos (by simp [hx]), h3]
theorem MarkIs.new {D : DataW Unit} {ks : List Int} (h : MarkIs D ks) {x : Int} (hx : x ∉ ks) : MarkIs (D.put (.int .i64 x) (.lit (.int .i64 1))) (ks ++ [x]) := by
  obtain ⟨h1, h2, h3, h4, h5⟩ := h
  have hk : WideAt.IsKeyLit (.int .i64 x) := by simp [WideAt.IsKeyLit]
  refine ⟨h1.put h5.isMap x, fun k => ?_, ?_, ?_, h5.put hk _⟩
  · by_cases e : k = x
    · subst e
      rw [has_put_same h5.isMap hk]; simp
    · rw [has_put_other (fun hh => e (by injection hh)), h2 k]; simp [e]
  · rw [size_put h5, h2 x, if_neg (by simp [hx]), h3]; simp
  · rw [List.nodup_append]
    refine ⟨h4, by simp, fun a ha b hb => ?_⟩
    simp at hb
    subst hb
    exact fun e => hx (e ▸ ha)
theorem nodup_le : ∀ {a b : List Int}, a.Nodup → (∀ x ∈ a, x ∈ b) → a.length ≤ b.length
  | [], _, _, _ => Nat.zero_le _
  | x :: r, b, hd, h => by
    rw [List.nodup_cons] at hd
    have hxb := h x (by simp)
    have := nodup_le (a := r) (b := b.erase x) hd.2 (fun y hy => (List.mem_erase_of_ne (fun e => hd.1 (by rw [← e]; exact hy))).2 (h y (by simp [hy])))
    rw [List.length_erase_of_mem hxb] at this
    have := List.length_pos_of_mem hxb
    simp only [List.length_cons]; omega
theorem nodup_len {a b : List Int} (ha : a.Nodup) (hb : b.Nodup) (h : ∀ x, x ∈ a ↔ x ∈ b) : a.length = b.length :=
  Nat.le_antisymm (nodup_le ha (fun x hx => (h x).1 hx)) (nodup_le hb (fun x hx => (h x).2 hx))
theorem lt_nodup {a : List Int} (h : a.Pairwise (· < ·)) : a.Nodup := h.imp (fun hab => by omega)
/- the commands of m and one more; that one alone -/
theorem cmds_cells6 {V : World} {B : Nat} {s : SL} {l : List CT} (h : Rows CmdAt 4 V B s l) : ∃ ks, Chunk 4 (CmdC V B) ks l ∧ ∀ ad, s.A = some ad → ∀ (j : Nat) u, ks.flatten[j]? = some u → ad.block < B ∧ V.cell? (ad.add j) = some u := by
  obtain ⟨A, n, c⟩ := s
  by_cases hn : 0 < n
  · obtain ⟨b, off, e, hb, _⟩ := h.2.2.2.1 hn
    simp only at e
    subst e
    obtain ⟨ks, h1, h2⟩ := rows_cells h hn (fun o a ha => cmd_cells o a ha)
    refine ⟨ks, h1, fun ad e j u hu => ?_⟩
    simp only at e
    injection e with e
    subst e
    have := h2 j u hu
    refine ⟨hb, ?_⟩
    by_cases hj : j = 0
    · subst hj; simpa [Addr.add] using this
    · simpa [Addr.add, hj] using this
  · have hl : l = [] := List.eq_nil_of_length_eq_zero (by have := h.1; simp only at this; omega)
    subst hl
    exact ⟨[], Chunk.nil, fun ad _ j u hu => by simp at hu⟩
theorem rows_nil6 {α : Type} {P : World → Nat → Nat → Nat → α → Prop} {sz : Nat} {w : World} {B : Nat} {s : SL} {l : List α} (h : Rows P sz w B s l) (e : s.A = none) : s.n = 0 ∧ s.c = 0 := by
  refine ⟨?_, h.2.2.2.2 e⟩
  by_cases hn : 0 < s.n
  · obtain ⟨b, off, e2, _⟩ := h.2.2.2.1 hn
    rw [e] at e2; cases e2
  · omega
theorem cmds_more {w w0 : World} {B base n cp : Nat} {O : Option Addr} {ks : List (List Value)} {cs : List CT} {c : CT} {op nn : Int} {A : Option Addr} {len cap : Nat} {tA : Option Addr} {tn tc : Nat} (hch : Chunk 4 (CmdC w0 B) ks cs) (hb : Below B w0 w) (hB : B ≤ w.heap.size) (how : w.ownsRow base 31 4 (.slice O n cp) n (ks.flatten ++ [.int .i64 op, .int .i64 nn, .slice A len cap, .slice tA tn tc])) (hc : RC w B ⟨⟨op, nn, A, len, cap⟩, ⟨tA, tn, tc⟩⟩ c) : Rows CmdAt 4 w w.heap.size ⟨O, n, cp⟩ (cs ++ [c]) := by
  rw [← rows_flat_snoc] at how
  exact own_rows (by omega) how ((hch.turn (fun ch a h => CmdC.up h hb hB)).snoc rfl (by simp [Value.oneCell']) ⟨⟨op, nn, A, len, cap⟩, ⟨tA, tn, tc⟩, rfl, hc.1.more hB, hc.2.more hB (fun b o x hx => SetAt.more hx hB)⟩) (fun b o ch a _ h1 h2 => cmd_back h1 h2)
theorem cmds_one {w : World} {B g : Nat} {c : CT} {op nn : Int} {A : Option Addr} {len cap : Nat} {tA : Option Addr} {tn tc : Nat} (hg : w.heap[g]? = some (.cells #[.int .i64 op, .int .i64 nn, .slice A len cap, .slice tA tn tc] 31 (0, 0))) (hB : B ≤ w.heap.size) (hc : RC w B ⟨⟨op, nn, A, len, cap⟩, ⟨tA, tn, tc⟩⟩ c) : Rows CmdAt 4 w w.heap.size ⟨some ⟨g, 0, none⟩, 1, 1⟩ [c] :=
  one_cmdG hg hc.1 hB (hc.2.more hB (fun b o x hx => SetAt.more hx hB))
theorem rm_sys {w : World} {B : Nat} {x : M8} {m : MT} {s : SL} {l : List CT} (h : RM w B x m) (hs : Rows CmdAt 4 w B s l) : RM w B { x with sys := s } { m with sys := l } :=
  ⟨h.1, h.2.1, h.2.2.1, h.2.2.2.1, h.2.2.2.2.1, hs, h.2.2.2.2.2.2.1, h.2.2.2.2.2.2.2.1, h.2.2.2.2.2.2.2.2⟩
theorem row_sys {w : World} {g : Nat} {x : M8} {s : SL} (h : w.rowIs g 28 12 (fun i => if i = 8 then s.v else mV x i)) : w.rowIs g 28 12 (mV { x with sys := s }) :=
  h.congr (fun i hi => by
    have h : i = 0 ∨ i = 1 ∨ i = 2 ∨ i = 3 ∨ i = 4 ∨ i = 5 ∨ i = 6 ∨ i = 7 ∨ i = 8 ∨ i = 9 ∨ i = 10 ∨ i = 11 := by omega
    rcases h with rfl | rfl | rfl | rfl | rfl | rfl | rfl | rfl | rfl | rfl | rfl | rfl <;> rfl)
/- what may be chosen with one command more, as rows -/
theorem more_one_env {m : MT} {c : CT} (h : modE { m with env := m.env ++ [c] } = 0) : modE { m with env := [c] } = 0 :=
  less_env (m := { m with env := m.env ++ [c] }) h (l := [c]) (by simp) (by simp)
theorem more_one_sys {m : MT} {c : CT} (h : modE { m with sys := m.sys ++ [c] } = 0) : modE { m with sys := [c] } = 0 :=
  less_sys (m := { m with sys := m.sys ++ [c] }) h (l := [c]) (by simp) (by simp)
end Go.Proofs.Ytohegmnfmomjaaa
