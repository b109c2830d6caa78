/- Rows of records that are read out, appended to, and lie anew: their cells in chunks. -/
import Derived.Test.YtddbplgcglgloaaMPre
namespace Go.Proofs.Ytddbplgcglgloaa
open Go.RowKit Ex
set_option linter.unusedSimpArgs false
set_option linter.unusedVariables false

def Chunk {α : Type} (sz : Nat) (C : List Value → α → Prop) (ks : List (List Value)) (l : List α) : Prop :=
  ks.length = l.length ∧ (∀ ch ∈ ks, ch.length = sz ∧ ∀ u ∈ ch, u.oneCell' = true) ∧ ∀ (k : Nat) ch a, ks[k]? = some ch → l[k]? = some a → C ch a
theorem flat_len {sz : Nat} : ∀ {ks : List (List Value)}, (∀ ch ∈ ks, ch.length = sz) → ks.flatten.length = ks.length * sz
  | [], _ => by simp
  | c :: r, h => by
    rw [List.flatten_cons, List.length_append, h c (by simp), flat_len (fun x hx => h x (by simp [hx])), List.length_cons, Nat.succ_mul]; omega
theorem flat_at {sz : Nat} : ∀ {ks : List (List Value)} {k i : Nat} {ch : List Value}, (∀ ch ∈ ks, ch.length = sz) → ks[k]? = some ch → i < sz → ks.flatten[k * sz + i]? = ch[i]?
  | [], k, i, ch, _, h, _ => by simp at h
  | c :: r, 0, i, ch, hl, h, hi => by
    simp at h; subst h
    rw [List.flatten_cons, Nat.zero_mul, Nat.zero_add, List.getElem?_append_left (by rw [hl c (by simp)]; exact hi)]
  | c :: r, k + 1, i, ch, hl, h, hi => by
    have hc := hl c (by simp)
    rw [List.flatten_cons, List.getElem?_append_right (by rw [hc, Nat.succ_mul]; omega), hc]
    have := flat_at (ks := r) (k := k) (i := i) (ch := ch) (fun x hx => hl x (by simp [hx])) (by simpa using h) hi
    rw [← this]; congr 1; rw [Nat.succ_mul]; omega
section
variable {α : Type} {sz : Nat} {C : List Value → α → Prop} {ks : List (List Value)} {l : List α}
theorem Chunk.len (h : Chunk sz C ks l) : ks.flatten.length = l.length * sz := by rw [flat_len (fun ch hc => (h.2.1 ch hc).1), h.1]
theorem Chunk.one (h : Chunk sz C ks l) : ∀ u ∈ ks.flatten, u.oneCell' = true := fun u hu => by
  obtain ⟨ch, hc, hu⟩ := List.mem_flatten.1 hu
  exact (h.2.1 ch hc).2 u hu
theorem Chunk.nil : Chunk sz C [] ([] : List α) := ⟨rfl, fun ch h => by simp at h, fun k ch a h _ => by simp at h⟩
theorem Chunk.snoc {ch : List Value} {a : α} (h : Chunk sz C ks l) (hl : ch.length = sz) (h1 : ∀ u ∈ ch, u.oneCell' = true) (hc : C ch a) : Chunk sz C (ks ++ [ch]) (l ++ [a]) :=
  ⟨by simp [h.1], fun x hx => by
    rcases List.mem_append.1 hx with hx | hx
    · exact h.2.1 x hx
    · simp at hx; subst hx; exact ⟨hl, h1⟩, fun k y b hy hb => by
    by_cases hk : k < ks.length
    · rw [List.getElem?_append_left hk] at hy
      rw [List.getElem?_append_left (by rw [← h.1]; exact hk)] at hb
      exact h.2.2 k y b hy hb
    · rw [List.getElem?_append_right (by omega)] at hy
      rw [List.getElem?_append_right (by rw [← h.1]; omega), ← h.1] at hb
      have h0 : k - ks.length = 0 := by
        have := (List.getElem?_eq_some_iff.1 hy).1
        simp at this; omega
      rw [h0] at hy hb
      simp at hy hb
      subst hy; subst hb
      exact hc⟩
theorem flat_snoc (ks : List (List Value)) (ch : List Value) : (ks ++ [ch]).flatten = ks.flatten ++ ch := by simp
theorem Chunk.turn {C2 : List Value → α → Prop} (h : Chunk sz C ks l) (hC : ∀ ch a, C ch a → C2 ch a) : Chunk sz C2 ks l := ⟨h.1, h.2.1, fun k ch a h1 h2 => hC _ _ (h.2.2 k ch a h1 h2)⟩
variable {P : World → Nat → Nat → Nat → α → Prop} {w : World} {B b : Nat}
theorem cells_aux (hP : ∀ o a, P w B b o a → ∃ ch : List Value, ch.length = sz ∧ (∀ u ∈ ch, u.oneCell' = true) ∧ (∀ (i : Nat) u, ch[i]? = some u → w.cell? ⟨b, o + i, none⟩ = some u) ∧ C ch a) :
    ∀ (l : List α) (off : Nat), (∀ (k : Nat) a, l[k]? = some a → P w B b (off + k * sz) a) → ∃ ks, Chunk sz C ks l ∧ ∀ (j : Nat) u, ks.flatten[j]? = some u → w.cell? ⟨b, off + j, none⟩ = some u
  | [], off, _ => ⟨[], Chunk.nil, fun j u h => by simp at h⟩
  | a :: r, off, h => by
    obtain ⟨ch, h1, h2, h3, h4⟩ := hP _ _ (h 0 a rfl)
    rw [Nat.zero_mul, Nat.add_zero] at h3
    obtain ⟨ks, hk, hc⟩ := cells_aux hP r (off + sz) (fun k x hx => by
      have := h (k + 1) x (by simpa using hx)
      rw [Nat.succ_mul] at this
      rw [show off + sz + k * sz = off + (k * sz + sz) by omega]; exact this)
    refine ⟨ch :: ks, ⟨by simp [hk.1], fun x hx => ?_, fun k y b hy hb => ?_⟩, fun j u hj => ?_⟩
    · rcases List.mem_cons.1 hx with rfl | hx
      · exact ⟨h1, h2⟩
      · exact hk.2.1 x hx
    · cases k with
      | zero => simp at hy hb; subst hy; subst hb; exact h4
      | succ k => exact hk.2.2 k y b (by simpa using hy) (by simpa using hb)
    · rw [List.flatten_cons] at hj
      by_cases hl : j < ch.length
      · rw [List.getElem?_append_left hl] at hj; exact h3 j u hj
      · rw [List.getElem?_append_right (by omega)] at hj
        have := hc _ u hj
        rw [show off + sz + (j - ch.length) = off + j by omega] at this; exact this
theorem rows_cells {off n c : Nat} (h : Rows P sz w B ⟨some ⟨b, off, none⟩, n, c⟩ l) (hn : 0 < n) (hP : ∀ o a, P w B b o a → ∃ ch : List Value, ch.length = sz ∧ (∀ u ∈ ch, u.oneCell' = true) ∧ (∀ (i : Nat) u, ch[i]? = some u → w.cell? ⟨b, o + i, none⟩ = some u) ∧ C ch a) :
    ∃ ks, Chunk sz C ks l ∧ ∀ (j : Nat) u, ks.flatten[j]? = some u → w.cell? ⟨b, off + j, none⟩ = some u := by
  obtain ⟨b2, off2, e, hb, hc⟩ := h.2.2.2.1 hn
  simp only at e
  injection e with e
  injection e with e1 e2
  subst e1; subst e2
  exact cells_aux hP l off hc
theorem own_rows {base n c e : Nat} {O : Option Addr} (hsz : 0 < sz) (h : w.ownsRow base e sz (.slice O n c) n ks.flatten) (hk : Chunk sz C ks l)
    (hC : ∀ b o ch a, ch.length = sz → C ch a → (∀ (i : Nat) u, ch[i]? = some u → w.cell? ⟨b, o + i, none⟩ = some u) → P w w.heap.size b o a) : Rows P sz w w.heap.size ⟨O, n, c⟩ l := by
  have hl : l.length = n := by
    have h1 := h.1
    rw [hk.len] at h1
    exact Nat.eq_of_mul_eq_mul_right hsz h1
  have hcap : n ≤ c ∧ c ≤ maxLen := by
    rcases h.2 with ⟨e, _⟩ | ⟨g, cap, cur, e, _, _, h1, h2, _⟩
    · injection e with e1 e2 e3; subst e2; subst e3; unfold maxLen; omega
    · injection e with e1 e2 e3; subst e3; exact ⟨h1, h2⟩
  have hnil : O = none → c = 0 := fun e => by
    rcases h.2 with ⟨e1, _⟩ | ⟨g, cap, cur, e1, _⟩
    · injection e1
    · injection e1 with e1; rw [e] at e1; cases e1
  refine ⟨hl, hcap.1, hcap.2, fun hn => ?_, hnil⟩
  obtain ⟨g, cap, hv, hb, hlt⟩ := h.form hn
  have hA : O = some ⟨g, 0, none⟩ := by injection hv
  subst hA
  refine ⟨g, 0, rfl, hlt, fun k a ha => ?_⟩
  have hkl : k < ks.length := by rw [hk.1]; exact (List.getElem?_eq_some_iff.1 ha).1
  have hck := List.getElem?_eq_getElem hkl
  obtain ⟨h1, h2⟩ := hk.2.1 _ (List.mem_of_getElem? hck)
  refine hC g _ _ a h1 (hk.2.2 k _ a hck ha) (fun i u hu => ?_)
  have hi : i < sz := by rw [← h1]; exact (List.getElem?_eq_some_iff.1 hu).1
  have hf := (flat_at (fun ch hc => (hk.2.1 ch hc).1) hck hi).trans hu
  have := h.cells (g := g) rfl (k * sz + i) u hf
  rw [Nat.zero_add]
  clear hf
  generalize k * sz + i = j at this ⊢
  by_cases hj : j = 0
  · subst hj; simpa [Addr.add] using this
  · simpa [Addr.add, hj] using this
end
/- a Set's five cells, a Command's four -/
def SetC (w : World) (B : Nat) (ch : List Value) (s : ST) : Prop := ∃ x : E5, ch = [.int .i64 s.var, .bool s.any, .int .i64 x.op, .int .i64 x.n, .slice x.A x.len x.cap] ∧ EX w B x s.e
theorem set_cells {w : World} {B b : Nat} (o : Nat) (s : ST) (h : SetAt w B b o s) : ∃ ch : List Value, ch.length = 5 ∧ (∀ u ∈ ch, u.oneCell' = true) ∧ (∀ (i : Nat) u, ch[i]? = some u → w.cell? ⟨b, o + i, none⟩ = some u) ∧ SetC w B ch s := by
  obtain ⟨h0, h1, x, ⟨h2, h3, h4⟩, he⟩ := h
  refine ⟨_, rfl, by simp [Value.oneCell'], fun i u hu => ?_, x, rfl, he⟩
  have hi : i < 5 := (List.getElem?_eq_some_iff.1 hu).1
  have h : i = 0 ∨ i = 1 ∨ i = 2 ∨ i = 3 ∨ i = 4 := by omega
  rcases h with rfl | rfl | rfl | rfl | rfl <;> simp at hu <;> subst hu
  · exact h0
  · exact h1
  · exact h2
  · exact h3
  · exact h4
theorem set_back {w : World} {B b o : Nat} {ch : List Value} {s : ST} (h : SetC w B ch s) (hc : ∀ (i : Nat) u, ch[i]? = some u → w.cell? ⟨b, o + i, none⟩ = some u) : SetAt w B b o s := by
  obtain ⟨x, rfl, he⟩ := h
  exact ⟨hc 0 _ rfl, hc 1 _ rfl, x, ⟨hc 2 _ rfl, hc 3 _ rfl, hc 4 _ rfl⟩, he⟩
def CmdC (w : World) (B : Nat) (ch : List Value) (c : CT) : Prop := ∃ (x : E5) (s : SL), ch = [.int .i64 x.op, .int .i64 x.n, .slice x.A x.len x.cap, s.v] ∧ EX w B x c.guard ∧ Rows SetAt 5 w B s c.sets
theorem cmd_cells {w : World} {B b : Nat} (o : Nat) (c : CT) (h : CmdAt w B b o c) : ∃ ch : List Value, ch.length = 4 ∧ (∀ u ∈ ch, u.oneCell' = true) ∧ (∀ (i : Nat) u, ch[i]? = some u → w.cell? ⟨b, o + i, none⟩ = some u) ∧ CmdC w B ch c := by
  obtain ⟨⟨x, ⟨h0, h1, h2⟩, he⟩, s, h3, hs⟩ := h
  refine ⟨_, rfl, by simp [Value.oneCell', SL.v], fun i u hu => ?_, x, s, rfl, he, hs⟩
  have hi : i < 4 := (List.getElem?_eq_some_iff.1 hu).1
  have h : i = 0 ∨ i = 1 ∨ i = 2 ∨ i = 3 := by omega
  rcases h with rfl | rfl | rfl | rfl <;> simp at hu <;> subst hu
  · exact h0
  · exact h1
  · exact h2
  · exact h3
theorem cmd_back {w : World} {B b o : Nat} {ch : List Value} {c : CT} (h : CmdC w B ch c) (hc : ∀ (i : Nat) u, ch[i]? = some u → w.cell? ⟨b, o + i, none⟩ = some u) : CmdAt w B b o c := by
  obtain ⟨x, s, rfl, he, hs⟩ := h
  exact ⟨⟨x, ⟨hc 0 _ rfl, hc 1 _ rfl, hc 2 _ rfl⟩, he⟩, s, hc 3 _ rfl, hs⟩
theorem SetC.up {w w' : World} {B B' : Nat} {ch : List Value} {s : ST} (h : SetC w B ch s) (hb : Below B w w') (hB : B ≤ B') : SetC w' B' ch s := by
  obtain ⟨x, e, he⟩ := h
  exact ⟨x, e, (he.below hb).more hB⟩
theorem CmdC.up {w w' : World} {B B' : Nat} {ch : List Value} {c : CT} (h : CmdC w B ch c) (hb : Below B w w') (hB : B ≤ B') : CmdC w' B' ch c := by
  obtain ⟨x, s, e, he, hs⟩ := h
  exact ⟨x, s, e, (he.below hb).more hB, (hs.keep (fun b o x h1 hx => SetAt.keep h1 hx (fun _ hp => hb.cell hp))).more hB (fun b o x hx => SetAt.more hx hB)⟩
end Go.Proofs.Ytddbplgcglgloaa
