/- Games that are thinned, as data. -/
import Derived.Test.YtdcdpknlloffjaaGClone
namespace Go.Proofs.Ytdcdpknlloffjaa.Gr
open Go.RowKit
set_option linter.unusedSimpArgs false
set_option linter.unusedVariables false

def TAt (p : Nat → Int → Bool) (nxt : List (List Int)) (k j i : Nat) : List Int := if i < k then (nxt.getD i []).filter (p i) else if i = k then ((nxt.getD i []).take j).filter (p i) else []
def TL (p : Nat → Int → Bool) (nxt : List (List Int)) (n k j : Nat) : List (List Int) := (List.range n).map (TAt p nxt k j)
def thinG (p : Nat → Int → Bool) (g : GT) : GT := if mayG g = 0 then ⟨g.own, (List.range g.own.length).map fun v => (g.nxt.getD v []).filter (p v)⟩ else ⟨[], []⟩
section
variable {p : Nat → Int → Bool} {nxt : List (List Int)} {n k j i : Nat} {r : List Int} {x : Int}
theorem TL_get (hi : i < n) : (TL p nxt n k j)[i]? = some (TAt p nxt k j i) := by simp [TL, hi]
theorem TL_zero : TL p nxt n 0 0 = List.replicate n [] := by
  apply List.ext_getElem?
  intro i
  by_cases hi : i < n
  · rw [TL_get hi, List.getElem?_replicate, if_pos hi]
    unfold TAt
    by_cases h : i = 0
    · subst h; simp
    · simp [h]
  · rw [List.getElem?_eq_none (by simp [TL]; omega), List.getElem?_eq_none (by simp; omega)]
theorem TL_row (hr : nxt[k]? = some r) : TAt p nxt k j k = (r.take j).filter (p k) := by
  unfold TAt
  rw [if_neg (by omega), if_pos rfl, getD_at hr]
theorem TL_keep (hr : nxt[k]? = some r) (hx : r[j]? = some x) (hp : p k x = false) : TL p nxt n k (j + 1) = TL p nxt n k j := by
  unfold TL
  refine List.map_congr_left (fun i _ => ?_)
  unfold TAt
  by_cases h1 : i < k
  · rw [if_pos h1, if_pos h1]
  · rw [if_neg h1, if_neg h1]
    by_cases h2 : i = k
    · subst h2
      obtain ⟨hj, e⟩ := List.getElem?_eq_some_iff.1 hx
      rw [if_pos rfl, if_pos rfl, getD_at hr, List.take_succ_eq_append_getElem hj, e, List.filter_append]
      simp [hp]
    · rw [if_neg h2, if_neg h2]
theorem TL_put (hr : nxt[k]? = some r) (hx : r[j]? = some x) (hp : p k x = true) (hk : k < n) : (TL p nxt n k j).set k ((r.take j).filter (p k) ++ [x]) = TL p nxt n k (j + 1) := by
  apply List.ext_getElem?
  intro i
  by_cases hi : i < n
  · rw [List.getElem?_set, TL_get hi]
    by_cases e : k = i
    · subst e
      obtain ⟨hj, e⟩ := List.getElem?_eq_some_iff.1 hx
      rw [if_pos rfl, if_pos (by simp [TL]; exact hk), TL_get hk, TL_row hr, List.take_succ_eq_append_getElem hj, e, List.filter_append]
      simp [hp]
    · rw [if_neg e, TL_get hi]
      unfold TAt
      by_cases h1 : i < k
      · rw [if_pos h1, if_pos h1]
      · rw [if_neg h1, if_neg h1, if_neg (fun h => e h.symm), if_neg (fun h => e h.symm)]
  · rw [List.getElem?_eq_none (by simp [TL]; omega), List.getElem?_eq_none (by simp [TL]; omega)]
theorem TL_next (hr : nxt[k]? = some r) (hj : r.length ≤ j) : TL p nxt n k j = TL p nxt n (k + 1) 0 := by
  unfold TL
  refine List.map_congr_left (fun i _ => ?_)
  unfold TAt
  by_cases h1 : i < k
  · rw [if_pos h1, if_pos (by omega)]
  · rw [if_neg h1]
    by_cases h2 : i = k
    · subst h2
      rw [if_pos rfl, if_pos (by omega), getD_at hr, List.take_of_length_le hj]
    · rw [if_neg h2, if_neg (by omega)]
      by_cases h3 : i = k + 1
      · rw [if_pos h3]; simp
      · rw [if_neg h3]
theorem TL_done : TL p nxt n n 0 = (List.range n).map fun v => (nxt.getD v []).filter (p v) := by
  unfold TL
  refine List.map_congr_left (fun i hi => ?_)
  have : i < n := by simpa using hi
  unfold TAt
  rw [if_pos this]
theorem TL_len {m : Nat} (h : ∀ r ∈ nxt, r.length ≤ m) : (TAt p nxt k j i).length ≤ m := by
  have h0 : (nxt.getD i []).length ≤ m := by
    by_cases hi : i < nxt.length
    · rw [getD_at (List.getElem?_eq_getElem hi)]; exact h _ (List.getElem_mem hi)
    · rw [getD_out (by omega)]; simp
  unfold TAt
  split
  · exact Nat.le_trans (List.length_filter_le _ _) h0
  · split
    · exact Nat.le_trans (List.length_filter_le _ _) (Nat.le_trans (by simp; omega) h0)
    · simp
end
def NewG (lo : Nat) (w : World) (O N : SL) (g : GT) : Prop := ∀ w', w.heap.size ≤ w'.heap.size → (∀ k, lo ≤ k → k < w.heap.size → w'.heap[k]? = w.heap[k]?) → RG w' w'.heap.size O N g
theorem NewG.rg {lo : Nat} {w : World} {O N : SL} {g : GT} (h : NewG lo w O N g) : RG w w.heap.size O N g := h w (Nat.le_refl _) (fun _ _ _ => rfl)
theorem NewG.on {lo lo' : Nat} {w w2 : World} {O N : SL} {g : GT} (h : NewG lo w O N g) (hl : lo' ≤ lo) (hz : w.heap.size ≤ w2.heap.size) (hk : ∀ k, lo ≤ k → k < w.heap.size → w2.heap[k]? = w.heap[k]?) : NewG lo' w2 O N g :=
  fun w' h1 h2 => h w' (Nat.le_trans hz h1) (fun k h3 h4 => (h2 k (Nat.le_trans hl h3) (Nat.lt_of_lt_of_le h4 hz)).trans (hk k h3 h4))
theorem newG_nil (lo : Nat) (w : World) : NewG lo w ⟨none, 0, 0⟩ ⟨none, 0, 0⟩ ⟨[], []⟩ := fun w' _ _ => ⟨rows_nil _ _ _, rows_nil _ _ _⟩
def GamePost (w : World) (g : GT) (e : Ending) (w' : World) : Prop := ∃ O N : SL, e = .returned (.agg #[O.v, N.v]) ∧ NewG w.heap.size w' O N g ∧ Below w.heap.size w w'
/- only block g, and what is new, has turned -/
def Onl (g : Nat) (w w' : World) : Prop := w'.os = w.os ∧ w'.tape = w.tape ∧ w'.output = w.output ∧ w.heap.size ≤ w'.heap.size ∧ ∀ k, k < w.heap.size → k ≠ g → w'.heap[k]? = w.heap[k]?
theorem Onl.refl (g : Nat) (w : World) : Onl g w w := ⟨rfl, rfl, rfl, Nat.le_refl _, fun _ _ _ => rfl⟩
theorem Onl.trans {g : Nat} {a b c : World} (h : Onl g a b) (k : Onl g b c) : Onl g a c :=
  ⟨k.1.trans h.1, k.2.1.trans h.2.1, k.2.2.1.trans h.2.2.1, Nat.le_trans h.2.2.2.1 k.2.2.2.1, fun i hi hg => (k.2.2.2.2 i (Nat.lt_of_lt_of_le hi h.2.2.2.1) hg).trans (h.2.2.2.2 i hi hg)⟩
theorem Onl.size {g : Nat} {w w' : World} (h : Onl g w w') : w.heap.size ≤ w'.heap.size := h.2.2.2.1
theorem Onl.of_below {g B : Nat} {a w w' : World} (h : Onl g a w) (hb : Below B w w') (hB : a.heap.size ≤ B) : Onl g a w' :=
  ⟨hb.os.trans h.1, hb.tape.trans h.2.1, hb.output.trans h.2.2.1, Nat.le_trans h.2.2.2.1 hb.size, fun i hi hg => (hb.block i (by omega)).trans (h.2.2.2.2 i hi hg)⟩
theorem Onl.set {g : Nat} {a w : World} (h : Onl g a w) (i : Nat) (u : Value) : Onl g a (w.setCell ⟨g, i, none⟩ u) :=
  h.trans ⟨rfl, rfl, rfl, by simp [World.setCell], fun k _ hg => Below.heap_setCell _ _ _ _ hg⟩
theorem Onl.below {g B : Nat} {w w' : World} (h : Onl g w w') (hg : B ≤ g) (hB : B ≤ w.heap.size) : Below B w w' :=
  ⟨h.1, h.2.1, h.2.2.1, h.2.2.2.1, fun k hk => h.2.2.2.2 k (by omega) (by omega)⟩
theorem Onl.cell {g : Nat} {w w' : World} (h : Onl g w w') {p : Addr} (hp : p.block < w.heap.size) (hg : p.block ≠ g) : w'.cell? p = w.cell? p := World.cell?_of_block (h.2.2.2.2 _ hp hg)
theorem Onl.grown {g : Nat} {a w w' : World} {row : Option Nat} (h : Onl g a w) (hg : w.grownBy w' row) (hr : ∀ k, row = some k → a.heap.size ≤ k) : Onl g a w' :=
  h.of_below (B := a.heap.size) ⟨hg.os, hg.tape, hg.output, hg.size, fun k hk => hg.block k (by have := h.size; omega) (fun e => by have := hr k e.symm; omega)⟩ (Nat.le_refl a.heap.size)
theorem Onl.ri {g : Nat} {w w' : World} {s : SL} {l : List Int} (h : RI w w.heap.size s l) (ho : Onl g w w') (hg : ∀ b o p, s.A = some ⟨b, o, p⟩ → b ≠ g) : RI w' w'.heap.size s l :=
  ⟨h.1, h.2.1, h.2.2.1, fun hn => by
    obtain ⟨b, off, e, hb, hc⟩ := h.2.2.2.1 hn
    exact ⟨b, off, e, Nat.lt_of_lt_of_le hb ho.size, fun k x hx => (ho.cell (p := ⟨b, off + k, none⟩) hb (hg _ _ _ e)).trans (hc k x hx)⟩, h.2.2.2.2⟩
theorem Nest.below {w w' : World} {base b n : Nat} {f : Nat → Value} {ls : List (List Int)} (h : Nest w base b n f ls) (hb : Below w.heap.size w w') : Nest w' base b n f ls :=
  h.kept (row := none) ⟨hb.os, hb.tape, hb.output, hb.size, fun k hk _ => hb.block k hk⟩ (by simp) (fun i _ => by cases (f i).ownBlock <;> simp)
/- the frame of a game that is made: its box, its rows, its owners -/
structure Made (w : World) (lo n bo bn : Nat) (O : Option Addr) (c : Nat) (own : List Int) : Prop where
  c0 : w.cell? ⟨bo, 0, none⟩ = some (.slice O n c)
  c1 : w.cell? ⟨bo, 1, none⟩ = some (.slice (some ⟨bn, 0, none⟩) n n)
  ne : bo ≠ bn
  lto : bo < w.heap.size
  row : w.rowIs bn 22 n (fun _ => .slice none 0 0)
  ri : RI w w.heap.size ⟨O, n, c⟩ own
  far : ∀ b o p, O = some ⟨b, o, p⟩ → b ≠ bn ∧ lo ≤ b
theorem nest_new {w : World} {bn n : Nat} (h : w.rowIs bn 22 n (fun _ => .slice none 0 0)) : Nest w w.heap.size bn n (fun _ => .slice none 0 0) (List.replicate n []) :=
  ⟨h, by simp, fun i l hl => by
    have : l = [] := List.eq_of_mem_replicate (List.mem_of_getElem? hl)
    subst this
    exact World.ownsRow_nil _ _ _ _, fun i _ => by simp [Value.ownBlock], fun i j _ _ _ => .inl rfl⟩
end Go.Proofs.Ytdcdpknlloffjaa.Gr
