/- Rows of rows that are made: one block of slices, each with a block of its own. -/
import Derived.Test.YtbppdalfcldodaaGreatGRows
import Derived.OwnWalk
set_option maxRecDepth 100000
namespace Go.Proofs.YtbppdalfcldodaaGreat.Gr
open Go.RowKit
set_option linter.unusedSimpArgs false
set_option linter.unusedVariables false

def ints (l : List Int) : List Value := l.map fun x => .int .i64 x
theorem own_sl {w : World} {base e size n : Nat} {v : Value} {xs : List Value} (h : w.ownsRow base e size v n xs) : ∃ O c, v = .slice O n c := by
  rcases h.2 with ⟨rfl, rfl⟩ | ⟨g, cap, cur, rfl, _⟩
  · exact ⟨none, 0, rfl⟩
  · exact ⟨_, _, rfl⟩
theorem own_ri {w : World} {base n c : Nat} {A : Option Addr} {xs : List Int} (h : w.ownsRow base 3 1 (.slice A n c) n (ints xs)) : RI w w.heap.size ⟨A, n, c⟩ xs := by
  have hl : xs.length = n := by have := h.1; simpa [ints] using this
  have hcap : n ≤ c ∧ c ≤ maxLen := by
    rcases h.2 with ⟨e, _⟩ | ⟨g, cap, cur, e, _, _, h1, h2, _⟩
    · injection e with e1 e2 e3; subst e2; subst e3; unfold maxLen; omega
    · injection e with e1 e2 e3; subst e3; exact ⟨h1, h2⟩
  refine ⟨hl, hcap.1, hcap.2, fun hn => ?_, fun e => ?_⟩
  · obtain ⟨g, cap, hv, hb, hlt⟩ := h.form hn
    have hA : A = some ⟨g, 0, none⟩ := by injection hv
    subst hA
    refine ⟨g, 0, rfl, hlt, fun k x hx => ?_⟩
    have := h.cells (g := g) rfl k (.int .i64 x) (by simp [ints, hx])
    show w.cell? ⟨g, 0 + k, none⟩ = _
    rw [Nat.zero_add]
    by_cases hk : k = 0
    · subst hk; simpa [Addr.add] using this
    · simpa [Addr.add, hk] using this
  · rcases h.2 with ⟨e1, _⟩ | ⟨g, cap, cur, e1, _⟩
    · injection e1
    · injection e1 with e1; simp only at e; rw [e] at e1; cases e1
theorem grown_set (w : World) (b o : Nat) (u : Value) : w.grownBy (w.setCell ⟨b, o, none⟩ u) (some b) :=
  ⟨rfl, rfl, rfl, by simp [World.setCell], fun k _ hk => Below.heap_setCell _ _ _ _ (fun e => hk (by rw [e]))⟩
structure Nest (w : World) (base b n : Nat) (f : Nat → Value) (ls : List (List Int)) : Prop where
  row : w.rowIs b 32 n f
  len : ls.length = n
  own : ∀ i l, ls[i]? = some l → w.ownsRow base 3 1 (f i) l.length (ints l)
  far : ∀ i, i < n → (f i).ownBlock ≠ some b
  apart : ∀ i j, i < n → j < n → i ≠ j → (f i).ownBlock = none ∨ (f i).ownBlock ≠ (f j).ownBlock
section
variable {w w' : World} {base b n : Nat} {f : Nat → Value} {ls : List (List Int)}
theorem Nest.get (h : Nest w base b n f ls) {i : Nat} (hi : i < n) : ∃ l, ls[i]? = some l := ⟨_, List.getElem?_eq_getElem (by rw [h.len]; exact hi)⟩
theorem Nest.drew (h : Nest w base b n f ls) : Nest w.drew base b n f ls := ⟨h.row, h.len, h.own, h.far, h.apart⟩
theorem Nest.made (w : World) (n : Nat) (hb : base ≤ w.heap.size) : Nest (w.alloc (.cells (madeCells #[.slice none 0 0] n) 32)) base w.heap.size n (fun _ => .slice none 0 0) (List.replicate n []) :=
  ⟨World.rowIs_made w _ n 32, by simp, fun i l hl => by
    have : l = [] := by
      have := List.mem_of_getElem? hl
      exact List.eq_of_mem_replicate this
    subst this
    exact World.ownsRow_nil _ _ _ _, fun i _ => by simp [Value.ownBlock], fun i j _ _ _ => .inl rfl⟩
/- the world has grown elsewhere: in new blocks, or in one that is none of these -/
theorem Nest.kept {row : Option Nat} (h : Nest w base b n f ls) (hg : w.grownBy w' row) (h1 : some b ≠ row) (h2 : ∀ i, i < n → (f i).ownBlock = none ∨ (f i).ownBlock ≠ row) : Nest w' base b n f ls :=
  ⟨h.row.of_block (hg.block b h.row.lt h1), h.len, fun i l hl => (h.own i l hl).kept hg (h2 i (by rw [← h.len]; exact (List.getElem?_eq_some_iff.1 hl).1)), h.far, h.apart⟩
theorem Nest.alloc (h : Nest w base b n f ls) (o : Obj) : Nest (w.alloc o) base b n f ls := h.kept (World.grownBy_alloc w o none) (by simp) (fun i _ => by cases (f i).ownBlock <;> simp)
theorem Nest.put {w1 : World} {i g H : Nat} {l : List Int} {x : Int} {v' : Value} (h : Nest w base b n f ls) (hi : i < n) (hl : ls[i]? = some l)
    (hown : w1.ownsRow base 3 1 v' (l.length + 1) (ints l ++ [.int .i64 x])) (hgrow : w.grownBy w1 (f i).ownBlock) (hv : v'.ownBlock = some g) (hat : (f i).ownBlock = some g ∨ g = H) (hH : w.heap.size = H) :
    Nest (w1.setCell ⟨b, i, none⟩ v') base b n (fun j => if j = i then v' else f j) (ls.set i (l ++ [x])) := by
  have hgb : g ≠ b := by
    rcases hat with h1 | h1
    · intro e; exact h.far i hi (by rw [h1, e])
    · have := h.row.lt; omega
  have hold : ∀ j, j < n → j ≠ i → w1.ownsRow base 3 1 (f j) (ls.getD j []).length (ints (ls.getD j [])) ∧ (f j).ownBlock ≠ some g := fun j hj hne => by
    obtain ⟨lj, hlj⟩ := h.get hj
    have hd : ls.getD j [] = lj := getD_at hlj
    rw [hd]
    refine ⟨(h.own j lj hlj).kept hgrow (h.apart j i hj hi hne), fun e => ?_⟩
    rcases hat with h1 | h1
    · rcases h.apart j i hj hi hne with h2 | h2
      · rw [h2] at e; cases e
      · exact h2 (by rw [e, h1])
    · have := ((h.own j lj hlj).lt g e).2
      omega
  refine ⟨?_, by simp [h.len], fun j lj hlj => ?_, fun j hj => ?_, fun j k hj hk hne => ?_⟩
  · exact (h.row.of_block (hgrow.block b h.row.lt (fun e => h.far i hi e.symm))).set i v'
  · have hj : j < n := by have := (List.getElem?_eq_some_iff.1 hlj).1; simpa [h.len] using this
    show (w1.setCell ⟨b, i, none⟩ v').ownsRow base 3 1 (if j = i then v' else f j) lj.length (ints lj)
    by_cases e : j = i
    · subst e
      rw [if_pos rfl]
      rw [List.getElem?_set_self (by rw [h.len]; exact hi)] at hlj
      injection hlj with hlj
      subst hlj
      have := hown.kept (grown_set w1 b j v') (.inr (by rw [hv]; exact fun e => hgb (by injection e)))
      simpa [ints] using this
    · rw [if_neg e]
      rw [List.getElem?_set_ne (fun h => e h.symm)] at hlj
      have := (hold j hj e).1
      rw [getD_at hlj] at this
      exact this.kept (grown_set w1 b i v') (.inr (h.far j hj))
  · show (if j = i then v' else f j).ownBlock ≠ some b
    by_cases e : j = i
    · rw [if_pos e, hv]; exact fun h => hgb (by injection h)
    · rw [if_neg e]; exact h.far j hj
  · show (if j = i then v' else f j).ownBlock = none ∨ (if j = i then v' else f j).ownBlock ≠ (if k = i then v' else f k).ownBlock
    by_cases e : j = i
    · rw [if_pos e, if_neg (fun h => hne (e.trans h.symm)), hv]
      exact .inr (fun h => (hold k hk (fun h2 => hne (e.trans h2.symm))).2 h.symm)
    · rw [if_neg e]
      by_cases e2 : k = i
      · rw [if_pos e2, hv]
        exact .inr (hold j hj e).2
      · rw [if_neg e2]; exact h.apart j k hj hk hne
theorem Nest.rr (h : Nest w base b n f ls) (hm : n ≤ maxLen) : RR w w.heap.size ⟨some ⟨b, 0, none⟩, n, n⟩ ls :=
  ⟨h.len, Nat.le_refl _, hm, fun _ => ⟨b, 0, rfl, h.row.lt, fun k l hl => by
    have hk : k < n := by rw [← h.len]; exact (List.getElem?_eq_some_iff.1 hl).1
    have ho := h.own k l hl
    obtain ⟨O, c, hv⟩ := own_sl ho
    rw [hv] at ho
    refine ⟨⟨O, l.length, c⟩, ?_, own_ri ho⟩
    show w.cell? ⟨b, 0 + k, none⟩ = _
    rw [Nat.zero_add, h.row.cell hk, hv]; rfl⟩, fun e => by cases e⟩
end
/- it lies in blocks from lo on alone -/
def NewR (lo : Nat) (w : World) (s : SL) (l : List (List Int)) : Prop := ∀ w', w.heap.size ≤ w'.heap.size → (∀ k, lo ≤ k → k < w.heap.size → w'.heap[k]? = w.heap[k]?) → RR w' w'.heap.size s l
theorem NewR.rr {lo : Nat} {w : World} {s : SL} {l : List (List Int)} (h : NewR lo w s l) : RR w w.heap.size s l := h w (Nat.le_refl _) (fun _ _ _ => rfl)
theorem NewR.mono {lo lo' : Nat} {w : World} {s : SL} {l : List (List Int)} (h : NewR lo w s l) (hl : lo' ≤ lo) : NewR lo' w s l := fun w' h1 h2 => h w' h1 (fun k hk => h2 k (Nat.le_trans hl hk))
theorem NewR.on {lo : Nat} {w w2 : World} {s : SL} {l : List (List Int)} (h : NewR lo w s l) (hz : w.heap.size ≤ w2.heap.size) (hk : ∀ k, lo ≤ k → k < w.heap.size → w2.heap[k]? = w.heap[k]?) : NewR lo w2 s l :=
  fun w' h1 h2 => h w' (Nat.le_trans hz h1) (fun k h3 h4 => (h2 k h3 (Nat.lt_of_lt_of_le h4 hz)).trans (hk k h3 h4))
theorem info3 : (Tryz.prog.info? 3).map (fun i => (i.zero, i.size, i.bytes)) = some (some (.int .i64 0), 1, 8) := by kernel_rfl
theorem info_parts {t : TypeId} {z : Value} {s b : Nat} (h : (Tryz.prog.info? t).map (fun i => (i.zero, i.size, i.bytes)) = some (some z, s, b)) :
    ∃ i, Tryz.prog.info? t = some i ∧ i.zero = some z ∧ i.size = s ∧ i.bytes = b := by
  obtain ⟨i, h1, h2⟩ := Option.map_eq_some_iff.1 h
  simp only [Prod.mk.injEq] at h2
  exact ⟨i, h1, h2.1, h2.2.1, h2.2.2⟩
/- what Before makes -/
def pushAt (ls : List (List Int)) (i : Nat) (x : Int) : List (List Int) := ls.set i (ls.getD i [] ++ [x])
def befRow (v : Int) : List (List Int) → List Int → List (List Int)
  | ls, [] => ls
  | ls, x :: r => befRow v (pushAt ls x.toNat v) r
def befGo : Nat → List (List Int) → List (List Int) → List (List Int)
  | _, ls, [] => ls
  | k, ls, r :: rs => befGo (k + 1) (befRow k ls r) rs
def befL (g : GT) : List (List Int) := if mayG g = 0 then befGo 0 (List.replicate g.own.length []) g.nxt else []
def RowsPost (w : World) (l : List (List Int)) (e : Ending) (w' : World) : Prop := ∃ s : SL, e = .returned s.v ∧ NewR w.heap.size w' s l ∧ Below w.heap.size w w'
end Go.Proofs.YtbppdalfcldodaaGreat.Gr
