/- What Build holds while it goes on: what was found, the owners, the rows; how each step leaves it. -/
import Derived.Test.YtbppdalfcldodaaGreatARow
set_option maxRecDepth 100000
namespace Go.Proofs.YtbppdalfcldodaaGreat
open Go.RowKit Ex
set_option linter.unusedSimpArgs false
set_option linter.unusedVariables false

/- finished rows of numbers, in blocks of their own -/
def RowsIn (w : World) (lo : Nat) (H : List Nat) (vs : List Value) (ls : List (List Int)) : Prop :=
  vs.length = ls.length ∧ ∀ (j : Nat) v l, vs[j]? = some v → ls[j]? = some l → ∃ O n c, v = .slice O n c ∧ w.ownsRow lo 3 1 v n (ints l) ∧ ∀ z, v.ownBlock = some z → z ∉ H
section
variable {w w' : World} {lo : Nat} {H H' : List Nat} {vs : List Value} {ls : List (List Int)}
theorem RowsIn.nil : RowsIn w lo H [] [] := ⟨rfl, fun j v l h => by simp at h⟩
theorem RowsIn.keep (h : RowsIn w lo H vs ls) (hk : ∀ z, lo ≤ z → z < w.heap.size → z ∉ H → w'.heap[z]? = w.heap[z]? ∧ z ∉ H') : RowsIn w' lo H' vs ls :=
  ⟨h.1, fun j v l hv hl => by
    obtain ⟨O, n, c, e, h2, h3⟩ := h.2 j v l hv hl
    refine ⟨O, n, c, e, ⟨h2.1, ?_⟩, fun z hz => (hk z (h2.lt z hz).1 (h2.lt z hz).2 (h3 z hz)).2⟩
    rcases h2.2 with h4 | ⟨g, cap, cur, e4, h4, h5, h6⟩
    · exact .inl h4
    · have hz : v.ownBlock = some g := by rw [e4]; rfl
      exact .inr ⟨g, cap, cur, e4, h4, (hk g (h2.lt g hz).1 (h2.lt g hz).2 (h3 g hz)).1.trans h5, h6⟩⟩
theorem RowsIn.snoc {v : Value} {l : List Int} (h : RowsIn w lo H vs ls) (hv : ∃ O n c, v = .slice O n c ∧ w.ownsRow lo 3 1 v n (ints l) ∧ ∀ z, v.ownBlock = some z → z ∉ H) : RowsIn w lo H (vs ++ [v]) (ls ++ [l]) :=
  ⟨by simp [h.1], fun j u r hu hr => by
    by_cases hj : j < vs.length
    · rw [List.getElem?_append_left hj] at hu
      rw [List.getElem?_append_left (by rw [← h.1]; exact hj)] at hr
      exact h.2 j u r hu hr
    · rw [List.getElem?_append_right (by omega)] at hu
      rw [List.getElem?_append_right (by rw [← h.1]; omega), ← h.1] at hr
      have h0 : j - vs.length = 0 := by
        have := (List.getElem?_eq_some_iff.1 hu).1
        simp at this; omega
      rw [h0] at hu hr
      simp at hu hr
      subst hu; subst hr; exact hv⟩
theorem rr_of {n c : Nat} {O : Option Addr} (h : w.ownsRow lo 32 1 (.slice O n c) n vs) (hr : RowsIn w lo H vs ls) : Gr.RR w w.heap.size ⟨O, n, c⟩ ls := by
  have hl : vs.length = n := by have := h.1; simpa using this
  have hcap : n ≤ c ∧ c ≤ maxLen := by
    rcases h.2 with ⟨e, _⟩ | ⟨g, cap, cur, e, _, _, h1, h2, _⟩
    · injection e with e1 e2 e3; subst e2; subst e3; unfold maxLen; omega
    · injection e with e1 e2 e3; subst e3; exact ⟨h1, h2⟩
  refine ⟨by rw [← hr.1, hl], hcap.1, hcap.2, fun hn => ?_, fun e => ?_⟩
  · obtain ⟨g, cap, hv, hb, hlt⟩ := h.form hn
    have hA : O = some ⟨g, 0, none⟩ := by injection hv
    subst hA
    refine ⟨g, 0, rfl, hlt, fun k x hx => ?_⟩
    have hk : k < vs.length := by rw [hr.1]; exact (List.getElem?_eq_some_iff.1 hx).1
    obtain ⟨O2, n2, c2, e2, h2, _⟩ := hr.2 k _ x (List.getElem?_eq_getElem hk) hx
    have h4 := h.cells (g := g) rfl k _ (List.getElem?_eq_getElem hk)
    rw [e2] at h2 h4
    refine ⟨⟨O2, n2, c2⟩, ?_, Gr.own_ri h2⟩
    show w.cell? ⟨g, 0 + k, none⟩ = some (Value.slice O2 n2 c2)
    rw [Nat.zero_add]
    by_cases hk0 : k = 0
    · subst hk0; simpa [Addr.add] using h4
    · simpa [Addr.add, hk0] using h4
  · rcases h.2 with ⟨e1, _⟩ | ⟨g, cap, cur, e1, _⟩
    · injection e1
    · injection e1 with e1; simp only at e; rw [e] at e1; cases e1
end
def bsH (F M G : Nat) (s ow nx : SL) : List Nat := fsH F M s ++ (G :: (ow.own ++ nx.own))
structure BS (w : World) (lo F M G : Nat) (s ow nx : SL) (l : List Vx) (os : List Int) (ls : List (List Int)) : Prop where
  fs : FS w lo F M s l
  box : w.heap[G]? = some (.cells #[ow.v, nx.v] 35 (0, 0))
  orow : w.ownsRow lo 3 1 ow.v ow.n (ints os)
  nrow : ∃ vs, w.ownsRow lo 32 1 nx.v nx.n vs ∧ RowsIn w lo (bsH F M G s ow nx) vs ls
  nd : (bsH F M G s ow nx).Nodup
  low : ∀ k ∈ bsH F M G s ow nx, lo ≤ k ∧ k < w.heap.size
section
variable {w w' : World} {lo F M G : Nat} {s s' ow nx : SL} {l l' : List Vx} {os : List Int} {ls : List (List Int)}
theorem own_one (s : SL) : s.own = [] ∨ ∃ g, s.own = [g] := by
  obtain ⟨A, n, c⟩ := s
  cases A with
  | none => exact .inl rfl
  | some a => exact .inr ⟨a.block, rfl⟩
theorem FS.nodup (h : FS w lo F M s l) : (fsH F M s).Nodup := by
  unfold fsH
  rw [List.nodup_cons, List.nodup_cons]
  refine ⟨?_, fun hm => (h.fr M hm).2 rfl, ?_⟩
  · rw [List.mem_cons]
    rintro (e | hm)
    · exact h.fm e
    · exact (h.fr F hm).1 rfl
  · rcases own_one s with e | ⟨g, e⟩ <;> rw [e] <;> simp
theorem bs_fs (h : BS w lo F M G s ow nx l os ls) : ∀ k, k ∈ fsH F M s → k ≠ G ∧ k ∉ ow.own ∧ k ∉ nx.own := fun k hk => by
  have h2 := h.nd
  unfold bsH at h2
  rw [List.nodup_append] at h2
  have h3 := h2.2.2 k hk
  exact ⟨fun e => h3 k (by rw [e]; simp) rfl, fun hm => h3 k (by simp [hm]) rfl, fun hm => h3 k (by simp [hm]) rfl⟩
theorem bs_g (h : BS w lo F M G s ow nx l os ls) : G ∉ ow.own ∧ G ∉ nx.own ∧ ∀ k, k ∈ ow.own → k ∉ nx.own := by
  have h2 := h.nd
  unfold bsH at h2
  rw [List.nodup_append, List.nodup_cons, List.nodup_append] at h2
  obtain ⟨_, ⟨h3, _, _, h4⟩, _⟩ := h2
  rw [List.mem_append, not_or] at h3
  exact ⟨h3.1, h3.2, fun k h5 h6 => h4 k h5 k h6 rfl⟩
theorem bs_mem {k : Nat} : k ∈ bsH F M G s ow nx ↔ k ∈ fsH F M s ∨ k = G ∨ k ∈ ow.own ∨ k ∈ nx.own := by
  unfold bsH
  rw [List.mem_append, List.mem_cons, List.mem_append]
theorem bs_nodup (h1 : (fsH F M s).Nodup) (h2 : ∀ k, k ∈ fsH F M s → k ≠ G ∧ k ∉ ow.own ∧ k ∉ nx.own) (h3 : G ∉ ow.own ∧ G ∉ nx.own ∧ ∀ k, k ∈ ow.own → k ∉ nx.own) : (bsH F M G s ow nx).Nodup := by
  unfold bsH
  have ho : ∀ s : SL, s.own.Nodup := fun s => by rcases own_one s with e | ⟨g, e⟩ <;> rw [e] <;> simp
  rw [List.nodup_append, List.nodup_cons, List.nodup_append]
  refine ⟨h1, ⟨?_, ho _, ho _, fun a ha b hb e => h3.2.2 a ha (e ▸ hb)⟩, fun a ha b hb e => ?_⟩
  · rw [List.mem_append, not_or]; exact ⟨h3.1, h3.2.1⟩
  · subst e
    obtain ⟨h4, h5, h6⟩ := h2 a ha
    rw [List.mem_cons, List.mem_append] at hb
    rcases hb with e | hb | hb
    · exact h4 e
    · exact h5 hb
    · exact h6 hb
theorem own_keep {b e sz n : Nat} {v : Value} {xs : List Value} (h : w.ownsRow b e sz v n xs) (hk : ∀ k, v.ownBlock = some k → w'.heap[k]? = w.heap[k]?) : w'.ownsRow b e sz v n xs := by
  refine ⟨h.1, ?_⟩
  rcases h.2 with h4 | ⟨g, cap, cur, e, h4, h5, h6⟩
  · exact .inl h4
  · exact .inr ⟨g, cap, cur, e, h4, (hk g (by rw [e]; rfl)).trans h5, h6⟩
/- only what was found turns -/
theorem BS.found (h : BS w lo F M G s ow nx l os ls) (hf : FS w' lo F M s' l') (hr : Fr (fsH F M s) (fsH F M s') w w') (hlo : lo ≤ w.heap.size) : BS w' lo F M G s' ow nx l' os ls := by
  have hne := bs_fs h
  have hg := bs_g h
  have hin : ∀ k, k ∈ bsH F M G s ow nx → k ∉ fsH F M s → w'.heap[k]? = w.heap[k]? := fun k hk hn => hr.block k (h.low k hk).2 hn
  have hG : G ∉ fsH F M s := fun hm => (hne G hm).1 rfl
  obtain ⟨vs, hv1, hv2⟩ := h.nrow
  have hnew : ∀ k, k ∈ fsH F M s' → k ∈ fsH F M s ∨ w.heap.size ≤ k := hr.new
  refine ⟨hf, (hin G (bs_mem.2 (.inr (.inl rfl))) hG).trans h.box, own_keep h.orow (fun k hk => hin k (bs_mem.2 (.inr (.inr (.inl (own_mem.2 hk))))) (fun hm => (hne k hm).2.1 (own_mem.2 hk))),
    ⟨vs, own_keep hv1 (fun k hk => hin k (bs_mem.2 (.inr (.inr (.inr (own_mem.2 hk))))) (fun hm => (hne k hm).2.2 (own_mem.2 hk))), hv2.keep fun z hz1 hz2 hz3 => ⟨hr.block z hz2 (fun hm => hz3 (bs_mem.2 (.inl hm))), fun hm => ?_⟩⟩, bs_nodup hf.nodup (fun k hk => ?_) hg, fun k hk => ?_⟩
  · rcases bs_mem.1 hm with h1 | h1
    · rcases hnew z h1 with h2 | h2
      · exact hz3 (bs_mem.2 (.inl h2))
      · omega
    · exact hz3 (bs_mem.2 (.inr h1))
  · rcases hnew k hk with h2 | h2
    · exact hne k h2
    · refine ⟨fun e => ?_, fun hm => ?_, fun hm => ?_⟩
      · have := (h.low G (bs_mem.2 (.inr (.inl rfl)))).2; omega
      · have := (h.low k (bs_mem.2 (.inr (.inr (.inl hm))))).2; omega
      · have := (h.low k (bs_mem.2 (.inr (.inr (.inr hm))))).2; omega
  · rcases bs_mem.1 hk with h1 | h1
    · rcases hnew k h1 with h2 | h2
      · have h3 := (h.low k (bs_mem.2 (.inl h2))); have := hf.lt k h1; omega
      · have := hf.lt k h1; omega
    · have h3 := (h.low k (bs_mem.2 (.inr h1))); have := hr.size; omega
/- the owners grow by one -/
theorem BS.owner {w6 : World} {o : Obj} {gg cap : Nat} {q : Int} (h : BS w lo F M G s ow nx l os ls) (hgrow : (w.alloc o).drew.grownBy w6 ow.v.ownBlock) (hat : ow.v.ownBlock = some gg ∨ gg = w.heap.size + 1) (hlo : lo ≤ w.heap.size)
    (hrow : w6.ownsRow lo 3 1 (.slice (some ⟨gg, 0, none⟩) (ow.n + 1) cap) (ow.n + 1) (ints (os ++ [q]))) : BS (w6.setCell ⟨G, 0, none⟩ (.slice (some ⟨gg, 0, none⟩) (ow.n + 1) cap)) lo F M G s ⟨some ⟨gg, 0, none⟩, ow.n + 1, cap⟩ nx l (os ++ [q]) ls := by
  have hne := bs_fs h
  have hg := bs_g h
  have hzg : w.heap.size + 1 ≤ w6.heap.size := by have := hgrow.size; simpa using this
  have hGl := (h.low G (bs_mem.2 (.inr (.inl rfl)))).2
  have same : ∀ k, k < w.heap.size → k ∉ ow.own → w6.heap[k]? = w.heap[k]? := fun k hk hn => by
    rw [hgrow.block k (by simp; omega) (fun e => hn (own_mem.2 e.symm))]
    exact Below.heap_alloc w _ _ hk
  have hgo : ∀ k, k < w.heap.size → k ∉ ow.own → gg ≠ k := fun k hk hn e => by
    rcases hat with h1 | h1
    · exact hn (own_mem.2 (e ▸ h1))
    · omega
  have keep : ∀ k, k < w.heap.size → k ∉ ow.own → k ≠ G → (w6.setCell ⟨G, 0, none⟩ (.slice (some ⟨gg, 0, none⟩) (ow.n + 1) cap)).heap[k]? = w.heap[k]? := fun k hk hn hG => (Below.heap_setCell _ _ _ _ hG).trans (same k hk hn)
  have hgG : gg ≠ G := hgo G hGl hg.1
  have ownS : ∀ k, k ∈ (SL.mk (some ⟨gg, 0, none⟩) (ow.n + 1) cap).own → k = gg := fun k hk => by simpa [SL.own] using hk
  have hggl : lo ≤ gg ∧ gg < w6.heap.size := hrow.lt gg rfl
  obtain ⟨vs, hv1, hv2⟩ := h.nrow
  have hb6 : w6.heap[G]? = some (.cells #[ow.v, nx.v] 35 (0, 0)) := (same G hGl hg.1).trans h.box
  refine ⟨h.fs.keep fun k hk => keep k (h.low k (bs_mem.2 (.inl hk))).2 (hne k hk).2.1 (hne k hk).1, by rw [heap_setCell_same w6 G 0 _ 35 _ hb6]; rfl, own_keep hrow (fun k hk => ?_), ⟨vs, own_keep hv1 (fun k hk => ?_), hv2.keep fun z hz1 hz2 hz3 => ?_⟩, bs_nodup h.fs.nodup (fun k hk => ?_) ⟨?_, hg.2.1, fun k hk => ?_⟩, fun k hk => ?_⟩
  · have e : gg = k := by simpa [Value.ownBlock, SL.v] using hk
    subst e
    exact Below.heap_setCell _ _ _ _ hgG
  · have hk2 := own_mem.2 hk
    exact keep k (h.low k (bs_mem.2 (.inr (.inr (.inr hk2))))).2 (fun hm => hg.2.2 k hm hk2) (fun e => hg.2.1 (e ▸ hk2))
  · have h1 : z ∉ ow.own := fun hm => hz3 (bs_mem.2 (.inr (.inr (.inl hm))))
    refine ⟨keep z hz2 h1 (fun e => hz3 (bs_mem.2 (.inr (.inl e)))), fun hm => ?_⟩
    rcases bs_mem.1 hm with h2 | h2 | h2 | h2
    · exact hz3 (bs_mem.2 (.inl h2))
    · exact hz3 (bs_mem.2 (.inr (.inl h2)))
    · exact hgo z hz2 h1 (ownS z h2).symm
    · exact hz3 (bs_mem.2 (.inr (.inr (.inr h2))))
  · exact ⟨(hne k hk).1, fun hm => hgo k (h.low k (bs_mem.2 (.inl hk))).2 (hne k hk).2.1 (ownS k hm).symm, (hne k hk).2.2⟩
  · exact fun hm => hgG (ownS G hm).symm
  · intro hm
    have e := ownS k hk
    subst e
    exact hgo k (h.low k (bs_mem.2 (.inr (.inr (.inr hm))))).2 (fun h5 => hg.2.2 k h5 hm) rfl
  · have hz : (w6.setCell ⟨G, 0, none⟩ (.slice (some ⟨gg, 0, none⟩) (ow.n + 1) cap)).heap.size = w6.heap.size := by simp [World.setCell]
    rw [hz]
    rcases bs_mem.1 hk with h2 | h2 | h2 | h2
    · have := h.low k (bs_mem.2 (.inl h2)); omega
    · have := h.low k (bs_mem.2 (.inr (.inl h2))); omega
    · have := ownS k h2; omega
    · have := h.low k (bs_mem.2 (.inr (.inr (.inr h2)))); omega
/- the rows grow by one -/
theorem BS.next {w6 : World} {o : Obj} {gg cap : Nat} {v : Value} {r : List Int} {vs : List Value} (h : BS w lo F M G s ow nx l os ls) (hv1 : w.ownsRow lo 32 1 nx.v nx.n vs) (hv2 : RowsIn w lo (bsH F M G s ow nx) vs ls) (hv : ∃ O n c, v = .slice O n c ∧ w.ownsRow lo 3 1 v n (ints r) ∧ ∀ z, v.ownBlock = some z → z ∉ bsH F M G s ow nx)
    (hgrow : (w.alloc o).grownBy w6 nx.v.ownBlock) (hat : nx.v.ownBlock = some gg ∨ gg = w.heap.size + 1) (hlo : lo ≤ w.heap.size)
    (hrow : w6.ownsRow lo 32 1 (.slice (some ⟨gg, 0, none⟩) (nx.n + 1) cap) (nx.n + 1) (vs ++ [v])) : BS (w6.setCell ⟨G, 1, none⟩ (.slice (some ⟨gg, 0, none⟩) (nx.n + 1) cap)) lo F M G s ow ⟨some ⟨gg, 0, none⟩, nx.n + 1, cap⟩ l os (ls ++ [r]) := by
  have hne := bs_fs h
  have hg := bs_g h
  have hzg : w.heap.size + 1 ≤ w6.heap.size := by have := hgrow.size; simpa using this
  have hGl := (h.low G (bs_mem.2 (.inr (.inl rfl)))).2
  have same : ∀ k, k < w.heap.size → k ∉ nx.own → w6.heap[k]? = w.heap[k]? := fun k hk hn => by
    rw [hgrow.block k (by simp; omega) (fun e => hn (own_mem.2 e.symm))]
    exact Below.heap_alloc w _ _ hk
  have hgo : ∀ k, k < w.heap.size → k ∉ nx.own → gg ≠ k := fun k hk hn e => by
    rcases hat with h1 | h1
    · exact hn (own_mem.2 (e ▸ h1))
    · omega
  have keep : ∀ k, k < w.heap.size → k ∉ nx.own → k ≠ G → (w6.setCell ⟨G, 1, none⟩ (.slice (some ⟨gg, 0, none⟩) (nx.n + 1) cap)).heap[k]? = w.heap[k]? := fun k hk hn hG => (Below.heap_setCell _ _ _ _ hG).trans (same k hk hn)
  have hgG : gg ≠ G := hgo G hGl hg.2.1
  have ownS : ∀ k, k ∈ (SL.mk (some ⟨gg, 0, none⟩) (nx.n + 1) cap).own → k = gg := fun k hk => by simpa [SL.own] using hk
  have hggl : lo ≤ gg ∧ gg < w6.heap.size := hrow.lt gg rfl
  have hb6 : w6.heap[G]? = some (.cells #[ow.v, nx.v] 35 (0, 0)) := (same G hGl hg.2.1).trans h.box
  refine ⟨h.fs.keep fun k hk => keep k (h.low k (bs_mem.2 (.inl hk))).2 (hne k hk).2.2 (hne k hk).1, by rw [heap_setCell_same w6 G 1 _ 35 _ hb6]; rfl, own_keep h.orow (fun k hk => ?_), ⟨vs ++ [v], own_keep hrow (fun k hk => ?_), (hv2.snoc hv).keep fun z hz1 hz2 hz3 => ?_⟩, bs_nodup h.fs.nodup (fun k hk => ?_) ⟨hg.1, ?_, fun k hk => ?_⟩, fun k hk => ?_⟩
  · have hk2 := own_mem.2 hk
    exact keep k (h.low k (bs_mem.2 (.inr (.inr (.inl hk2))))).2 (hg.2.2 k hk2) (fun e => hg.1 (e ▸ hk2))
  · have e : gg = k := by simpa [Value.ownBlock, SL.v] using hk
    subst e
    exact Below.heap_setCell _ _ _ _ hgG
  · have h1 : z ∉ nx.own := fun hm => hz3 (bs_mem.2 (.inr (.inr (.inr hm))))
    refine ⟨keep z hz2 h1 (fun e => hz3 (bs_mem.2 (.inr (.inl e)))), fun hm => ?_⟩
    rcases bs_mem.1 hm with h2 | h2 | h2 | h2
    · exact hz3 (bs_mem.2 (.inl h2))
    · exact hz3 (bs_mem.2 (.inr (.inl h2)))
    · exact hz3 (bs_mem.2 (.inr (.inr (.inl h2))))
    · exact hgo z hz2 h1 (ownS z h2).symm
  · exact ⟨(hne k hk).1, (hne k hk).2.1, fun hm => hgo k (h.low k (bs_mem.2 (.inl hk))).2 (hne k hk).2.2 (ownS k hm).symm⟩
  · exact fun hm => hgG (ownS G hm).symm
  · intro hm
    have e := ownS k hm
    subst e
    exact hgo k (h.low k (bs_mem.2 (.inr (.inr (.inl hk))))).2 (hg.2.2 k hk) rfl
  · have hz : (w6.setCell ⟨G, 1, none⟩ (.slice (some ⟨gg, 0, none⟩) (nx.n + 1) cap)).heap.size = w6.heap.size := by simp [World.setCell]
    rw [hz]
    rcases bs_mem.1 hk with h2 | h2 | h2 | h2
    · have := h.low k (bs_mem.2 (.inl h2)); omega
    · have := h.low k (bs_mem.2 (.inr (.inl h2))); omega
    · have := h.low k (bs_mem.2 (.inr (.inr (.inl h2)))); omega
    · have := ownS k h2; omega
theorem owner_step {w2 w6 : World} {o : Obj} {gg cap : Nat} {q : Int} {v : Value} {r : List Int} (h : BS w lo F M G s ow nx l os ls) (hgrow : (w.alloc o).drew.grownBy w6 ow.v.ownBlock) (hat : ow.v.ownBlock = some gg ∨ gg = w.heap.size + 1) (hlo : lo ≤ w.heap.size)
    (hrow : w6.ownsRow lo 3 1 (.slice (some ⟨gg, 0, none⟩) (ow.n + 1) cap) (ow.n + 1) (ints (os ++ [q]))) (hnew : ∃ O n c, v = .slice O n c ∧ w.ownsRow lo 3 1 v n (ints r) ∧ ∀ z, v.ownBlock = some z → z ∉ bsH F M G s ow nx) (hbl : Below lo w2 w) :
    (∃ O n c, v = .slice O n c ∧ (w6.setCell ⟨G, 0, none⟩ (.slice (some ⟨gg, 0, none⟩) (ow.n + 1) cap)).ownsRow lo 3 1 v n (ints r) ∧ ∀ z, v.ownBlock = some z → z ∉ bsH F M G s ⟨some ⟨gg, 0, none⟩, ow.n + 1, cap⟩ nx) ∧
      BS (w6.setCell ⟨G, 0, none⟩ (.slice (some ⟨gg, 0, none⟩) (ow.n + 1) cap)) lo F M G s ⟨some ⟨gg, 0, none⟩, ow.n + 1, cap⟩ nx l (os ++ [q]) ls ∧ Below lo w2 (w6.setCell ⟨G, 0, none⟩ (.slice (some ⟨gg, 0, none⟩) (ow.n + 1) cap)) := by
  obtain ⟨O, n, c, e, h2, h3⟩ := hnew
  have hGl := h.low G (bs_mem.2 (.inr (.inl rfl)))
  have hob : ∀ z, ow.v.ownBlock = some z → lo ≤ z := fun z hz => (h.orow.lt z hz).1
  have hb6 : Below lo w2 w6 := by
    have h5 : Below lo w2 (w.alloc o).drew := by
      have h6 := hbl.alloc (by have := hbl.size; omega) o
      exact ⟨h6.os, h6.tape, h6.output, h6.size, h6.block⟩
    exact h5.grown hgrow (by simp; omega) hob
  refine ⟨⟨O, n, c, e, own_keep h2 (fun z hz => ?_), fun z hz hm => ?_⟩, h.owner hgrow hat hlo hrow, hb6.trans ⟨rfl, rfl, rfl, by simp [World.setCell], fun k hk => Below.heap_setCell _ _ _ _ (by show k ≠ G; omega)⟩⟩
  · have hn := h3 z hz
    have hzl := (h2.lt z hz).2
    rw [Below.heap_setCell _ _ _ _ (fun e => hn (bs_mem.2 (.inr (.inl e)))), hgrow.block z (by simp; omega) (fun e => hn (bs_mem.2 (.inr (.inr (.inl (own_mem.2 e.symm))))))]
    exact Below.heap_alloc w _ _ hzl
  · have hn := h3 z hz
    have hzl := (h2.lt z hz).2
    rcases bs_mem.1 hm with h4 | h4 | h4 | h4
    · exact hn (bs_mem.2 (.inl h4))
    · exact hn (bs_mem.2 (.inr (.inl h4)))
    · have e2 : z = gg := by simpa [SL.own] using h4
      subst e2
      rcases hat with h5 | h5
      · exact hn (bs_mem.2 (.inr (.inr (.inl (own_mem.2 h5)))))
      · omega
    · exact hn (bs_mem.2 (.inr (.inr (.inr h4))))
theorem next_step {w2 w6 : World} {o : Obj} {gg cap : Nat} {v : Value} {r : List Int} {vs : List Value} (h : BS w lo F M G s ow nx l os ls) (hv1 : w.ownsRow lo 32 1 nx.v nx.n vs) (hv2 : RowsIn w lo (bsH F M G s ow nx) vs ls) (hv : ∃ O n c, v = .slice O n c ∧ w.ownsRow lo 3 1 v n (ints r) ∧ ∀ z, v.ownBlock = some z → z ∉ bsH F M G s ow nx)
    (hgrow : (w.alloc o).grownBy w6 nx.v.ownBlock) (hat : nx.v.ownBlock = some gg ∨ gg = w.heap.size + 1) (hlo : lo ≤ w.heap.size)
    (hrow : w6.ownsRow lo 32 1 (.slice (some ⟨gg, 0, none⟩) (nx.n + 1) cap) (nx.n + 1) (vs ++ [v])) (hbl : Below lo w2 w) :
    BS (w6.setCell ⟨G, 1, none⟩ (.slice (some ⟨gg, 0, none⟩) (nx.n + 1) cap)) lo F M G s ow ⟨some ⟨gg, 0, none⟩, nx.n + 1, cap⟩ l os (ls ++ [r]) ∧ Below lo w2 (w6.setCell ⟨G, 1, none⟩ (.slice (some ⟨gg, 0, none⟩) (nx.n + 1) cap)) := by
  have hGl := h.low G (bs_mem.2 (.inr (.inl rfl)))
  have hb6 : Below lo w2 w6 := (hbl.alloc (by have := hbl.size; omega) o).grown hgrow (by simp; omega) (fun z hz => (hv1.lt z hz).1)
  exact ⟨h.next hv1 hv2 hv hgrow hat hlo hrow, hb6.trans ⟨rfl, rfl, rfl, by simp [World.setCell], fun k hk => Below.heap_setCell _ _ _ _ (by show k ≠ G; omega)⟩⟩
/- at the start -/
theorem BS.start (hf : FS w lo F M s l) (hlo : lo ≤ w.heap.size) (hlow : ∀ k ∈ fsH F M s, lo ≤ k) : BS (w.alloc (.cells #[.slice none 0 0, .slice none 0 0] 35)) lo F M w.heap.size s ⟨none, 0, 0⟩ ⟨none, 0, 0⟩ l [] [] := by
  have hf1 := hf.below ((Below.refl _ _).alloc (Nat.le_refl _) (.cells #[.slice none 0 0, .slice none 0 0] 35))
  refine ⟨hf1, heap_alloc_new w _, World.ownsRow_nil _ _ _ _, ⟨[], World.ownsRow_nil _ _ _ _, RowsIn.nil⟩, bs_nodup hf.nodup (fun k hk => ⟨fun e => ?_, by simp [SL.own], by simp [SL.own]⟩) ⟨by simp [SL.own], by simp [SL.own], fun k hk => by simp [SL.own] at hk⟩, fun k hk => ?_⟩
  · have := hf.lt k hk; omega
  · simp only [World.size_alloc]
    rcases bs_mem.1 hk with h2 | h2 | h2 | h2
    · have := hf.lt k h2; have := hlow k h2; omega
    · omega
    · simp [SL.own] at h2
    · simp [SL.own] at h2
theorem BS.cells (h : BS w lo F M G s ow nx l os ls) : w.cell? ⟨G, 0, none⟩ = some ow.v ∧ w.cell? ⟨G, 1, none⟩ = some nx.v ∧ w.frozen? ⟨G, 0, none⟩ = false ∧ w.frozen? ⟨G, 1, none⟩ = false := ⟨by rw [Lib.cell_of_heap h.box]; rfl, by rw [Lib.cell_of_heap h.box]; rfl, frozen_of_row w G 0 _ 35 h.box, frozen_of_row w G 1 _ 35 h.box⟩
end
end Go.Proofs.YtbppdalfcldodaaGreat
