/- 'append(append([]Command, l...), c)' in a region that draws its order. -/
import Derived.Test.YtddbplgcglgloaaMOwn
import Derived.ArgAppend
namespace Go.Proofs.Ytddbplgcglgloaa
open Go.RowKit Ex
open Go.Sort (grow)
set_option linter.unusedSimpArgs false
set_option linter.unusedVariables false

theorem infoC : (Try.prog.info? 31).map (fun i => (i.zero, i.size, i.bytes)) = some (some (.agg #[.int .i64 0, .int .i64 0, .slice none 0 0, .slice none 0 0]), 4, 64) := by kernel_rfl
theorem q_dmod {W : World} {B : Nat} {x : M8} {m : MT} {dd : Nat} {os : Array Obj} (hB : B ≤ W.heap.size) (Hrm : Hid (RM W B x m)) : Calls Try.prog 8 #[.agg x.cells] (grow (redrawn W dd) os) fun e w'' => e = .returned (.int .i64 (modE m)) ∧ ∃ p : Regrown, w'' = grow (redrawn W p.d) p.os :=
  Calls.regrown_of (dmod_any B x m _ (Nat.le_trans hB (below_regrown W dd os).size) (Hrm.out.below ((below_regrown W dd os).mono hB)))
theorem cmds_cells {V : World} {B : Nat} {s : SL} {l : List CT} (h : Rows CmdAt 4 V B s l) : ∃ ks, Chunk 4 (CmdC V B) ks l ∧ ∀ ad, s.A = some ad → ∀ (j : Nat) u, ks.flatten[j]? = some u → V.cell? (ad.add j) = some u := by
  obtain ⟨A, n, c⟩ := s
  by_cases hn : 0 < n
  · obtain ⟨b, off, e, hb, _⟩ := h.2.2.2.1 hn
    simp only at e
    subst e
    obtain ⟨ks, h1, h2⟩ := rows_cells h hn (fun o a ha => cmd_cells o a ha)
    refine ⟨ks, h1, fun ad e j u hu => ?_⟩
    simp only at e
    injection e with e
    subst e
    have := h2 j u hu
    by_cases hj : j = 0
    · subst hj; simpa [Addr.add] using this
    · simpa [Addr.add, hj] using this
  · have hl : l = [] := List.eq_nil_of_length_eq_zero (by have := h.1; simp only at this; omega)
    subst hl
    exact ⟨[], Chunk.nil, fun ad _ j u hu => by simp at hu⟩
theorem rows_nil {α : Type} {P : World → Nat → Nat → Nat → α → Prop} {sz : Nat} {w : World} {B : Nat} {s : SL} {l : List α} (h : Rows P sz w B s l) (e : s.A = none) : s.n = 0 ∧ s.c = 0 := by
  refine ⟨?_, h.2.2.2.2 e⟩
  by_cases hn : 0 < s.n
  · obtain ⟨b, off, e2, _⟩ := h.2.2.2.1 hn
    rw [e] at e2; cases e2
  · omega
/- a row of one's own, at block g -/
def OwnR (w : World) (base e sz n : Nat) (xs : List Value) (v : Value) (g : Nat) : Prop := ∃ cap, v = .slice (some ⟨g, 0, none⟩) n cap ∧ w.ownsRow base e sz v n xs
theorem OwnR.keep {w w' : World} {base e sz n : Nat} {xs : List Value} {v : Value} {g : Nat} (h : OwnR w base e sz n xs v g) (hg : w'.heap[g]? = w.heap[g]?) : OwnR w' base e sz n xs v g := by
  obtain ⟨cap, rfl, h1, h2⟩ := h
  refine ⟨cap, rfl, h1, ?_⟩
  rcases h2 with ⟨e1, _⟩ | ⟨g2, cap2, cur, e1, h3, h4, h5⟩
  · cases e1
  · injection e1 with e2 e3 e4
    injection e2 with e2
    injection e2 with e2
    subst e2
    exact .inr ⟨g, cap2, cur, by rw [e4], h3, hg.trans h4, h5⟩
section
variable {a : Act} {w : World} {K : Act → World → Prop} {Q : Exit → Act → World → Prop} {d ty : Nat} {pos : String} {af : Array Edge}
theorem st_move {t : Nat} {v : Value} (he : a.eval (.tmp t) = v) (hK : K (a.put (some d) v) w) : Oper.wp Try.prog ⟨some d, .move (.tmp t), ty, pos, af, none⟩ a w K Q := by
  refine wp_val ?_ hK
  simp only [execOp, he]
  go_simp
theorem st_assign {t : Nat} {v : Value} (he : a.eval (.tmp t) = v) (hK : K (a.put (some d) v) w) : Oper.wp Try.prog ⟨some d, .assign (.tmp t), ty, pos, af, none⟩ a w K Q := by
  refine wp_val ?_ hK
  simp only [execOp, he]
  go_simp
theorem st_loadC {t b : Nat} {y : C2} (he : a.eval (.tmp t) = .pointer (some ⟨b, 0, none⟩)) (hc : w.heap[b]? = some (.cells y.cells 31 (0, 0))) (hK : K (a.put (some d) (.agg y.cells)) w) : Oper.wp Try.prog ⟨some d, .load 31 (.tmp t), ty, pos, af, none⟩ a w K Q := by
  obtain ⟨⟨co, cn, cA, cl, cc⟩, ⟨tA, tn, tc⟩⟩ := y
  simp only [C2.cells, SL.v] at *
  have c0 := blk hc (i := 0) rfl
  have c1 := blk hc (i := 1) rfl
  have c2 := blk hc (i := 2) rfl
  have c3 := blk hc (i := 3) rfl
  refine wp_val ?_ hK
  simp only [execOp, he]
  go_simp
theorem st_noneC (hK : K (a.put (some d) (.slice (some ⟨w.heap.size, 0, none⟩) 0 0)) (w.alloc (.cells #[] 31))) : Oper.wp Try.prog ⟨some d, .buildSlice 26 0 #[], ty, pos, af, none⟩ a w K Q := by
  refine wp_val ?_ hK
  simp only [execOp]
  go_simp
theorem st_oneC {t : Nat} {y : C2} (he : a.eval (.tmp t) = .agg y.cells) (hK : K (a.put (some d) (.slice (some ⟨w.heap.size, 0, none⟩) 1 1)) (w.alloc (.cells y.cells 31))) : Oper.wp Try.prog ⟨some d, .buildSlice 26 1 #[(0, .tmp t)], ty, pos, af, none⟩ a w K Q := by
  obtain ⟨⟨co, cn, cA, cl, cc⟩, ⟨tA, tn, tc⟩⟩ := y
  simp only [C2.cells, SL.v] at *
  have he' : a.tmps[t]?.getD undef = .agg #[.int .i64 co, .int .i64 cn, .slice cA cl cc, .slice tA tn tc] := by simpa [Act.eval] using he
  refine wp_val ?_ hK
  simp only [execOp]
  go_simp
end
def dst9 : Nat → Nat
  | 0 => 46
  | 1 => 47
  | 2 => 48
  | 3 => 49
  | 4 => 50
  | 5 => 51
  | 6 => 14
  | k + 7 => 1000 + k
def deps9 : Nat → List Nat
  | 2 => [0, 1]
  | 4 => [3]
  | 5 => [2, 4]
  | 6 => [5]
  | _ => []
def eats9 : Nat → List Nat
  | 2 => [0]
  | 5 => [2]
  | 6 => [5]
  | _ => []
def reads9 : Nat → List Nat
  | 5 => [4]
  | _ => []
def own9 : Nat → Bool
  | 1 => false
  | 3 => false
  | _ => true
def S9 (lA : Option Addr) (ln lc : Nat) (y : C2) : Nat → Value → Nat → Prop
  | 0, v, g => v = .slice (some ⟨g, 0, none⟩) 0 0
  | 1, v, _ => v = .slice lA ln lc
  | 2, v, g => ∃ cap, v = .slice (some ⟨g, 0, none⟩) ln cap
  | 3, v, _ => v = .agg y.cells
  | 4, v, g => v = .slice (some ⟨g, 0, none⟩) 1 1
  | _, v, g => ∃ cap, v = .slice (some ⟨g, 0, none⟩) (ln + 1) cap
def R9 (base ln : Nat) (y : C2) (xs : List Value) : Nat → Value → World → Nat → Prop
  | 0, v, w, g => OwnR w base 31 4 0 [] v g
  | 1, _, _, _ => True
  | 2, v, w, g => OwnR w base 31 4 ln xs v g
  | 3, _, _, _ => True
  | 4, _, w, g => w.heap[g]? = some (.cells y.cells 31 (0, 0))
  | _, v, w, g => OwnR w base 31 4 (ln + 1) (xs ++ y.cells.toList) v g
theorem seven {i : Nat} (h : i < 7) : i = 0 ∨ i = 1 ∨ i = 2 ∨ i = 3 ∨ i = 4 ∨ i = 5 ∨ i = 6 := by omega
set_option maxRecDepth 100000 in
set_option maxHeartbeats 1000000 in
theorem long_region {id b ln lc : Nat} {lA : Option Addr} {ops : Array Oper} {Q : Exit → Act → World → Prop} {a0 : Act} {W : World} {y : C2} {xs : List Value}
    (hm : Try.prog.follows .mixedOrders = true) (hsz : ops.size = 7) (hac : ownAc ops = true) (hdep : ownDeps ops deps9 = true)
    (o0 : ∃ ty pos af, ops[0]? = some ⟨some 46, .buildSlice 26 0 #[], ty, pos, af, none⟩)
    (o1 : ∃ ty pos af, ops[1]? = some ⟨some 47, .move (.tmp 13), ty, pos, af, none⟩)
    (o2 : ∃ ty pos af, ops[2]? = some ⟨some 48, .call { callee := .builtin .append, args := #[.tmp 46, .tmp 47], argTypes := #[26, 26] }, ty, pos, af, none⟩)
    (o3 : ∃ ty pos af, ops[3]? = some ⟨some 49, .load 31 (.tmp 5), ty, pos, af, none⟩)
    (o4 : ∃ ty pos af, ops[4]? = some ⟨some 50, .buildSlice 26 1 #[(0, .tmp 49)], ty, pos, af, none⟩)
    (o5 : ∃ ty pos af, ops[5]? = some ⟨some 51, .call { callee := .builtin .append, args := #[.tmp 48, .tmp 50], argTypes := #[26, 26] }, ty, pos, af, none⟩)
    (o6 : ∃ ty pos af, ops[6]? = some ⟨some 14, .assign (.tmp 51), ty, pos, af, none⟩)
    (hts : 52 ≤ a0.tmps.size) (h13 : a0.eval (.tmp 13) = .slice lA ln lc) (h5 : a0.eval (.tmp 5) = .pointer (some ⟨b, 0, none⟩)) (hb : W.heap[b]? = some (.cells y.cells 31 (0, 0))) (hbW : b < W.heap.size)
    (hlen : xs.length = ln * 4) (hnil : lA = none → ln = 0 ∧ lc = 0) (hcl : ∀ ad, lA = some ad → ∀ (j : Nat) u, xs[j]? = some u → W.cell? (ad.add j) = some u) (h1 : ∀ u ∈ xs, u.oneCell' = true) (hl : ln ≤ 100)
    (hend : ∀ (u : Nat → Value) (g cap : Nat) (w : World), u 14 = .slice (some ⟨g, 0, none⟩) (ln + 1) cap → w.ownsRow W.heap.size 31 4 (.slice (some ⟨g, 0, none⟩) (ln + 1) cap) (ln + 1) (xs ++ y.cells.toList) → Below W.heap.size W w → Q .normal (sel [46, 47, 48, 49, 50, 51, 14] a0 u) w) :
    (Code.region id ops true).wp Try.prog Q a0 W := by
  obtain ⟨i0, hi0, hi1, hi2, hi3⟩ := info_parts infoC
  refine region_own (n := 7) [46, 47, 48, 49, 50, 51, 14] dst9 deps9 eats9 reads9 own9 (S9 lA ln lc y) (R9 W.heap.size ln y xs) hm hsz hac hdep ?_ ?_ ?_ ?_ ?_ ?_ ?_ ?_ ?_
  · intro i j hi h
    rcases seven hi with rfl | rfl | rfl | rfl | rfl | rfl | rfl <;> simp [eats9, reads9, deps9] at h ⊢ <;> omega
  · intro i i' j hi hi' h h'
    rcases seven hi with rfl | rfl | rfl | rfl | rfl | rfl | rfl <;> simp [eats9] at h <;> rcases seven hi' with rfl | rfl | rfl | rfl | rfl | rfl | rfl <;> simp [eats9] at h' <;> omega
  · intro i e j hi he h h'
    rcases seven hi with rfl | rfl | rfl | rfl | rfl | rfl | rfl <;> simp [reads9] at h <;> rcases seven he with rfl | rfl | rfl | rfl | rfl | rfl | rfl <;> simp [eats9] at h' <;> omega
  · intro i j hi h
    rcases seven hi with rfl | rfl | rfl | rfl | rfl | rfl | rfl <;> simp [deps9] at h <;> omega
  · intro i o ho
    have hi : i < 7 := by rw [← hsz]; exact (Array.getElem?_eq_some_iff.1 ho).1
    left
    rcases seven hi with rfl | rfl | rfl | rfl | rfl | rfl | rfl
    · obtain ⟨ty, pos, af, e⟩ := o0; rw [ho] at e; obtain rfl := Option.some.inj e; exact ⟨rfl, by decide, by show 46 < _; omega⟩
    · obtain ⟨ty, pos, af, e⟩ := o1; rw [ho] at e; obtain rfl := Option.some.inj e; exact ⟨rfl, by decide, by show 47 < _; omega⟩
    · obtain ⟨ty, pos, af, e⟩ := o2; rw [ho] at e; obtain rfl := Option.some.inj e; exact ⟨rfl, by decide, by show 48 < _; omega⟩
    · obtain ⟨ty, pos, af, e⟩ := o3; rw [ho] at e; obtain rfl := Option.some.inj e; exact ⟨rfl, by decide, by show 49 < _; omega⟩
    · obtain ⟨ty, pos, af, e⟩ := o4; rw [ho] at e; obtain rfl := Option.some.inj e; exact ⟨rfl, by decide, by show 50 < _; omega⟩
    · obtain ⟨ty, pos, af, e⟩ := o5; rw [ho] at e; obtain rfl := Option.some.inj e; exact ⟨rfl, by decide, by show 51 < _; omega⟩
    · obtain ⟨ty, pos, af, e⟩ := o6; rw [ho] at e; obtain rfl := Option.some.inj e; exact ⟨rfl, by decide, by show 14 < _; omega⟩
  · intro i j hi hj h
    rcases seven hi with rfl | rfl | rfl | rfl | rfl | rfl | rfl <;> rcases seven hj with rfl | rfl | rfl | rfl | rfl | rfl | rfl <;> simp [dst9] at h ⊢
  · intro j x w w' g hj hr hbw hbw' hk
    rcases seven hj with rfl | rfl | rfl | rfl | rfl | rfl | rfl
    · exact OwnR.keep hr (hk rfl)
    · trivial
    · exact OwnR.keep hr (hk rfl)
    · trivial
    · exact (hk rfl).trans hr
    · exact OwnR.keep hr (hk rfl)
    · exact OwnR.keep hr (hk rfl)
  · intro i o a w v g K hi ho hs hd hr hbw hK
    have hz := hbw.size
    rcases seven hi with rfl | rfl | rfl | rfl | rfl | rfl | rfl
    · obtain ⟨ty, pos, af, e⟩ := o0; rw [ho] at e; obtain rfl := Option.some.inj e
      refine st_noneC (hK _ w.heap.size _ rfl ⟨0, rfl, own_empty (new_at rfl) hz⟩ (hbw.alloc hz _) (by simp) (fun _ => ⟨.inr (Nat.le_refl _), by simp⟩) (fun b hb _ => Below.heap_alloc _ _ _ hb))
    · obtain ⟨ty, pos, af, e⟩ := o1; rw [ho] at e; obtain rfl := Option.some.inj e
      exact st_move (v := .slice lA ln lc) ((hs 13 (by decide)).trans h13) (hK _ 0 _ rfl trivial hbw (Nat.le_refl _) (fun h => by cases h) (fun b hb _ => rfl))
    · obtain ⟨ty, pos, af, e⟩ := o2; rw [ho] at e; obtain rfl := Option.some.inj e
      obtain ⟨⟨cap, e1, ow⟩, q2⟩ := hr 0 (.inl (by simp [eats9]))
      obtain ⟨q3, q4⟩ := q2 rfl
      obtain ⟨e2, e3⟩ := hd 0 (by simp [deps9])
      obtain ⟨e4, e5⟩ := hd 1 (by simp [deps9])
      have e2 : a.eval (.tmp 46) = v 0 := e2 (by decide)
      have e4 : a.eval (.tmp 47) = v 1 := e4 (by decide)
      have e3 : v 0 = .slice (some ⟨g 0, 0, none⟩) 0 0 := e3
      have e5 : v 1 = .slice lA ln lc := e5
      rw [e3] at e1 e2 ow
      rw [e5] at e4
      refine wp_append_row (.tmp 46) (.tmp 47) 26 rfl W.heap.size 31 i0 _ 4 64 Try.underlying26 hi0 hi1 hi2 hi3 rfl (by omega) (g 0) 0 0 [] e2 ow lA ln lc xs e4 hlen hnil (fun ad h j u hu => by
        have h' := hcl ad h j u hu
        exact (hbw.cell (block_lt_of_cell h')).trans h') h1 (by unfold maxLen; omega) (by omega) hz (fun g' cap' w' ow' hg hor hlt => ?_)
      rw [Nat.zero_add, List.nil_append] at ow'
      rw [Nat.zero_add]
      refine hK _ g' w' ⟨cap', rfl⟩ ⟨cap', rfl, ow'⟩ (hbw.grown hg hz (fun k hk => by injection hk with hk; omega)) hg.size (fun _ => ⟨?_, hlt⟩) (fun b hb hne => hg.block b hb (fun e => by injection e with e; exact hne 0 (by simp [eats9]) rfl e))
      rcases hor with h | h
      · exact .inl ⟨0, by simp [eats9], rfl, h⟩
      · exact .inr (by omega)
    · obtain ⟨ty, pos, af, e⟩ := o3; rw [ho] at e; obtain rfl := Option.some.inj e
      exact st_loadC (b := b) (y := y) ((hs 5 (by decide)).trans h5) ((hbw.block b hbW).trans hb) (hK _ 0 _ rfl trivial hbw (Nat.le_refl _) (fun h => by cases h) (fun b hb _ => rfl))
    · obtain ⟨ty, pos, af, e⟩ := o4; rw [ho] at e; obtain rfl := Option.some.inj e
      obtain ⟨e2, e3⟩ := hd 3 (by simp [deps9])
      have e2 : a.eval (.tmp 49) = v 3 := e2 (by decide)
      have e3 : v 3 = .agg y.cells := e3
      rw [e3] at e2
      exact st_oneC e2 (hK _ w.heap.size _ rfl (new_at rfl) (hbw.alloc hz _) (by simp) (fun _ => ⟨.inr (Nat.le_refl _), by simp⟩) (fun b hb _ => Below.heap_alloc _ _ _ hb))
    · obtain ⟨ty, pos, af, e⟩ := o5; rw [ho] at e; obtain rfl := Option.some.inj e
      obtain ⟨⟨cap, e1, ow⟩, q2⟩ := hr 2 (.inl (by simp [eats9]))
      obtain ⟨q3, q4⟩ := q2 rfl
      obtain ⟨r1, r2⟩ := hr 4 (.inr (by simp [reads9]))
      obtain ⟨r3, r4⟩ := r2 rfl
      obtain ⟨e2, _⟩ := hd 2 (by simp [deps9])
      obtain ⟨e4, e5⟩ := hd 4 (by simp [deps9])
      have e2 : a.eval (.tmp 48) = v 2 := e2 (by decide)
      have e4 : a.eval (.tmp 50) = v 4 := e4 (by decide)
      have e5 : v 4 = .slice (some ⟨g 4, 0, none⟩) 1 1 := e5
      have r1 : w.heap[g 4]? = some (.cells y.cells 31 (0, 0)) := r1
      rw [e1] at e2 ow
      rw [e5] at e4
      refine wp_append_row (.tmp 48) (.tmp 50) 26 rfl W.heap.size 31 i0 _ 4 64 Try.underlying26 hi0 hi1 hi2 hi3 rfl (by omega) (g 2) ln cap xs e2 ow (some ⟨g 4, 0, none⟩) 1 1 y.cells.toList e4 (by simp [C2.cells]) (fun h => by cases h) (fun ad h j u hu => by
        injection h with h
        subst h
        exact World.news_of_block r1 j u hu) (by simp [C2.cells, SL.v, Value.oneCell']) (by unfold maxLen; omega) (by omega) hz (fun g' cap' w' ow' hg hor hlt => ?_)
      refine hK _ g' w' ⟨cap', rfl⟩ ⟨cap', rfl, ow'⟩ (hbw.grown hg hz (fun k hk => by injection hk with hk; omega)) hg.size (fun _ => ⟨?_, hlt⟩) (fun b hb hne => hg.block b hb (fun e => by injection e with e; exact hne 2 (by simp [eats9]) rfl e))
      rcases hor with h | h
      · exact .inl ⟨2, by simp [eats9], rfl, h⟩
      · exact .inr (by omega)
    · obtain ⟨ty, pos, af, e⟩ := o6; rw [ho] at e; obtain rfl := Option.some.inj e
      obtain ⟨r, q2⟩ := hr 5 (.inl (by simp [eats9]))
      obtain ⟨e2, e3⟩ := hd 5 (by simp [deps9])
      have e2 : a.eval (.tmp 51) = v 5 := e2 (by decide)
      exact st_assign e2 (hK _ (g 5) _ e3 r hbw (Nat.le_refl _) (fun _ => ⟨.inl ⟨5, by simp [eats9], rfl, rfl⟩, (q2 rfl).2⟩) (fun b hb _ => rfl))
  · intro u g w hS hR hD hbw
    obtain ⟨⟨cap, e1, ow⟩, _⟩ := hR 6 (by omega) (fun e he h => by rcases seven he with rfl | rfl | rfl | rfl | rfl | rfl | rfl <;> simp [eats9] at h)
    have e1 : u 14 = .slice (some ⟨g 6, 0, none⟩) (ln + 1) cap := e1
    refine hend u (g 6) cap w e1 ?_ hbw
    have ow : w.ownsRow W.heap.size 31 4 (u 14) (ln + 1) (xs ++ y.cells.toList) := ow
    rw [e1] at ow
    exact ow
end Go.Proofs.Ytddbplgcglgloaa
